import PyProof.Rows.All
import Wide.All
import OpenK.AllK
import Wide.FinOn
import Lean
import PyProof.EqAt
import PyProof.EqKinds
import PyProof.TupleCall
import KE.KIntText
import PyProof.ConsumeWalk
import KE.KNestM
import KE.KMinKey
import KE.IntTextText
import PyProof.FitsReplace
import PyProof.StrLawsTight
import KE.KLam
import PySem.Challenge.RW_mapround_k64_colours_as_told
set_option Elab.async false
set_option linter.all false
set_option genSizeOf false
set_option bootstrap.genMatcherCode false
set_option compiler.extract_closed false
set_option genInjectivity false
set_option maxRecDepth 100000
set_option maxHeartbeats 4000000
set_option tactic.hygienic false
set_option hygiene false
local macro_rules|`($a->$b)=>`(∀å:$a,$b)
local macro_rules|`(∅)=>`(by first|lia|exact hr.mono (by decide))
set_option hygiene true
local macro_rules|`(⋯)=>`(by first|decide|simp)
theorem a_(h:True:=by rfl):True:=h
theorem b_(h:True:=by decide):True:=h
theorem c_(h:True:=by trivial):True:=h
theorem d_(h:True:=by intro _;rfl):True:=h
theorem e_(h:True:=by first|exact λ_ _ _ _ _ _ _=>rfl|exact λ_ _ _ _ _ _ _ _=>rfl|exact λ_ _ _ _ _ _ _ _ _=>rfl|exact λ_ _ _ _ _ _ _ _ _ _=>rfl):True:=h
local macro_rules|`(↑$x)=>`(autoParam $x a_._auto_1)
local macro_rules|`(⇑$x)=>`(autoParam $x b_._auto_1)
local macro_rules|`(↥$x)=>`(autoParam $x c_._auto_1)
open Option renaming bind_eq_some_iff->oBq,map_eq_some_iff->oMq,bind->cq,isSome->fC,join->q9
open List renaming getElem?_eq_some_iff->gSq,getElem?_eq_getElem->gEg,getD_eq_getElem?_getD->gDq,length_append->lAq,length_map->lMq,mem_append->mAq,mem_flatten->mFq,mem_map->mMq,getElem?_map->gMq,mem_of_getElem?->mGq,map_congr_left->mCq,getElem_mem->gRq,length_singleton->lSq,mem_singleton->mSq,length_take->lTq,nodup_append->nAq,append_nil->aNq,flatten_append->fAq,getElem?_append_right->gYq,getElem?_append_left->gZq,length_cons->lCq,map_map->mPq,map_append->mBq,mem_cons_of_mem->mCo,length_set->lZq,flatten_cons->fCq,count_append->cAq,mem_cons_self->aa,mem_cons->ae,append_assoc->af,mem_append_right->ah,mem_append_left->ai,replicate->ao,map_cons->aq,getElem?_set_ne->ar,nodup_cons->au,mem_filter->ax,perm_append_comm->ay,drop_eq_getElem_cons->az,getElem?_set_self->aA,mem_iff_getElem?->aC,size_toArray->aE,Perm->aF,range->aH,sublist_flatten_of_mem->aL,flatten_singleton->aN,length_drop->aR,length_replicate->aU,take_append_drop->aV,length_range->aX,pairwise_append->aZ,count_pos_iff->bb,getElem?_eq_none->bo,perm_ext_iff_of_nodup->bp,append_of_mem->bu,mem_flatMap->bx,Pairwise->bz,nodup_nil->bA,mem_reverse->bB,take_length->bC,getElem?_set->bE,mem_range->bF,count_nil->bG,filter_sublist->bH,getElem?_replicate->bK,mem_of_mem_drop->bN,pairwise_map->bO,nodup_iff_count->bP,map_nil->bQ,count_cons->bS,drop_length->bT,reverse_append->bU,take_sublist->bV,filter_cons_of_pos->bW,filter_cons_of_neg->bZ,nodup_iff_pairwise_ne->cg,mem_of_mem_take->cj,filter_append->cu,length_nil->cw,nil_append->cA,nodup_range->cE,perm_iff_count->cF,countP_eq_length_filter->cG,drop_sublist->cH,eraseIdx_cons_succ->cJ,length_eq_zero_iff->cK,count_eq_zero->cL,dropLast_concat->cM,not_mem_nil->cP,drop_eq_nil_of_le->cQ,append_eq_nil_iff->cR,length_filter_le->cU,eq_of_mem_replicate->cV,pairwise_cons->cW,mem_iff_getElem->cX,length->de,ext_getElem?->df,length_pos_of_mem->dh,take_of_length_le->dk,foldl_cons->dr,getElem?_range->du,length_eraseIdx_of_lt->dA,take_succ_eq_append_getElem->dB,set_set->dC,Sublist->dD,pairwise_iff_getElem->dE,cons_append->dF,mem_or_eq_of_mem_set->dG,eq_nil_or_concat->dJ,concat_eq_append->dN,find?_cons->dU,find?_cons_of_neg->dZ,getElem?_drop->eE,set_cons_zero->eI,map_replicate->eJ,map_id->eK,any_cons->eU,take_add_one->eV,eraseIdx_append_of_length_le->eZ,length_eraseIdx->fc,findIdx_lt_length_of_exists->fg,length_eq_countP_add_countP->fh,getElem?_take_of_lt->fj,mem_of_mem_eraseIdx->fm,length_pos_iff->fA,all_eq_true->fF,perm_middle->fJ,filter_eq_self->fK,map_set->fO,set_cons_succ->fP,find?_cons_of_pos->fQ,filter_eq_nil_iff->fT,filter_map->fU,set_append_right->fZ,reverse_cons->gc,filter_congr->gf,eq_replicate_iff->gg,findIdx_getElem->gi,map_reverse->gk,getElem?_zip_eq_some->gu,getElem_of_mem->gv,sublist_append_right->gw,length_erase_of_mem->gB,getElem_idxOf->gD,filter_filter->gF,getElem?_cons_zero->gJ,flatten_eq_nil_iff->gK,find?_isSome->gN,not_of_lt_findIdx->gO,drop_of_length_le->gP,all_cons->gQ,eraseIdxIfInBounds_toArray->gT,set_getElem_self->gX,lookup_cons->gY,countP_cons->gZ,any_eq_true->hU,min?_eq_some_iff->hZ,mem_eraseIdx_iff_getElem?->ie,getLast?_append->ik,drop_append_of_le_length->il,take_append_of_le_length->ip,filterMap_cons->iu,replicate_succ->iy,length_reverse->iz,dropLast_concat_getLast->iA,perm_append_comm_assoc->iB,drop_zero->iC,idxOf_lt_length_of_mem->iD,getElem?_concat_length->iE,map_take->iJ,foldl_append->iM,getElem?_inj->iN,flatMap_cons->iO,idxOf_lt_length_iff->iP,getElem_map->iW,append_inj'->iX,pairwise_mergeSort->iZ,getElem?_cons_succ->ja,pairwise_singleton->jc,getLast?_singleton->jd,flatMap_eq_nil_iff->je,of_mem_zip->jf,countP_map->jj,pairwise_lt_range->jl,sublist_cons_self->jm,getElem?_zipWith->jo,mem_of_mem_erase->jq,count_cons_of_ne->jr,eraseIdx_sublist->jt,reverse_reverse->ju,getElem_toArray->jw,mem_erase_of_ne->jx,count_cons_self->jy,mergeSort_perm->jA,flatMap_append->jB,filter_flatten->jC,map_eq_nil_iff->jD,mem_filterMap->jG,count_reverse->jH,cons->jN,length_erase->jP,ext_getElem->jU,take_take->kf,mapM_cons->km,map_drop->ky,zipWith->kC,any_map->kE,all_map->kF,map->kL,flatten->bt,getD->cn,toArray->c5,Nodup->c8,reverse->dw,eraseIdx->ef,set->fb,dropLast->l8,headD->XA
open Nat renaming le_refl->ag,ne_of_lt->aS,zero_le->aY,lt_of_lt_of_le->bg,zero_add->bD,le_trans->bI,le_succ->cO,le_of_lt->cY,sub_self->cZ,not_lt_zero->dg,add_sub_cancel->dQ,lt_succ_of_lt->dX,lt_irrefl->dY,add_comm->eN,min_eq_left->eO,strongRecOn->eQ,mod_eq_of_lt->fG,le_of_eq->fM,lt_or_eq_of_le->gC,ne_of_gt->gG,add_sub_cancel_left->gH,mod_self->gL,succ_le_succ->gR,lt_succ_self->gU,add_assoc->gV,le_add_right->gW,add_one_sub_one->iw,pos_of_ne_zero->iF,lt_succ_iff_lt_or_eq->iT,le_of_not_lt->iV,add_zero->iY,le_antisymm->ji,lt_of_succ_lt_succ->jk,lt_or_ge->jJ,le_of_lt_succ->jL,lt_trichotomy->jM,succ_ne_self->jT,min_eq_right->jV,mod_lt->kc,lt_trans->kz,succ_pos->kB,min_self->kG
open Array renaming getElem?_eq_getElem->aj,getElem?_toList->aG,length_toList->aJ,toList_append->aM,getElem_mem->bq,getElem?_eq_some_iff->bJ,toList_reverse->dR,toList_push->fV,size_extract->gE,toList_extract->ig,toList_setIfInBounds->iH,getElem?_extract->jh,mem_toList_iff->jv,getD->jz,Perm->jY,size_map->ki,toList->b9,extract->c9,eraseIdxIfInBounds->h9,setIfInBounds->lO,push->m7,reverse->o6
open PySem.Heap renaming get?_push_of_some->ak,lt_size->aw,get?_push_size->bw,get?_update_ne->fB,SameBut->fL,size_update->gj,get?_push_ne->gM,get?_update_other->jg,IsRevIter->kj,get?->eL,update->oN,push->pF,objs->p7,IsListIter->t9,FunFrames->aAj
open Option renaming some->aB,map_some->dt,isSome_map->dW,bind_some->ee,getD_none->jS,getD_some->jW,some_or->ko,none->kN
open PySem.F renaming plainAttrs_list->aD,slot_list_append->bh,type_list_append->bj,plain_min_loop->cB,slot_list_pop->dO,type_list_pop->dP,slot_list_count->fN,entry_min_loop->fR,args_list_count_2->iK,entry_list_count->iQ,slot_list_remove->iR,type_list_count->jb,entry_list_pop->aAv,isi_meta_bool->aB0,isi_meta_int->aBe,slot_list_lt->aBf
open Classical renaming propDecidable->aK,byContradiction->gA,choose_spec->ic
open Sum renaming inl->aO,inr->iI
open Int renaming toNat_natCast->aQ,neg_neg->bf,emod_lt_of_pos->cm,toNat->cC,emod_nonneg->cT,le_of_lt->ir,fdiv_eq_ediv_of_nonneg->iG,le_refl->jn,zero_add->jI,mul_one->jR,mul_le_mul->ke,natAbs_neg->kr,add_comm->kA,le_trans->kJ
open Bool renaming false_ne_true->aT,eq_iff_iff->bL,false_eq_true->eG,and_eq_true->fu,not_eq_true->fE,not_eq_true'->jO,eq_false_iff->jQ,false_and->kg
open PyProof.Rows renaming callWith_type1->bR,boot_list->eh,boot_sorted->iS,callWith_builtin1->jX,boot_isinstance->jZ,eq_dataH_same->ku,boot_tuple->kH,boot_abs->kO,boot_int->kP,lt_int->kR
open PySem.Value renaming ref->dS,type->iU,int->jK,isStrOf->kx,isInt->kM,bool->kQ,builtin->gp,none->ly,str->XP
open Or renaming inr->iq,inl->jE,resolve_left->pX,resolve_right->sW,elim->t6
open Prod renaming ext->jF,fst->kK
open PySem renaming Shared->kS,wpAny_bind->kU,model->kZ,wpAny->lg,mainGlobals->lj,Program->lu,wpAny_pure->lz,World->lB,starEach->lC,wpAny_mono->lF,FuncData->lH,codeAny_builtin->lI,Scope->lJ,compareOp->lK,wpAny_holding->lP,relabel->lQ,lookup_relabel_local->lS,call_isinstance->lU,cLine->lZ,wpAny_passesOwn->mi,isinstance_true->mj,plainId_quiet->mn,wpAny_truthy_bool->mq,sysModules->mw,builtinsNs->mz,sizeLine_eq->mB,wpAny_tryCatch->mC,wpAny_Call_Name_kw->mF,backTo->mH,bootBuiltins->mI,behindInMarks->mL,sliceBounds->mM,codeAny->mO,wpAny_comprehension_free->mR,tupleKind_room_in1->mS,binaryOp->mT,call_meets->mU,foldedSetIterable->mV,wpAny_newList->mW,wpAny_updateSeq->ni,wpAny_execs_nil->nj,codeAny_mono->nu,assignEach->nv,wpAny_seqItems->nA,callerA->nB,codeAmong->nC,closureFor->nF,holding->nH,BindsTo->nI,assign->nK,letOwnedTupleGo->nO,tupleKind->nQ,swapsWith->nS,Arguments->nT,wpAny_letGo->nV,unsupported->nX,subscripted->nY,wpAny_isTrue_Compare1->nZ,newFunctionEnv->oe,valueAt->og,getItem->oh,rawInt->oi,pyNext->oj,wpAny_newFunctionEnv->oq,bindArgs->ou,wpAny_standAt->ox,attributeBase->oz,seqIndex_neg->oA,seqItems?->oB,seqIndex?->oC,seqIndex_of->oD,richCompare->oH,mem_of_lookup->eF,boot_len->eS,Value->y4,wpAny_pyIter_revIter->LX,sizeLine->aAo,Addr->aB4,call->aBd
open PyProof.Rows renaming Keyed->kT,wpS_bind->kX,wpS_pure->kY,arrOf->lD,seqObj->lE,IntsAre->lL,wpS_forRange->lN,wpS_mono->lV,SortKind->lY,setArr->md,elem'->mh,pairsOf->mD,envOfC->mE,pendingOf->mG,wpS_modify->mJ,oneType'->mK,wpS_get->mN,getElem?_mirror_all->mP,get?_update_seq->mQ,reverseSlice'->mZ,AllBare->nh,pairsOf_size->nq,sortedHeap->nE,gallopOf->nJ,subscriptTail_builtinR->nU,size_push'->ot,listUpdate_at->oy,seqEpoch_at->oE
open PySem.Shared renaming heap->d7,toks->sq,TypeIs->Qf
open List.Perm renaming length_eq->d9,mem_iff->eP,nodup_iff->lW,trans->m9,count_eq->nt,refl->D1
open PySem.Str renaming ofString->eB
open Iff renaming mpr->e9
open PySem.Obj renaming mapSeq->fk,data->x9
open Eq renaming trans->fq,symm->fx
open PySem.PassesOwn renaming never->fy
open PySem.Scope renaming names->fX
open PySem.Expr renaming Name->fY,ListComp->o8,Subscript->p4,Call->ri,Tuple->vb,Constant->MU,BoolOp->T1,Compare->aAl
open PySem.Around renaming under_plainId->hQ,units->ph,deeper->sv,frames_deeper->X9,handled->aA2
open PySem.Paired renaming cons->iL,nil->lX,length->q0,snoc->aAw
open Break.runK renaming match_1->i9
open False renaming elim->j5
open PySem.PlainL renaming isList->j6
open PySem.Data renaming fields->j7,seq->mY,cell->p8
open PySem.NameKind renaming «local»->j8,cell->n4,free->sD
open PySem.PyData renaming depth->j9,canLay0->mA,depthAll->nR,canLayAll0->qc,int->aB1
open ForInStep renaming done->ka,yield->k6
open PySem.W renaming nsIn->l7,fnOf->x8,keepIn->aAg,codeIn->aAh,canLayAll0_ints->aAs,cellsFrom_some->aAu,depthAll_ints->aB2
open Ne renaming symm->mr
open PySem.Spec renaming same->mX,sameAll->S3
open Prod.mk renaming injEq->m8
open PySem.SeqAt renaming shaped->om,noMix->pq,noMixAll->sI,EqAt->t7,list_countAt->aA4
open List.Sublist renaming length_le->oJ
open PySem.Env renaming locals->oM,scope->p6,cells->FY,kindOf->aA6
open PySem.ScopeKind renaming function->o5
open True renaming intro->r8
open PySem.Builtin.Builtins renaming bindParams->sT
open PyProof.Rows.SortSt renaming mk'->tM
open PySem.Heap.SameBut renaming extBut->wh
open PySem.Builtin.Range renaming rangeSize->wo
open PySem.Calls renaming Name_function_global->K1,call_function_entry->N4,callWith_builtin->Uz,spliced_cons->aA3,spliced_nil->aA8
open PySem.CmpOp renaming NotIn->LM
open PySem.SeqAt.EqAt renaming int_str->Rp,str_int->Sa,int_int->Sr
open PySem.Walks renaming list->aA5
open PySem.Stmt renaming Assign->aA7,FunctionDef->aA9
open PySem.Flow renaming next->aAk
open Array.Perm renaming size_eq->aAm,mem_iff->aAn
open PySem.IsRange renaming new->aAp
open PySem.W.WData renaming int->aAq
open PySem.Code renaming compStart->aAr
open PySem.Heap.IsSliceOf renaming new->aAz
open PySem.Reads renaming tuple->aB3,list->aBg
open PySem.EqMixed renaming eq_bool_str->aB5,eq_int_str->aB6,eq_str_bool->aB7,eq_str_int->aB8,ne_bool_str->aB9,ne_int_str->aBa,ne_str_bool->aBb,ne_str_int->aBc
open PySem.EqNone renaming eq_none_none->aBh,eq_none_bool->aBi,eq_none_int->aBj,eq_none_str->aBk,eq_bool_none->aBl,eq_int_none->aBm,eq_str_none->aBn,ne_none_none->aBo,ne_none_bool->aBp,ne_none_int->aBq,ne_none_str->aBr,ne_bool_none->aBs,ne_int_none->aBt,ne_str_none->aBu
open Option renaming none->n_
open Bool renaming true->t_,false->f_
open Lean in
local macro_rules|`(tactic|have $p:term:=$e)=>do
  if !p.raw.isOfKind `Lean.Parser.Term.tuple then Macro.throwUnsupported
  let n(s x):=Syntax.node .none (`Lean.Parser.Tactic++s) x
  let m x:=n `rcasesPatMed #[mkNullNode #[x]]
  let q:=p.raw.rewriteBottomUp λs=>if s.isIdent then n `rcasesPat.one #[s] else match s with
  |.node _ k x=>if k== `Lean.Parser.Term.tuple then n `rcasesPat.tuple #[mkAtom "⟨",mkNullNode (mkSepArray ((#[x[1]!.getArg 0]++(x[1]!.getArg 2).getSepArgs).map λy=>n `rcasesPatLo #[m y,mkNullNode]) (mkAtom ",")),mkAtom "⟩"]
   else if k== `Lean.Parser.Term.hole then n `rcasesPat.ignore #[mkAtom "_"] else s
  |_=>s
  let r<-`(tactic|obtain x:=$e)
  pure (r.raw.setArg 1 (mkNullNode #[m q]))
local macro_rules|`(($a,$b,*))=>`(⟨$a,$b,*⟩)
local macro_rules|`(%[$a|$b])=>`(Prod.mk $a $b)
local macro_rules|`(tactic|show $e)=>`(tactic|refine $e)
abbrev Λ:=List<|List Int
abbrev Ϝ:=List Int
abbrev Φ:=List<|aB4×PySem.Obj
abbrev Δ:=List aB4
abbrev Θ:=List Nat
abbrev Ξ:=List y4
abbrev Ω:=Array y4
abbrev Υ:=Option y4
abbrev Ζ:=PySem.W.Frag
noncomputable section
open Array renaming mem_of_getElem?->aQq
local macro_rules|`(tactic|rfl')=>do let l<-("le_refl _,zero_le _,succ_pos _,le_add_right _ _,le_add_left _ _,le_succ _,le_of_lt a,le_of_not_lt a,le_of_lt_succ a,lt_succ_of_le a,le_succ_of_le a,sub_pos_of_lt a,le_of_eq a,le_antisymm a a,add_sub_cancel' a,sub_add_cancel a,add_comm _ _,add_right_comm _ _ _".splitOn ",").mapM λs=>do{let w:=s.splitOn;let a<-w.tail.toArray.mapM λx=>if x=="_" then `(_) else `(‹_›);`(tactic|exact $(Lean.mkIdent<|`Nat++w.head!.toName) $a*)};let l:=l.toArray;`(tactic|first|assumption|rfl|(first $[|$l:tactic]*)|exact ji ‹_› (iV ‹_›)|exact (gV _ _ _).symm|exact absurd ‹_› (dY _)|exact Int.not_lt.1 ‹_›|exact ir ‹_›|exact Int.ofNat_nonneg _|exact Int.lt_of_lt_of_le ‹_› ‹_›|exact kJ ‹_› ‹_›|ac_rfl)
local macro_rules|`(tactic|trivial)=>`(tactic|first|exact jE rfl|exact iq rfl|exact iq (jE rfl)|exact iq (iq rfl)|exact⟨rfl,rfl,rfl,by decide +kernel,rfl,by decide +kernel,by decide +kernel⟩|decide +kernel|fail)
def pZ{c}{_:Decidable c}(h:c){α}{t e:α}:ite c t e=t:=if_pos h
def pW{c}{_:Decidable c}(h:¬c){α}{t e:α}:ite c t e=e:=if_neg h
def d5{p}[Decidable p](h:p):decide p=t_:=decide_eq_true h
def d6{p}[Decidable p](h:¬p):decide p=f_:=decide_eq_false h
namespace L2
open PySem PySem.Spec PyProof.Rows
abbrev qk:=Sum Int Str
noncomputable def HG:qk->Value->Bool
 | aO k,v=>kM k v
 | iI x,v=>kx x v
noncomputable def aeN(w:lB):qk->Int
 | aO k=>hashInt k
 | iI x=>hashStr w x
def rK:∀{k}{v},HG k v=t_->(∃i t,k=aO i/\v=jK i t)∨(∃x t,k=iI x/\v=XP x t)
 | aO i,v,h=>by have(t,e):=Value.isInt_shape h;show jE (i,t,rfl,e)
 | iI x,v,h=>by have(t,e):=Value.isStrOf_shape h;show iq (x,t,rfl,e)
def RN(i)t:HG (aO i) (jK i t)=t_:=by simp[HG,kM]
def Rz(x)t:HG (iI x) (XP x t)=t_:=by simp[HG,kx]
def aaj a b:decide ((aO a:qk)=aO b)=(a == b):=by
 by_cases e:a=b;.subst e;simp
 .have h:¬ (aO a:qk)=aO b:=λq=>e<|aO.inj q;rw[d6 h];show(e9 beq_eq_false_iff_ne e).symm
def ZL a b:decide ((iI a:qk)=iI b)=decide (a=b):=by
 by_cases e:a=b;.simp
 .have h:¬ (iI a:qk)=iI b:=λq=>e<|iI.inj q;rw[d6 h,d6 e]
def aaA(a)b:decide ((aO a:qk)=iI b)=f_:=d6<|λq=>nomatch q
def ace(a)b:decide ((iI a:qk)=aO b)=f_:=d6<|λq=>nomatch q
def rY(prog)w:PySem.KeyKind prog w qk where
 is:=HG
 hash:=aeN w
 inj:=λv a b ha hb=>by
  obtain⟨i,t,rfl,rfl⟩|⟨x,t,rfl,rfl⟩:=rK ha
  .obtain⟨j,u,rfl,e⟩|⟨y,u,rfl,e⟩:=rK hb;.injection e with l _;rw[l]
   .show nomatch e
  .obtain⟨j,u,rfl,e⟩|⟨y,u,rfl,e⟩:=rK hb;.show nomatch e
   .injection e with l _;rw[l]
 byValue:=λk v h=>by obtain⟨i,t,rfl,rfl⟩|⟨x,t,rfl,rfl⟩:=rK h <;> rfl
 pyHash:=λn h=>by
  obtain⟨i,t,rfl,rfl⟩|⟨x,t,rfl,rfl⟩:=rK n;.show wpAny_pyHash_int h
  .show wpAny_pyHash_str h
 eqBool:=λs n h=>by
  obtain⟨i,t,rfl,rfl⟩|⟨x,t,rfl,rfl⟩:=rK s
  .obtain⟨j,u,rfl,rfl⟩|⟨y,u,rfl,rfl⟩:=rK n;.rw[aaj]at h;show wpAny_eqBool_int h
   .rw[aaA]at h;show Rp i t y u _ _ _ _ h
  .obtain⟨j,u,rfl,rfl⟩|⟨y,u,rfl,rfl⟩:=rK n;.rw[ace]at h;show Sa x t j u _ _ _ _ h
   .rw[ZL]at h;show wpAny_eqBool_str h
 «strs»:=λk x t v h=>by
  obtain⟨i,u,rfl,e⟩|⟨y,u,rfl,e⟩:=rK h;.show nomatch e
  .injection e with l _;subst l;cases v <;> rfl
def Lx(prog)w i t:(rY prog w).is (aO i) (jK i t)=t_:=RN i t
def KB(prog)w x t:(rY prog w).is (iI x) (XP x t)=t_:=Rz x t
set_option genInjectivity true in
inductive V where
 |non|bl (b:Bool)|int (i:Int)|str (x:Str)|byt (b:Array UInt8)|flt (b:UInt64)|ref (a:Addr)|ty (n:String)
 deriving DecidableEq
open L2.V renaming ref->c6,int->c7,non->nc,bl->pY,str->wy
def qH:V->Value->Prop
 | nc,u=>u=ly
 | pY b,u=>u=kQ b
 | c7 i,u=>∃t,u=jK i t
 | wy x,u=>∃t,u=XP x t
 | .byt b,u=>∃t,u=Value.bytes b t
 | .flt b,u=>∃t,u=Value.float b t
 | c6 a,u=>u=dS a
 | .ty n,u=>u=iU n
abbrev qB:List V->Ξ->Prop:=Paired qH
def qB.length(r:qB xs l):de xs=de l:=q0 r
open L2.qB renaming length->n7
theorem qB.get:∀{xs}{l}{i:Nat}{x},qB xs l->xs[i]?=aB x->∃u,l[i]?=aB u/\qH x u
 |_,_,_,_,lX,e=>by simp at e
 |_,_,0,_,iL r _,e=>by simp at e;subst e;show(_,rfl,r)
 |_,_,i+1,x,iL _ t,e=>by
  have(u,n,s):=qB.get t<|by show e
  show(u,by show n,s)
theorem qB.set(r:qH x u):∀{xs}{l}i,qB xs l->qB (fb xs i x) (fb l i u)
 |_,_,_,lX=>lX
 |_,_,0,iL _ t=>iL r t
 |_,_,i+1,iL q t=>iL q<|qB.set r i t
theorem qB.append:∀{xs l}{n ws},qB xs n->qB l ws->qB (xs++l) (n++ws)
 |_,_,_,_,lX,s=>s
 |_,_,_,_,iL r t,s=>iL r<|qB.append t s
theorem qB.take:∀{xs}{l}n,qB xs l->qB (xs.take n) (l.take n)
 |_,_,0,_=>lX
 |_,_,_+1,lX=>lX
 |_,_,n+1,iL r t=>iL r<|qB.take n t
theorem qB.drop:∀{xs}{l}n,qB xs l->qB (xs.drop n) (l.drop n)
 |_,_,0,r=>r
 |_,_,_+1,lX=>lX
 |_,_,n+1,iL _ t=>qB.drop n t
def Ht:Option V->Υ->Prop
 |aB v,aB u=>qH v u
 |n_,n_=>True
 |_,_=>False
def KV:List (κ×V)->List (κ×Value)->Prop:=Paired λ(p:κ×V) (q:κ×Value)=>p.1=q.1/\qH p.2 q.2
noncomputable def kV:qk->V
 | aO i=>c7 i
 | iI x=>wy x
inductive HO where
 /-- a list -/
 |lst (xs:List V)
 /-- a tuple (never changes) -/
 |tup (xs:List V)
 /-- a dict whose keys are ints and texts;one whose keys are tuples of ints and texts (the empty one is acj) -/
 |dK (kvs:List<|qk×V)|dT (kvs:List<|List qk×V)
 /-- a set of ints: its members,its size -/
 |set (S:Int->Bool) (n:Nat)
 /-- an instance of the class at C,its dict at dx,its attributes -/
 |ins (C dx:Addr) (fs:List<|Str×V)
 /-- the dict of the instance at x -/
 |own (x:Addr)
 /-- the dict of an exception -/
 |xd (fs:List<|Str×V)
 /-- a bound method,f of x -/
 |met (f x:Addr)
 /-- a range object lo,lo+1,.. below hi -/
 |rng (lo hi:Int)
 /-- a thing that is known to the object (the script;a dict while a loop walks it): read,never written while it is so -/
 |frz (o:Obj) (u:HO)
 /-- a code object's table -/
 |tbl (q:Str)
 /-- any other thing,by what is true of its one object (a def of one's own: SetO a S n:=HO.ext λh=>..) -/
 |ext (φ:Heap->Prop)
open L2.HO renaming tup->vu
abbrev Hp:=Addr->Option HO
noncomputable def rG(H:Hp)(a:Addr)(o:HO):Hp:=λb=>if b=a then aB o else H b
def pS:rG H a o a=aB o:=by delta rG;rw[pZ rfl]
def pK(h:b≠a):rG H a o b=H b:=by delta rG;rw[pW h]
def ad7{H:Hp}(h:H a=aB o)(h':H b=aB u)(d:o≠u):a≠b:=by intro e;subst e;rw[h]at h';show d<|aB.inj h'
def rp{H:Hp}(h:H a=aB o)(h':H b=n_):a≠b:=by intro e;subst e;rw[h]at h';cases h'
section
variable (P:lu)(w:lB)
def uf(H:Hp)(h:Heap)(a:Addr):HO->Prop
 | .lst xs=>xs.length<=sizeLine/\∃l n,qB xs l/\h.get? a=aB { cls:=.type "list", data:=.seq l.toArray n }
 | .tup xs=>xs.length<=sizeLine/\∃l:Ξ,qB xs l/\IsTup h a l.toArray
 | .dK kvs=>kvs.length<=sizeLine/\(a == mw)=f_/\∃vs,KV kvs vs/\h.DictOf (rY P w) a vs
 | .dT kvs=>kvs.length<=sizeLine/\(a == mw)=f_/\∃xs:List (List qk×Addr×Value),
   Paired (λ(p:List qk×V) (q:List qk×Addr×Value)=>p.1=q.1/\H q.2.1=aB (.tup<|p.1.map kV)/\qH p.2 q.2.2) kvs xs /\
   ∃o B ep,h.get? a=aB o/\o.ExactDict/\o.data = .dict B ep/\B.toList=xs.map (entryOfKey<|nQ<|rY P w)/\(xs.map (·.1)).Nodup
 | .set S n=>h.SetOf (intKind P w) a S n
 | .ins C z fs=>H z=aB (.own a)/\fs.length<=1000/\z≠a/\h.get? a=aB (W.instObj C z) /\
   ∃s,h.Ns1 z s/\(∀f,Ht (fs.lookup f)<|s f)/\PySem.Within s (fs.map (·.1))
 | .own _=>∃o,h.get? a=aB o
 | .xd fs=>∃s,h.Ns1 a s/\∀f,Ht (fs.lookup f)<|s f
 | .rng lo hi=>∃t u v,h.get? a=aB { cls:=.type "range", data:=.fields #[.int lo t,.int hi u,.int 1 v] }
 | .frz o u=>h.get? a=aB o/\uf H h a u
 | .tbl q=>∃ps:Ω,h.get? a=aB { cls:=.none,data:=.fields ps }/\PySem.TriplesOk ps.toList/\∀p cv,nC p ps.toList=aB cv->∃b E vs J,cv = .ref b/\H b=aB (.frz E<|.own a)/\E.data = .fields vs/\vs[1]?=aB (.str q J)
 | .met f x=>h.get? a=aB (W.methodObj (.ref f)<|.ref x)
 | .ext φ=>φ h/\(∃o,h.get? a=aB o)/\∀G I:Heap,φ G->(∀o,G.get? a=aB o->I.get? a=aB o)->φ I
def CQ(H:Hp)(h:Heap):Prop:=∀a o,H a=aB o->uf P w H h a o
end
section
variable {a:Addr}
def uf.lt(x:uf P w H h a o):a<h.objs.size:=by cases o with
 |lst s=>have(_,_,_,_,e):=x;show aw e
 |tup s=>have(_,_,_,p):=x;show p.lt
 |dK l=>have(_,_,_,_,o,_,_,e,_):=x;show aw e
 |dT l=>have(_,_,_,_,o,_,_,e,_):=x;show aw e
 |set S n=>have(o,_,_,_,e,_):=x;show aw e
 |ins C t fs=>have(_,_,_,e,_):=x;show aw e
 |own y=>have(_,e):=x;show aw e
 |xd fs=>have(_,(_,_,_,e,_),_):=x;show aw e
 |rng lo hi=>have(_,_,_,e):=x;show aw e
 |frz z u=>have(e,_):=x;show aw e
 |tbl q=>have(_,e,_):=x;show aw e
 |met f y=>show aw<|x
 |ext φ=>have(_,(_,e),_):=x;show aw e
theorem Paired.mapP{F G:α->β->Prop}:∀{l₁}{l₂},Paired F l₁ l₂->(∀a b,F a b->G a b)->Paired G l₁ l₂
 |_,_,lX,_=>lX
 |_,_,iL r t,f=>iL (f _ _ r)<|Paired.mapP t f
def uf.stay(x:uf P w H h a o)(k:∀b u,(b=a∨H b=aB (.own a))->eL h b=aB u->eL h' b=aB u)
  (O:∀b,H b=aB (.own a)->H' b=aB (.own a)) (ht:∀b xs,H b=aB (vu xs)->H' b=aB (vu xs)) (hz:∀b l,H b=aB (.frz l<|.own a)->H' b=aB (.frz l<|.own a)):uf P w H' h' a o:=by induction o with
 |lst xs=>have(z,E,n,r,e):=x;show(z,E,n,r,k _ _ (jE rfl) e)
 |tup xs=>have(z,E,r,l,e,c):=x;show(z,E,r,l,k _ _ (jE rfl) e,c)
 |dK G=>have(z,y,I,r,l,s,B,e,c):=x;show(z,y,I,r,l,s,B,k _ _ (jE rfl) e,c)
 |dT G=>have(z,y,xs,r,l,s,B,e,c):=x;show(z,y,xs,Paired.mapP r λp q z=>(z.1,ht _ _ z.2.1,z.2.2),l,s,B,k _ _ (jE rfl) e,c)
 |set S n=>have(l,s,B,t,e,c):=x;show(l,s,B,t,k _ _ (jE rfl) e,c)
 |ins C dx fs=>have(d,z,ne,e,J,(L,s,B,M,c),r):=x;show(O _ d,z,ne,k _ _ (jE rfl) e,J,(L,s,B,k _ _ (iq d) M,c),r)
 |own y=>have(l,e):=x;show(l,k _ _ (jE rfl) e)
 |xd fs=>have(J,(L,s,B,e,c),r):=x;show(J,(L,s,B,k _ _ (jE rfl) e,c),r)
 |rng lo hi=>have(t,u,v,e):=x;show(t,u,v,k _ _ (jE rfl) e)
 |frz l u Q=>have(e,q):=x;show(k _ _ (jE rfl) e,Q q)
 |tbl q=>have(R,e,t,r):=x;show(R,k _ _ (jE rfl) e,t,λp cv U=>?_);have(b,X,I,Y,e1,M,e4):=r p cv U;show(b,X,I,Y,e1,hz _ _ M,e4)
 |met f y=>have e:=x;show k a _ (jE rfl) e
 |ext φ=>have(p,(o,e),st):=x;show(st _ _ p λo q=>k _ _ (jE rfl) q,(o,k _ _ (jE rfl) e),st)
def CQ.lt(x:CQ P w H h)(e:H a=aB o):a<h.objs.size:=(x a o e).lt
def CQ.fresh(x:CQ P w H h)(e:h.objs.size<=a):H a=n_:=by cases q:H a with
 |none=>rfl
 |some u=>show absurd (bg (x.lt q) e)<|dY _
def CQ.kept(x:CQ P w H h)(k:∀b u,eL h b=aB u->eL h' b=aB u):CQ P w H h':=λa o e=>(x a o e).stay (λb u Q q=>k b u q) (λQ q=>q) (λQ Q q=>q) λQ Q q=>q
def CQ.laid(x:CQ P w H h)(k:∀b u,eL h b=aB u->eL h' b=aB u)(l:h.objs.size<=a)(new:uf P w (rG H a o) h' a o):CQ P w (rG H a o) h':=λb u e=>by
 have hn:=x.fresh l;by_cases hb:b=a;.subst hb;rw[pS]at e;cases e;show new
 .rw[pK hb]at e;show(x b u e).stay (λc v Q q=>k c v q) (λc q=>by rw[pK<|rp q hn];show q) (λc n q=>by rw[pK<|rp q hn];show q) λc n q=>by rw[pK<|rp q hn];show q
end
def Rd(H:Hp)(a:Addr)(u:HO):Prop:=H a=aB u∨∃o,H a=aB (.frz o u)
def Rd.ok(r:Rd H a u)(x:CQ P w H h):uf P w H h a u:=by
 obtain r|⟨o,r⟩:=r;.show x a u r
 .have(_,q):=x a _ r;show q
def Mut:Option HO->Prop
 |aB (.lst _)=>True
 |aB (.dK _)=>True
 |aB (.dT _)=>True
 |aB (.set _ _)=>True
 |aB (.ins _ _ _)=>True
 |aB (.ext _)=>True
 |_=>False
def CQ.write(ok:CQ P w H h)(mu:Mut<|H x)(G:e=x∨H e=aB (.own x))(k:∀b u,b≠e->eL h b=aB u->eL h' b=aB u)(E:∃u,eL h' e=aB u)
  (new:uf P w (rG H x o') h' x o'):CQ P w (rG H x o') h':=λb u q=>by
 have n:∀c y,H c=aB (.own y)->c≠x:=λc y r z=>by subst z;rw[r]at mu;show mu
 have s:∀c t,H c=aB (vu t)->c≠x:=λc t r z=>by subst z;rw[r]at mu;show mu
 by_cases hb:b=x;.cases hb;rw[pS]at q;cases q;show new
 .rw[pK hb]at q;by_cases l:b=e
  .have I:H b=aB (.own x):=by
    obtain z|z:=G;.show absurd (fq l z) hb
    .rw[l];show z
   rw[q]at I;cases I;have(v,J):=E;show(v,by rw[l];show J)
  .show(ok b u q).stay (λc v B r=>k c v ?_ r) (λc r=>by rw[pK<|n c b r];show r) (λc t r=>by rw[pK<|s c t r];show r) λc L r=>by rw[pK<|show c≠x from λz=>by subst z;rw[r]at mu;show mu];show r
   obtain rfl|B:=B;.show l
   .rintro rfl;obtain z|z:=G;.show n c b B z
    .rw[B]at z;cases z;show hb rfl
structure Un (fs ex:Δ)(H H':Hp)(h h':Heap):Prop where
 keep:∀b o,h.get? b=aB o->H b=n_->b∉fs->b∉ex->h'.get? b=aB o
 slot:∀b o,h.get? b=aB o->H b=n_->b∈fs->b∉ex->∃sl,h'.get? b=aB { o with slots:=sl }
 free:∀b o,h.get? b=aB o->H b=n_->b∉ex->H' b=n_
 there:∀b o,h.get? b=aB o->b∉ex->∃o',h'.get? b=aB o'
 tups:∀b xs,H b=aB (.tup xs)->H' b=aB (.tup xs)
 frzs:∀b o u,H b=aB (.frz o u)->H' b=aB (.frz o u)
 tbls:∀b q,H b=aB (.tbl q)->H' b=aB (.tbl q)
section
variable {a:Addr}
def Un.any(u:Un fs ex H H1 h h1)(q:eL h b=aB l)(n:H b=n_)(s:b∉ex):∃t,eL h1 b=aB { l with slots:=t }:=by
 by_cases hb:b∈fs;.show u.slot b l q n hb s
 .show(l.slots,u.keep b l q n hb s)
def Un.kept(k:∀b u,eL h b=aB u->eL h' b=aB u):Un fs ex H H h h':=(λb l q Q Q Q=>k b l q,λb l q Q Q Q=>(l.slots,k b l q),λQ Q Q n Q=>n,λb l q Q=>(l,k b l q),λQ Q q=>q,λQ Q Q q=>q,λQ Q q=>q)
def Un.refl:Un fs ex H H h h:=Un.kept λQ Q q=>q
def Un.laid(k:∀b u,eL h b=aB u->eL h' b=aB u)(l:h.objs.size<=a)(hn:H a=n_):Un fs ex H (rG H a o) h h' where
 keep:=λb u q Q Q Q=>k b u q
 slot:=λb u q Q Q Q=>(u.slots,k b u q)
 free:=λb u q n Q=>by rw[pK<|aS<|bg (aw q) l];show n
 there:=λb u q Q=>(u,k b u q)
 tups:=λb xs q=>by rw[pK<|rp q hn];show q
 frzs:=λb u xs q=>by rw[pK<|rp q hn];show q
 tbls:=λb Q q=>by rw[pK<|rp q hn];show q
def Un.write(mu:Mut<|H x)(E:e=x∨H e=aB (.own x))(k:∀b u,b≠e->eL h b=aB u->eL h' b=aB u)(s:∃u,eL h' e=aB u):Un fs ex H (rG H x o) h h':=by
 have B:∀b,H b=n_->b≠x:=λb n z=>by subst z;rw[n]at mu;show mu
 have hb:∀b,H b=n_->b≠e:=λb n z=>by
  subst z;obtain r|r:=E;.show B b n r
  .rw[n]at r;cases r
 have t:∀b u,H b=aB u->¬ Mut (aB u)->b≠x:=λb u q nm z=>by subst z;rw[q]at mu;show nm mu
 show(λb u q n Q Q=>k b u (hb b n) q,λb u q n Q Q=>(u.slots,k b u (hb b n) q),λb u q n Q=>by rw[pK<|B b n];show n,λb u q Q=>?_,
  λb G q=>by rw[pK<|t b _ q λz=>z];show q,λb u G q=>by rw[pK<|t b _ q λz=>z];show q,λb Q q=>by rw[pK<|t b _ q λz=>z];show q);by_cases l:b=e;.subst l;show s
 .show(u,k b u l q)
end
noncomputable def trk(h:Heap)(H:Hp):Δ:=(aH h.objs.size).filter λa=>fC (H a)
def My(h:Heap)(H:Hp):Heap:=W.hideAll h<|trk h H
def RP(h)H:(My h H).objs.size=h.objs.size:=W.hideAll_size _ _
def FI(e:eL h b=aB o)(n:H b=n_):eL (My h H) b=aB o:=W.hideAll_get _ e λl=>by have q:=(ax.mp l).2;rw[n]at q;simp at q
def Xh(e:eL (My h H) b=aB o):eL h b=aB o/\H b=n_:=by have l:=W.of_hideAll (trk h H) e;show(l,?_);cases q:H b with
 |none=>rfl
 |some x=>have n:b∈trk h H:=e9 ax (e9 bF<|aw l,by simp[q]);have z:eL (My h H) b=n_:=W.hideAll_none (trk h H) n;rw[z]at e;cases e
noncomputable def XU(g h:Heap)(L:Addr):Φ:=(aH h.objs.size).filterMap λa=>if a=L∨fC (eL g a)=t_ then n_ else (eL h a).map λo=>%[a|o]
def rest(g h:Heap)(L d:Addr):Φ:=(XU g h L).filter λp=>decide<|p.1≠d
noncomputable def Vl:List Str:=["least_round","rarest"]
def adg(K:Ζ)(o:Obj):Option<|Addr×Str:=match x9 o with
 | .func fd=>if Vl.contains fd.name then (match fd.code with
  | dS c=>(match K.lookup c with
   |aB l=>(match x9 l with
    | j7 vs=>(match (vs[11]?:Υ)with
     |aB (dS P)=>aB %[P|fd.qualname ++ ".<locals>." ++ "<lambda>"]
     |_=>n_)
    |_=>n_)
   |n_=>n_)
  |_=>n_)else n_
 |_=>n_
def vM(K:Ζ):List<|Addr×Str:=K.filterMap λp=>adg K p.2
def W7(K:Ζ)(H:Hp):Prop:=∀q∈vM K,H q.1=aB (.tbl q.2)
structure Mod (K:Ζ)(mg:Str->Υ)(base:Heap):Prop where
 kin:K.In base
 glob:base.Ns lj mg
 blt:∃mb,base.Ns mz mb/\∀x:Str,x ≠ "__name__" -> mb x=mI x
 nolimit:base.NoLimit
 bmod:∃bm o,mg "__builtins__" = aB (.ref bm)/\bm≠mz/\base.get? bm=aB o/\o.cls = .type "module" /\ o.dict=aB mz/\o.data = .plain
structure Cx where
 prog:lu
 w:lB
 K:Ζ
 mg:Str->Υ
 base:Heap
 A:Around
 N:List Str
 s₀:kS
 H₀:Hp
 env:Env
 outer:List Env
 stack:List Env
 ex:Δ
 fn:Str->Bool
 calm:Bool
 pn:Φ
 xe:Value->kS->Prop
open L2.Cx renaming prog->g9,env->k7
noncomputable def Sj(l:List Env):Δ:=l.filterMap (·.frame)
abbrev Cx.fs(X:Cx):Δ:=Sj X.outer
def Vis(l:lJ)(x:Str):Prop:=l.names.lookup x=aB j8∨l.names.lookup x=aB n4∨l.names.lookup x=aB sD
def Loc(l:lJ)(x:Str):Prop:=l.names.lookup x=aB j8∨l.names.lookup x=aB n4
def ae6(env:Env)(h:Heap)(m:Str->Υ)(x:Str)(u:Value):Prop:=(aA6 env x=aB j8/\m x=aB u)∨((aA6 env x=aB n4∨aA6 env x=aB sD)/\∃c,env.cells.lookup x=aB c/\h.IsCell c (aB u))
set_option genInjectivity true in
structure Cx.Ok (X:Cx):Prop where
 mod:Mod X.K X.mg X.base
 kind:X.env.scope.kind = .function
 glob:X.env.globals=lj
 blt:X.env.builtins=mz
 above:X.s₀.heap.objs.size<=X.env.locals
 inj:∀x y c,X.env.cells.lookup x=aB c->X.env.cells.lookup y=aB c->x=y
 has:∀x,(X.env.kindOf x=aB .cell∨X.env.kindOf x=aB .free)->∃c,X.env.cells.lookup x=aB c
 cab:∀x c,X.fn x=t_->X.env.cells.lookup x=aB c->X.s₀.heap.objs.size<=c
 hd:X.calm=t_->X.A.handled=n_
 frames:X.A.frames=aB X.stack
 stk:X.stack=X.outer∨(X.stack=X.env::X.outer/\X.env.frame=aB X.env.locals)
 exf:∀b∈X.ex,b≠X.env.locals/\∀x c,X.env.cells.lookup x=aB c->c≠b
 bs:∀b o,X.base.get? b=aB o->X.s₀.heap.get? b=aB o/\X.H₀ b=n_
 bsz:X.base.objs.size<=X.s₀.heap.objs.size
 noex:∀b o,X.base.get? b=aB o->b∉X.ex
 exfs:∀b∈X.ex,b∉X.fs
 funs:X.s₀.heap.FunFrames X.base X.outer
 frf:∀b∈X.fs,X.H₀ b=n_
 tb:W7 X.K X.H₀
structure Inv (X:Cx)(oO:Φ)(σ:List<|Option V)(H:Hp)(s:kS):Prop where
 ok:X.Ok
 os:s.os=X.s₀.os
 bare:nh s.gens
 base:Un X.fs X.ex X.H₀ H X.s₀.heap s.heap
 loc:∃m,s.heap.Ns X.env.locals m/\∀(i:Nat) (x:Str) (v:V),X.N[i]?=aB x->σ[i]?=aB (aB v)->Vis X.env.scope x->∃u,qH v u/\ae6 X.env s.heap m x u
 cell:∀x c,X.env.cells.lookup x=aB c->∃v,s.heap.IsCell c v
 free:H X.env.locals=n_
 freeC:∀x c,X.env.cells.lookup x=aB c->H c=n_
 pin:∀p∈X.pn++oO,s.heap.get? p.1=aB p.2/\H p.1=n_/\p.1≠X.env.locals/\p.1∉X.fs/\∀v,p.2.data ≠ .cell v
 hok:CQ X.prog X.w H s.heap
 len:σ.length=X.N.length
open L2.Inv renaming base->si
section
variable {X:Cx}
def Cx.Ok.nofr(ok:X.Ok)(e:eL X.base b=aB o):b∉X.fs:=λhb=>by have:=(ok.funs.mem hb).1;rw[e]at this;cases this
def Inv.bs(I:Inv X oO σ H s):∀b o,eL X.base b=aB o->eL (d7 s) b=aB o/\H b=n_:=λb o e=>(I.base.keep b o (I.ok.bs b o e).1 (I.ok.bs b o e).2 (I.ok.nofr e)<|I.ok.noex b o e,I.base.free b o (I.ok.bs b o e).1 (I.ok.bs b o e).2<|I.ok.noex b o e)
def Inv.bk(I:Inv X oO σ H s):∀b o,eL X.base b=aB o->eL (d7 s) b=aB o:=λb o e=>(I.bs b o e).1
def Inv.tb(I:Inv X oO σ H s):W7 X.K H:=λq l=>I.base.tbls _ _<|I.ok.tb q l
def Inv.mod(I:Inv X oO σ H s):Mod X.K X.mg X.base:=I.ok.mod
def Inv.kIn(I:Inv X oO σ H s):X.K.In<|d7 s:=I.ok.mod.kin.keeps I.bk
def Inv.nolimit(I:Inv X oO σ H s):s.heap.NoLimit:=I.ok.mod.nolimit.keeps I.bk
def Inv.lt(I:Inv X oO σ H s):oM (k7 X)<s.heap.objs.size:=let ⟨_,hn,_⟩:=I.loc;hn.lt
def Inv.sz(I:Inv X oO σ H s):X.s₀.heap.objs.size<=s.heap.objs.size:=bI I.ok.above<|cY I.lt
def Inv.nofs(I:Inv X oO σ H s){a:Addr}(h:s.heap.objs.size<=a):a∉X.fs:=λhb=>by have(_,o,l,_):=I.ok.funs.mem hb;show absurd (bg (aw l)<|bI I.sz h)<|dY _
def Inv.cne(I:Inv X oO σ H s):∀x c,X.env.cells.lookup x=aB c->c≠oM (k7 X):=λx c e z=>by have(v,o,t,hd):=I.cell x c e;have(m,(u,B,E,l,n,_),_):=I.loc;rw[z,l]at t;cases t;rw[n]at hd;cases hd
def Inv.funs(I:Inv X oO σ H s):aAj (d7 s) X.base X.outer:=by
 have all:∀l,(∀b∈Sj l,b∈X.fs)->aAj (d7 X.s₀) X.base l->aAj (d7 s) X.base l:=by intro l;induction l with
  |nil=>intro _ _;trivial
  |cons env r u=>
   intro t hl;have(hk,(L,o,hf,hn,x,hd),hr):=hl;have n:=t L<|by delta Sj;rw[iu,hf];show aa
   have(B,e):=I.base.slot L o x (I.ok.frf L n) n λz=>I.ok.exfs L z n;show(hk,(L,_,hf,hn,e,hd),u (λb hb=>t b<|by delta Sj;rw[iu,hf];show mCo _ hb) hr)
 show all X.outer (λQ hb=>hb) I.ok.funs
def Inv.stack(I:Inv X oO σ H s):aAj (d7 s) X.base X.stack:=by
 obtain e|⟨e,hf⟩:=I.ok.stk;.rw[e];show I.funs
 .rw[e];have(m,hn,_):=I.loc;show .cons (by rw[I.ok.kind];decide) hf hn ?_ I.funs;show Heap.get?_none_of_le<|bI I.ok.bsz I.ok.above
def Inv.stkSub(I:Inv X oO σ H s):∀b∈Sj X.stack,b∈oM (k7 X)::X.fs:=λb hb=>by
 obtain e|⟨e,hf⟩:=I.ok.stk;.rw[e]at hb;show mCo _ hb
 .rw[e]at hb;delta Sj at hb;rw[iu,hf]at hb;show hb
def Inv.stkFree(I:Inv X oO σ H s):∀b∈Sj X.stack,H b=n_:=λb hb=>by
 obtain e|hb:=ae.mp<|I.stkSub b hb;.rw[e];show I.free
 .have(_,o,l,_):=I.ok.funs.mem hb;show I.base.free b o l (I.ok.frf b hb) λz=>I.ok.exfs b z hb
def Inv.step{ch:Δ}(I:Inv X oO σ H s)
  (B:∀b∈ch,(b∈X.ex∨X.s₀.heap.objs.size<=b)/\b≠oM (k7 X)/\(∀x c,X.env.cells.lookup x=aB c->c≠b)/\∀p∈X.pn++oO,p.1≠b)
  (keep:∀b o,b≠oM (k7 X)->b∉X.fs->b∉ch->eL (d7 s) b=aB o->H b=n_->eL h' b=aB o)
  (slot:∀b o,b≠oM (k7 X)->b∈X.fs->b∉ch->eL (d7 s) b=aB o->H b=n_->∃Q,eL h' b=aB { o with slots:=Q }) (free:∀b o,b∉ch->eL (d7 s) b=aB o->H b=n_->H' b=n_)
  (there:∀b o,b∉ch->eL (d7 s) b=aB o->∃O,eL h' b=aB O)
  (tups:∀b xs,H b=aB (vu xs)->H' b=aB (vu xs)) (frzs:∀b o u,H b=aB (.frz o u)->H' b=aB (.frz o u)) (tbls:∀b q,H b=aB (.tbl q)->H' b=aB (.tbl q))
  (ns:∀m,s.heap.Ns (oM (k7 X)) m->h'.Ns (oM (k7 X)) m) (hok:CQ X.prog X.w H' h') (hg:nh g') :
  Inv X oO σ H' { s with heap:=h',gens:=g',drawn:=d',toks:=t' }:=by
 have P:∀b o,eL (d7 X.s₀) b=aB o->b≠oM (k7 X):=λb o e=>aS<|bg (aw e) I.ok.above;have J:∀b o,eL (d7 X.s₀) b=aB o->b∉X.ex->b∉ch:=λb o e t hb=>by
  obtain z|z:=(B b hb).1;.show t z
  .show absurd (bg (aw e) z)<|dY _
 have E:∀x c,X.env.cells.lookup x=aB c->∀v,s.heap.IsCell c v->h'.IsCell c v:=λx c e v ⟨o,M,hd⟩=>by
  have G:=λz=>(B c z).2.2.1 x c e rfl;by_cases U:c∈X.fs;.have(Q,q):=slot c o (I.cne x c e) U G M<|I.freeC x c e;show(_,q,hd)
  .show(o,keep c o (I.cne x c e) U G M<|I.freeC x c e,hd)
 show(I.ok,I.os,hg,(λb o e n hb t=>?_,λb o e n hb t=>?_,λb o e n t=>?_,λb o e t=>?_,λb xs e=>tups b xs<|I.base.tups b xs e,λb o xs e=>frzs b o xs<|I.base.frzs b o xs e,λb q e=>tbls b q<|I.base.tbls b q e),?_,λx c e=>?_,?_,λx c e=>?_,λp Y=>?_,hok,I.len);.show keep b o (P b o e) hb (J b o e t) (I.base.keep b o e n hb t)<|I.base.free b o e n t
 .have(Q,L):=I.base.slot b o e n hb t;have(R,S):=slot b _ (P b o e) hb (J b o e t) L<|I.base.free b o e n t;show(R,S)
 .have(O,L):=I.base.there b o e t;show free b O (J b o e t) L<|I.base.free b o e n t
 .have(O,L):=I.base.there b o e t;show there b O (J b o e t) L
 .have(m,hn,hl):=I.loc;show(m,ns m hn,λi x v L S e3=>?_);have(u,r,l):=hl i x v L S e3;show(u,r,?_);obtain l|⟨k,c,e,z⟩:=l;.show jE l
  .show iq (k,c,e,E x c e _ z)
 .have(v,z):=I.cell x c e;show(v,E x c e v z)
 .have(m,(o,_,_,M,_),_):=I.loc;show free _ o (λz=>(B _ z).2.1 rfl) M I.free
 .have(v,o,M,hd):=I.cell x c e;show free c o (λz=>(B c z).2.2.1 x c e rfl) M<|I.freeC x c e
 .have(e,n,ne,nf,d):=I.pin p Y;have G:=λz=>(B p.1 z).2.2.2 p Y rfl;show(keep p.1 p.2 ne nf G e n,free p.1 p.2 G e n,ne,nf,d)
def Inv.un(I:Inv X oO σ H s)(u:Un X.fs [] H H' s.heap h')(hok:CQ X.prog X.w H' h'):Inv X oO σ H' { s with heap:=h',toks:=t' }:=by have(m,(o,L,M,B,r),_):=id I.loc;have(O,E):=u.any B I.free ⋯;show I.step (ch:=[]) (λZ z=>nomatch z) (λb o Z hb Z e n=>u.keep b o e n hb ⋯) (λb o Z hb Z e n=>u.slot b o e n hb ⋯) (λb o Z e n=>u.free b o e n ⋯) (λb o Z e=>u.there b o e ⋯) u.tups u.frzs u.tbls (λP G=>by have(Q,t,x,l,J):=G;rw[B]at l;cases l;show(_,t,x,E,J)) hok I.bare
def Inv.call(I:Inv X oO σ H s)(u:Un (Sj X.stack) ch H H' s.heap h')(hok:CQ X.prog X.w H' h')(M:nh g')
  (t:∀b∈ch,(b∈X.ex∨X.s₀.heap.objs.size<=b)/\b≠oM (k7 X)/\(∀x c,X.env.cells.lookup x=aB c->c≠b)/\∀p∈X.pn++oO,p.1≠b) :
  Inv X oO σ H' { s with heap:=h',gens:=g',drawn:=d',toks:=t' }:=by have(m,(o,Q,R,L,r),_):=id I.loc;have(S,E):=u.any L I.free λz=>(t _ z).2.1 rfl;show I.step t (λb o E hb l e n=>u.keep b o e n (λz=>t6 (ae.mp<|I.stkSub b z) E hb) l) (λb o Z Z l e n=>u.any e n l) (λb o l e n=>u.free b o e n l) (λb o l e=>u.there b o e l) u.tups u.frzs u.tbls (λU O=>by have(Y,G,J,B,P):=O;rw[L]at B;cases B;show(_,G,J,E,P)) hok M
def Inv.turned(I:Inv X oO σ H s)(k:∀b o,b≠l->eL (d7 s) b=aB o->eL h' b=aB o)(hn:H l=n_)(E:l≠oM (k7 X))
  (G:l∈X.ex∨X.s₀.heap.objs.size<=l) (J:∀x c,X.env.cells.lookup x=aB c->c≠l) (L:∀p∈X.pn++oO,p.1≠l):Inv X oO σ H { s with heap:=h',toks:=t' }:=by
 have B:∀b u,H b=aB u->b≠l:=λb u e z=>by rw[z,hn]at e;cases e
 show I.step (g':=s.gens) (d':=s.drawn) (ch:=[l]) (λb hb=>?_) (λb o Z Z t e Z=>k b o (λz=>t<|by simp[z]) e) (λb o Z Z t e Z=>(o.slots,k b o (λz=>t<|by simp[z]) e)) (λZ Z Z Z n=>n)
  (λb o t e=>(o,k b o (λz=>t<|by simp[z]) e)) (λZ Z e=>e) (λZ Z Z e=>e) (λZ Z e=>e) (λm M=>?_) (λb u e=>?_) I.bare
 .have e:b=l:=by simpa using hb
  cases e;show(G,E,J,L)
 .have(o,O,P,Q,r):=M;show(o,O,P,k _ o (mr E) Q,r)
 .show(I.hok b u e).stay (λc v t q=>k c v ?_ q) (λZ q=>q) (λZ Z q=>q) λZ Z q=>q;obtain z|z:=t;.rw[z];show B b u e
  .show B c _ z
def Inv.tok(I:Inv X oO σ H s)t:Inv X oO σ H { s with toks:=t }:=I.un Un.refl I.hok
def Inv.kept(I:Inv X oO σ H s)(k:∀b u,eL (d7 s) b=aB u->eL h' b=aB u):Inv X oO σ H { s with heap:=h',toks:=t' }:=I.un (Un.kept k)<|I.hok.kept k
def Inv.laid{a:Addr}(I:Inv X oO σ H s)(k:∀b u,eL (d7 s) b=aB u->eL h' b=aB u)(l:s.heap.objs.size<=a)(new:uf X.prog X.w (rG H a o) h' a o) :
  Inv X oO σ (rG H a o) { s with heap:=h',toks:=t' }:=I.un (Un.laid k l<|I.hok.fresh l)<|I.hok.laid k l new
def Inv.write(I:Inv X oO σ H s)(mu:Mut<|H x)(n:e=x∨H e=aB (.own x))(k:∀b u,b≠e->eL (d7 s) b=aB u->eL h' b=aB u)(l:∃u,eL h' e=aB u)
  (new:uf X.prog X.w (rG H x o) h' x o):Inv X oO σ (rG H x o) { s with heap:=h',toks:=t' }:=I.un (Un.write mu n k l)<|I.hok.write mu n k l new
def Inv.pins_of(I:Inv X oO σ H s)(h:∀p∈l,eL (d7 s) p.1=aB p.2/\H p.1=n_/\p.1≠oM (k7 X)/\p.1∉X.fs/\∀v,x9 p.2 ≠ p8 v):Inv X l σ H s:=(I.ok,I.os,I.bare,si I,I.loc,I.cell,I.free,I.freeC,λp n=>t6 (mAq.mp n) (λz=>I.pin p<|ai _ z)<|h p,I.hok,I.len)
def KO{N:List Str}(l:c8 N){i:Nat}(a:N[i]?=aB x)(b:N[j]?=aB x):i=j:=by have(u,n):=gSq.mp a;have(z,t):=gSq.mp b;show(List.getElem_inj l).mp<|fq n<|fx t
def QP(I:Inv X oO σ H s)(hN:c8 X.N)(hi:X.N[i]?=aB x)(J:Loc X.env.scope x)(r:qH v u)
  (h:∀s',Inv X oO (fb σ i<|aB v) H s'->(∃a,fL a s.heap s'.heap/\(a=oM (k7 X)∨X.env.cells.lookup x=aB a))->Q () s') (hf:↥(X.fn x=t_∨X.env.scope.names.lookup x=aB j8)):lg M A (storeName X.env x u) Q E s:=by
 have(m,hn,hl):=id I.loc;have U:(X.env.scope.kind == .class || (X.env.scope.kind == .module && oM (k7 X) != X.env.globals))=f_:=by rw[I.ok.kind];rfl
 have P:i<de σ:=by rw[I.len];show(gSq.mp hi).1
 have cne:=I.cne;have t:∀{a:Addr}{h':Heap},(∃o,eL (d7 s) a=aB o/\H a=n_)->fL a s.heap h'->CQ X.prog X.w H h':=λ{a h'} ha l b ob e=>by
  have(_,_,L):=ha;show(I.hok b ob e).stay (λc w' G q=>fq (l.2 c ?_) q) (λZ q=>q) (λZ Z q=>q) λZ Z q=>q;rintro rfl;obtain rfl|G:=G;.rw[L]at e;cases e
  .rw[L]at G;cases G
 obtain hk|hk:=J
 .show wpAny_storeName_local hk hn (λh' hn' l=>?_) U;have(oL,_,_,hoL,_):=id hn;show h _ (I.ok,I.os,I.bare,(λb o e n hb J=>?_,λb o e n hb J=>?_,I.base.free,λb o e J=>?_,I.base.tups,I.base.frzs,I.base.tbls),(_,hn',λj y v' B O e3=>?_),λy c e=>?_,I.free,I.freeC,λp hp=>?_,t (oL,hoL,I.free) l,by simpa using I.len) (_,l,jE rfl);.show(fq (l.2 b<|aS<|bg (aw e) I.ok.above))<|I.base.keep b o e n hb J
  .have(sl,B):=I.base.slot b o e n hb J;show(sl,fq (l.2 b<|aS<|bg (aw e) I.ok.above) B)
  .have(o',B):=I.base.there b o e J;show(o',fq (l.2 b<|aS<|bg (aw e) I.ok.above) B)
  .by_cases R:j=i;.subst R;rw[hi]at B;cases B;rw[aA P]at O;cases O;show(u,r,jE (hk,by simp))
   .rw[ar<|mr R]at O;have(u',r',q):=hl j y v' B O e3;show(u',r',?_);obtain⟨k,e⟩|⟨k,c,e,z⟩:=q;.show jE (k,?_);have:y≠x:=λe=>R<|KO hN B<|e ▸ hi;simp[this,e]
    .show iq (k,c,e,z.sameBut l<|cne y c e)
  .have(w',z):=I.cell y c e;show(w',z.sameBut l<|cne y c e)
  .have(e,n,ne,nf,d):=I.pin p hp;show(fq (l.2 p.1 ne) e,n,ne,nf,d)
 .have S:X.fn x=t_:=by
   obtain z|z:=hf;.show z
   .rw[z]at hk;cases hk
  have(c,G):=I.ok.has x<|jE hk;have(w',z):=I.cell x c G;show wpAny_storeName_cell I.ok.kind hk G z<|λh' Y l=>?_;have(oc,hoc,hocd):=id z;show h { s with heap:=h' } (I.ok,I.os,I.bare,(λb o e n hb J=>?_,λb o e n hb J=>?_,I.base.free,λb o e J=>?_,I.base.tups,I.base.frzs,I.base.tbls),(m,hn.sameBut l<|mr<|cne x c G,λj y v' B O e3=>?_),λy c' e=>?_,I.free,I.freeC,λp hp=>?_,t (oc,hoc,I.freeC x c G) l,by simpa using I.len) (c,l,iq G);.show(fq (l.2 b<|aS<|bg (aw e)<|I.ok.cab x c S G))<|I.base.keep b o e n hb J
  .have(sl,B):=I.base.slot b o e n hb J;show(sl,fq (l.2 b<|aS<|bg (aw e)<|I.ok.cab x c S G) B)
  .have(o',B):=I.base.there b o e J;show(o',fq (l.2 b<|aS<|bg (aw e)<|I.ok.cab x c S G) B)
  .by_cases R:j=i;.subst R;rw[hi]at B;cases B;rw[aA P]at O;cases O;show(u,r,iq (jE hk,c,G,Y))
   .rw[ar<|mr R]at O;have(u',r',q):=hl j y v' B O e3;show(u',r',?_);obtain q|⟨k,c',e,z'⟩:=q;.show jE q
    .show iq (k,c',e,z'.sameBut l ?_);rintro rfl;show R<|KO hN B<|I.ok.inj _ _ _ e G ▸ hi
  .by_cases hcc:c'=c;.subst hcc;show(_,Y)
   .have(w2,z2):=I.cell y c' e;show(w2,z2.sameBut l hcc)
  .have(e,n,ne,nf,d):=I.pin p hp;show(fq (l.2 p.1 ?_) e,n,ne,nf,d);intro q;rw[q,hoc]at e;have q':=aB.inj e;show d w'<|by rw[←q'];show hocd
def Mu(I:Inv X oO σ H s)(n:c8 X.N)(hi:X.N[i]?=aB x)(t:Loc X.env.scope x)(r:qH v u)
  (h:∀l,Inv X oO (fb σ i<|aB v) H l->Q () l) (hf:↥(X.fn x=t_∨X.env.scope.names.lookup x=aB j8)):lg M A (storeName X.env x u) Q E s:=QP I n hi t r (λl z Z=>h l z) hf
def Inv.call'(I:Inv X oO σ H s)(t:l.os=s.os)(u:Un (Sj X.stack) ch H H' s.heap<|d7 l)(hok:CQ X.prog X.w H'<|d7 l)(z:nh l.gens)
  (n:∀b∈ch,(b∈X.ex∨X.s₀.heap.objs.size<=b)/\b≠oM (k7 X)/\(∀x c,X.env.cells.lookup x=aB c->c≠b)/\∀p∈X.pn++oO,p.1≠b):Inv X oO σ H' l:=by have(h',B,E,G,J):=l;have e:=t;subst e;show I.call u hok z n
end
abbrev XK:=Value->Option Addr->Hp->Prop
abbrev St:=List<|Option V
abbrev VK:=V->Hp->Prop
abbrev TE:=St->Hp->VK->Prop
abbrev TT:=St->Hp->(Bool->Hp->Prop)->Prop
abbrev TA:=St->Hp->(List V->Hp->Prop)->Prop
structure AU where
 nx:St->Hp->Prop
 rt:VK
 bk:St->Hp->Prop:=λQ Q=>False
 ct:St->Hp->Prop:=λQ Q=>False
abbrev TS:=AU->St->Hp->Prop
def EP(X:Cx)(n:Φ)(σ:St)(Q:VK)(u:Value)(s:kS):Prop:=∃v l,Inv X n σ l s/\qH v u/\Q v l
def TP(X:Cx)(n:Φ)(σ:St)(Q:Bool->Hp->Prop)(b:Bool)(s:kS):Prop:=∃l,Inv X n σ l s/\Q b l
def AP(X:Cx)(n:Φ)(σ:St)(Q:List V->Hp->Prop)(s:Ξ)(t:kS):Prop:=∃vs l,Inv X n σ l t/\qB vs s/\Q vs l
def SP(X:Cx)(s:Φ)(D:AU)(f:Flow)(t:kS):Prop:=match f with
 | aAk=>∃l n,Inv X s l n t/\D.nx l n
 | .brk=>∃l n,Inv X s l n t/\D.bk l n
 | .cont=>∃l n,Inv X s l n t/\D.ct l n
 | .ret u=>∃v l n,Inv X s l n t/\qH v u/\D.rt v n
def PE(X:Cx)(e:Expr)(t:TE):Prop:=∀l s (σ:St) H Q,Inv X l σ H s->t σ H Q->lg (kZ X.prog X.w) X.A (eval e<|k7 X) (EP X l σ Q) X.xe s
def PT(X:Cx)(e:Expr)(t:TT):Prop:=∀l s (σ:St) H Q,Inv X l σ H s->t σ H Q->lg (kZ X.prog X.w) X.A (isTrue e X.env<|eval e<|k7 X) (TP X l σ Q) X.xe s
def PW(X:Cx)(e:Expr)(t:TT):Prop:=∀whole l s (σ:St) H Q,Inv X l σ H s->t σ H Q->lg (kZ X.prog X.w) X.A (isTrue e X.env whole) (TP X l σ Q) X.xe s
def PW.pt(h:PW X e t):PT X e t:=h _
def PA(X:Cx)(n:List Expr)(t:TA):Prop:=∀pos l s (σ:St) H Q,Inv X l σ H s->t σ H Q->lg (kZ X.prog X.w) X.A (spliced<|mH pos<|lC n<|k7 X) (AP X l σ Q) X.xe s
def PS(X:Cx)(st:Stmt)(t:TS):Prop:=∀l s (σ:St) H D,Inv X l σ H s->t D σ H->lg (kZ X.prog X.w) X.A (exec st<|k7 X) (SP X l D) X.xe s
def Km(X:Cx)(st:List Stmt)(t:TS):Prop:=∀l s (σ:St) H D,Inv X l σ H s->t D σ H->lg (kZ X.prog X.w) X.A (execs st<|k7 X) (SP X l D) X.xe s
def thn{t:Sem α}{Q l}(h:lg M A t Q E s)(n:∀a s,Q a s->l a s):lg M A t l E s:=lF h n λZ Z x=>x
section
def va(i:Nat):TE:=λσ H Q=>∃v,σ[i]?=aB (aB v)/\Q v H
def tC(v:V):TE:=λZ H Q=>Q v H
def ZM(B:X.N[i]?=aB x)(E:Vis X.env.scope x)(hd:⇑((x == ("__debug__" : Str))=f_))(t:⇑((x == ("__classdict__" : Str))=f_)):PE X (fY x pos)<|va i:=by
 intro G s σ H Q I h;have(v,e,h):=h;have(m,hn,hl):=I.loc;have(u,r,l):=hl i x v B e E;have fin:EP X G σ Q u s:=(v,H,I,r,h);obtain⟨hk,J⟩|⟨hk,c,z,n⟩:=l;.show wpAny_Name (wpAny_loadName_local I.ok.kind hk hn J fin) hd
 .obtain hk|hk:=hk;.show wpAny_Name (wpAny_loadName_cell I.ok.kind hk z n fin) hd
  .show wpAny_Name (wpAny_loadName_free I.ok.kind hk z n fin t) hd
def oW:PE X (MU (.int i) j pos)<|tC<|c7 i:=λQ Q Q H Q I h=>wpAny_Constant_int (c7 i,H,I.tok _,(_,rfl),h)
def Pz:PE X (MU (.bool b) j pos)<|tC<|pY b:=λQ Q Q H Q I h=>Constant_bool (pY b,H,I,rfl,h)
def Ju:PE X (MU .none j pos)<|tC nc:=λQ Q Q H Q I h=>Constant_none (nc,H,I,rfl,h)
def Ei:PE X (MU (.str x) j pos)<|tC<|wy x:=λQ Q Q H Q I h=>Calls.Constant_str (wy x,H,I.tok _,(_,rfl),h)
def Gl(X:Cx)(x:Str):Prop:=aA6 (k7 X) x=aB .globalImplicit
def PL{σ:St}(I:Inv X l σ H s)(n:Gl X x)(t:X.mg x=aB u)(h:Q u s)
  (hd:⇑((x == ("__debug__" : Str))=f_)):lg (kZ X.prog X.w) X.A (eval (fY x pos)<|k7 X) Q E s:=K1 I.ok.kind n (Calls.loadGlobal_global (by rw[I.ok.glob];show I.mod.glob.keeps I.bk) t h) hd
def yV{σ:St}(I:Inv X l σ H s)(n:Gl X x)(t:X.mg x=n_)(z:mI x=aB u)(h:Q u s)
  (hn:⇑(x ≠ "__name__")) (hd:⇑((x == ("__debug__" : Str))=f_)):lg (kZ X.prog X.w) X.A (eval (fY x pos)<|k7 X) Q E s:=by have(J,B,G):=I.mod.blt;show K1 I.ok.kind n (Calls.loadGlobal_builtin (by rw[I.ok.glob];show I.mod.glob.keeps I.bk) t (by rw[I.ok.blt];show B.keeps I.bk) (fq (G x hn) z) h) hd
def Pw(l:Gl X x)(n:X.mg x=aB u)(r:qH v u)(hd:⇑((x == ("__debug__" : Str))=f_)):PE X (fY x pos)<|tC v:=λQ Q Q H Q I h=>PL I l n (v,H,I,r,h) hd
def Xl(l:Gl X x)(n:X.mg x=n_)(s:mI x=aB u)(r:qH v u)(hn:⇑(x ≠ "__name__"))(hd:⇑((x == ("__debug__" : Str))=f_)):PE X (fY x pos)<|tC v:=λQ Q Q H Q I h=>yV I l n s (v,H,I,r,h) hn hd
def PC(X:Cx)(op:CmpOp)(a b:Expr)(t:TE):Prop:=∀x s (σ:St) H Q,Inv X x σ H s->t σ H Q ->
  lg (kZ X.prog X.w) X.A (eval a<|k7 X) (λv l=>lg (kZ X.prog X.w) X.A (eval b<|k7 X) (λu n=>lg (kZ X.prog X.w) X.A (lK op v u) (EP X x σ Q) X.xe n) X.xe l) X.xe s
def tB(t:TE):TT:=λσ H Q=>t σ H λx l=>∃c,x = pY c/\Q c l
def NX(h:PC X op a b t)(n:mL op b=f_:=by first|show l _ ⋯ ⋯|rfl):PT X (aAl a [op] [b] pos)<|tB t:=by intro B s σ H Q I hw;show nZ (thn (h B s σ H _ I hw) λv O n=>thn n λu P E=>thn E λc R z=>?_) n;have(x,G,J,L,M):=z;have(d,rfl,q):=M;cases L;show mq (G,J,q)
def abA(h:PE X e t)(n:autoParam (∀whole,isTrue e X.env whole=(do let v ←whole;standAt e.pos;nH [v] (truthy v))) d_._auto_1):PT X e<|tB t:=by intro u s σ H Q I hw;show isTrue_plain (thn (h u s σ H _ I hw) λv J l=>?_)<|n _;have(x,z,B,E,G):=l;have(d,rfl,q):=G;cases E;show mq (z,B,q)
variable {rest:List Expr}
def acs(t u:TT):TT:=λσ H Q=>t σ H λc l=>if c=t_ then u σ l Q else Q f_ l
def BF(ha:PT X a tA):PW X (T1 .And [a] pos) tA:=by intro n l s σ H Q I h;show isTrue_and<|thn (ha l s σ H Q I h) λc t e=>?_;cases c with
 |true=>show isTrue_and_nil e
 |false=>show e
def DP(ha:PT X a tA)(hb:PW X (T1 .And (b::rest) pos) tB'):PW X (T1 .And (a::b::rest) pos)<|acs tA tB':=by intro z n s σ H Q I h;show isTrue_and<|thn (ha n s σ H _ I h) λc B l=>?_;have(t,u,x):=l;cases c with
 |true=>show hb z n B σ t Q u x
 |false=>show(t,u,x)
def Zq(ta tb:TE):TE:=λσ H Q=>ta σ H λx l=>∃c,x = pY c/\if c=t_ then tb σ l Q else Q (pY f_) l
def abW(h:PE X a t):PE X (T1 op [a] pos) t:=λl s σ H Q I hw=>BoolOp_one<|h l s σ H Q I hw
def Wf(ha:PE X a ta)(hb:PE X (T1 .And (b::rest) pos) tb):PE X (T1 .And (a::b::rest) pos)<|Zq ta tb:=by intro t s σ H Q I h;show BoolOp_and<|thn (ha t s σ H _ I h) λv B n=>?_;have(x,u,z,E,l):=n;have(c,rfl,l):=l;cases E;show mq ?_;cases c with
 |true=>show hb t B σ u Q z l
 |false=>show(pY f_,u,z,rfl,l)
def tIf(t:TT)(ta tb:TE):TE:=λσ H Q=>t σ H λc l=>if c=t_ then ta σ l Q else tb σ l Q
def VD(B:PT X c tA)(ha:PE X a ta)(hb:PE X b tb):PE X (.IfExp c a b pos)<|tIf tA ta tb:=by intro l s σ H Q I h;show wpAny_IfExp<|thn (B l s σ H _ I h) λd t n=>?_;have(u,x,z):=n;cases d with
 |true=>show ha l t σ u Q x z
 |false=>show hb l t σ u Q x z
end
def tJ(K:Ζ)(H:Hp)(a:Addr)(xs:List V):Prop:=Rd H a (.lst xs) ∨
  ∃(o:Obj) (l:Ω) (n:Nat),K.lookup a=aB o/\o.cls = iU "list" /\ o.dict=n_/\x9 o = mY l n/\l.size<=sizeLine/\qB xs (b9 l)
def Hh(K:Ζ)(H:Hp)(a:Addr)(xs:List V):Prop:=Rd H a (vu xs) ∨
  ∃(o:Obj) (l:Ω) (n:Nat),K.lookup a=aB o/\o.cls = iU "tuple" /\ x9 o = mY l n/\l.size<=sizeLine/\qB xs (b9 l)
noncomputable def afi:Value->Option V
 | ly=>aB nc
 | kQ b=>aB<|pY b
 | jK i _=>aB<|c7 i
 | XP x _=>aB<|wy x
 | .bytes b _=>aB<|.byt b
 | .float b _=>aB<|.flt b
 | dS a=>aB<|c6 a
 | iU n=>aB<|.ty n
 |_=>n_
def qH.abs(r:qH x u):afi u=aB x:=by cases x with
 |non=>cases r;rfl
 |bl _=>cases r;rfl
 |int _=>have(t,rfl):=r;rfl
 |str _=>have(t,rfl):=r;rfl
 |byt _=>have(t,rfl):=r;rfl
 |flt _=>have(t,rfl):=r;rfl
 |ref _=>cases r;rfl
 |ty _=>cases r;rfl
def qH.inj(r:qH x u)(q:qH y u):x=y:=aB.inj<|fq (fx r.abs) q.abs
theorem qB.inj:∀{xs l}{n},qB xs n->qB l n->xs=l
 |_,_,_,lX,lX=>rfl
 |_,_,_,iL r t,iL s u=>by rw[r.inj s,qB.inj t u]
section
variable {σ:St}
def tJ.of{K}(h:H a=aB (.lst xs)):tJ K H a xs:=jE<|jE h
def Hh.of{K}(h:H a=aB (vu xs)):Hh K H a xs:=jE<|jE h
def Inv.list(I:Inv X oO σ H s)(h:tJ X.K H a xs):∃l:Ξ,qB xs l/\PlainL s.heap a (c5 l)/\de xs<=sizeLine:=by
 obtain h|⟨o,l,n,hk,t,hd,u,x,r⟩:=h;.have(z,l,n,r,e):=h.ok I.hok;show(l,r,(_,n,e,rfl,rfl,rfl),z)
 .show(b9 l,r,(o,n,I.kIn a o hk,t,hd,by show u),?_);have e:=n7 r;simp only[aJ]at e;simp +arith[*]
def Inv.tuple(I:Inv X oO σ H s)(h:Hh X.K H a xs):∃l:Ξ,qB xs l/\IsTup s.heap a (c5 l)/\de xs<=sizeLine:=by
 obtain h|⟨o,l,n,hk,t,u,x,r⟩:=h;.have(z,l,r,p):=h.ok I.hok;show(l,r,p,z)
 .show(b9 l,r,(o,I.kIn a o hk,t,n,by show u),?_);have e:=n7 r;simp only[aJ]at e;simp +arith[*]
def Inv.list_inj(I:Inv X oO σ H s)(h:tJ X.K H a xs)(h':tJ X.K H a ys):xs=ys:=by
 have(t,r,(o,n,e,_,_,d),_):=I.list h;have(l,z,(E,G,u,_,_,x),_):=I.list h';rw[e]at u;cases u;rw[d]at x;injection x with B _;have:t=l:=by show congrArg b9 B
 subst this;show r.inj z
end
noncomputable abbrev Cx.wish(X:Cx)(E:Value->kS->Prop):Cx:={ X with xe:=E }
abbrev Cx.nox(X:Cx):Cx:=X.wish λQ Q=>False
def Cx.Ok.wish{X:Cx}(ok:X.Ok)E:(X.wish E).Ok:=(ok.mod,ok.kind,ok.glob,ok.blt,ok.above,ok.inj,ok.has,ok.cab,ok.hd,ok.frames,ok.stk,ok.exf,ok.bs,ok.bsz,ok.noex,ok.exfs,ok.funs,ok.frf,ok.tb)
def Cx.Ok.unwish{X:Cx}(ok:(X.wish E).Ok):X.Ok:=(ok.mod,ok.kind,ok.glob,ok.blt,ok.above,ok.inj,ok.has,ok.cab,ok.hd,ok.frames,ok.stk,ok.exf,ok.bs,ok.bsz,ok.noex,ok.exfs,ok.funs,ok.frf,ok.tb)
section
variable {σ:St}
def Inv.wish(I:Inv X oO σ H s)E:Inv (X.wish E) oO σ H s:=(I.ok.wish E,I.os,I.bare,I.base,I.loc,I.cell,I.free,I.freeC,I.pin,I.hok,I.len)
def Inv.unwish(I:Inv (X.wish E) oO σ H s):Inv X oO σ H s:=(I.ok.unwish,I.os,I.bare,I.base,I.loc,I.cell,I.free,I.freeC,I.pin,I.hok,I.len)
def SP.unwish(h:SP (X.wish E) oO D f t):SP X oO D f t:=by cases f with
 |next=>have(l,n,I,q):=h;show(l,n,I.unwish,q)
 |brk=>have(l,n,I,q):=h;show(l,n,I.unwish,q)
 |cont=>have(l,n,I,q):=h;show(l,n,I.unwish,q)
 |ret u=>have(v,l,n,I,r,q):=h;show(v,l,n,I.unwish,r,q)
def Km.nox{st}(h:Km X.nox st t):Km X st t:=λoO s σ H D I hw=>lF (h oO s σ H D (I.wish _) hw) (λQ Q q=>q.unwish) λQ Q z=>j5 z
end
section
variable {st:Stmt}{rest:List Stmt}
def HA:TS:=λD σ H=>D.nx σ H
def CG(t u:TS):TS:=λD σ H=>t { D with nx:=u D } σ H
def tw:Km X [] HA:=λQ Q σ H Q I h=>nj (σ,H,I,h)
def oU(x:PS X st t)(z:Km X rest u):Km X (st::rest)<|CG t u:=by intro n s σ H D I h;show wpAny_execs_cons<|thn (x n s σ H { D with nx:=u D } I h) λf B q=>?_;cases f with
 |next=>have(l,E,G,q):=q;show z n B l E D G q
 |ret v=>show q
 |brk=>show q
 |cont=>show q
def pJ(l:PS X st t):Km X [st] t:=by intro n s σ H D I h;show wpAny_execs_cons<|thn (l n s σ H D I h) λf x q=>?_;cases f with
 |next=>show nj q
 |ret v=>show q
 |brk=>show q
 |cont=>show q
def Inv.quiet{σ:St}(I:Inv X l σ H s):interactive X.env=f_:=by simp[interactive,I.ok.kind]
def zL(te:TE):TS:=λD σ H=>te σ H λQ l=>D.nx σ l
def tj(n:PE X e te)(z:↑(nS e n_ pos.line X.env=pure f_)):PS X (.Expr e pos)<|zL te:=by intro B s σ H D I h;show wpAny_Expr_any (thn (n B s σ H _ I h) λv L l=>?_) I.quiet z;have(x,E,G,M,J):=l;show(σ,E,G,J)
def VC(te:TE):TS:=λD σ H=>te σ H D.rt
def rE(n:PE X e te):PS X (.Return (aB e) pos)<|VC te:=by intro z s σ H D I h;show wpAny_Return_some<|thn (n z s σ H _ I h) λv L l=>?_;have(x,B,E,G,J):=l;show(x,σ,B,E,G,J)
def RD(c:TT)(t u:TS):TS:=λD σ H=>c σ H λb l=>if b=t_ then t D σ l else u D σ l
def we(J:PT X c x)(ha:Km X a t)(hb:Km X b u):PS X (.If c a b pos)<|RD x t u:=by intro l s σ H D I h;show wpAny_If<|thn (J l s σ H _ I h) λd z n=>?_;have(B,E,G):=n;cases d with
 |true=>show ha l z σ B D E G
 |false=>show hb l z σ B D E G
def Te:TS:=λQ Q Q=>False
def Mc:PS X st Te:=λQ Q Q Q Q Q h=>j5 h
end
abbrev TG:=V->St->Hp->(St->Hp->Prop)->Prop
abbrev TGs:=List V->St->Hp->(St->Hp->Prop)->Prop
def PG(X:Cx)(l:Expr)(t:TG):Prop:=∀x s (σ:St) H v u Q,Inv X x σ H s->qH v u->t v σ H Q ->
  lg (kZ X.prog X.w) X.A (nK l X.env u) (λZ B=>∃n z,Inv X x n z B/\Q n z) X.xe s
def PGs(X:Cx)(ts:List Expr)(t:TGs):Prop:=∀n s (σ:St) H vs u Q,Inv X n σ H s->qB vs u->t vs σ H Q ->
  lg (kZ X.prog X.w) X.A (assignInOrder ((nv ts<|k7 X).map (·.2)) u) (λZ z=>∃l x,Inv X n l x z/\Q l x) X.xe s
abbrev abK:=V->V->V->Hp->(Hp->Prop)->Prop
def acR(X:Cx)(t:abK):Prop:=∀l s (σ:St) H o i v n x u Q,Inv X l σ H s->qH o n->qH i x->qH v u->t o i v H Q ->
  lg (kZ X.prog X.w) X.A (setItem n x u) (λZ B=>∃z,Inv X l σ z B/\Q z) X.xe s
def sO(i:Nat):TG:=λv σ H Q=>Q (fb σ i<|aB v) H
def DI(l:c8 X.N)(hi:X.N[i]?=aB x)(n:Loc X.env.scope x)(hf:↥(X.fn x=t_∨X.env.scope.names.lookup x=aB j8)):PG X (fY x pos)<|sO i:=by intro z s σ H v u Q I r h;show wpAny_assign_Name<|Mu I l hi n r (λB t=>(_,H,t,h)) hf
def Ot:TGs:=λvs σ H Q=>vs=[]/\Q σ H
def zi(t:TG)(u:TGs):TGs:=λvs σ H Q=>∃v r,vs=v::r/\t v σ H λl n=>u r l n Q
def Jg:PGs X [] Ot:=by intro l s σ H n t Q I r h;have(e,h):=h;show assignInOrder_nil (σ,H,I,h)
def A7(B:PG X e t)(E:PGs X l u)
  (G:↑((nv (e::l)<|k7 X).map (·.2)=nK e X.env::(nv l<|k7 X).map (·.2))):PGs X (e::l)<|zi t u:=by intro z s σ H S U Q I r h;have(v,Y,J,h):=h;subst J;cases r with
 |cons r L=>rw[G];show assignInOrder_cons<|thn (B z s σ H _ _ _ I r h) λZ M n=>?_;have(x,O,P,R):=n;show E z M x O _ _ Q P L R
def NK(K:Ζ)(n:Nat)(t:TGs):TG:=λv σ H Q=>∃a xs,v = c6 a/\Hh K H a xs/\de xs=n/\t xs σ H Q
def NJ(E:X.calm=t_)(h:PGs X l t)
  (hn:↑(de (nv l<|k7 X)=n)) (x:↑((nv l<|k7 X).findIdx? (·.1)=n_)):PG X (vb l k pos)<|NK X.K n t:=by intro z s σ H v u Q I r hw;have(a,G,J,L,hl,hw):=hw;subst J;cases r;have(M,B,ht,S):=I.tuple L;show assign_Tuple_tuple (I.ok.hd E) ht (by simp[hn,←hl,n7 B]) x λO P=>?_;have R:Inv X z σ H { s with heap:=O }:=I.kept λb o e=>P b o (aS<|aw e) e;show h z _ σ H G _ Q R (by show B) hw
def YW(to l:TE)(t:abK):TG:=λv σ H Q=>to σ H λo n=>l σ n λi s=>t o i v s λu=>Q σ u
def Jo(G:PE X o to)(hi:PE X i E)(J:acR X t)
  (ha:autoParam (∀v,nK (p4 o i pos) X.env v=(do
   let n ←nH [v] (eval o<|k7 X)
   let z ←nH [v,n] (eval i<|k7 X)
   standAt pos
   nH [v,n,z] (setItem n z v)
   release [v,n,z] [])) d_._auto_1):PG X (p4 o i pos)<|YW to E t:=by intro B s σ H v u Q I r h;rw[ha];show kU<|lP<|thn (G B s σ H _ I h) λn L l=>?_;have(x,M,O,P,R):=l;show kU<|lP<|thn (hi B L σ M _ O R) λz S l=>?_;have(y,U,Y,r2,q2):=l;show kU<|ox<|kU<|lP<|thn (J B S σ U x y v n z u _ Y P r2 r q2) λZ s3 l=>?_;have(H3,I3,q3):=l;show wpAny_release (σ,H3,I3,q3)
def C0(te:TE)(g:TG):TS:=λD σ H=>te σ H λx l=>g x σ l D.nx
def JO(u:PE X e te)(z:PG X l g)(B:↑(swapsWithSole [l] e pos.line X.env=pure f_))(hw:↑(swappedStores [l] e X.env=pure n_))
  (E:↑((nv [l]<|k7 X).map (·.2)=[nK l<|k7 X])):PS X (aA7 [l] e pos)<|C0 te g:=by intro t s σ H D I h;show wpAny_Assign_stores (thn (u t s σ H _ I h) λv G n=>?_) B hw;have(x,J,L,M,O):=n;rw[E];show thn (z t G σ J x v _ L M O) λQ P q=>q
def aal(t:c8 X.N)(hi:X.N[i]?=aB x)(u:Loc X.env.scope x)(z:PE X e te)(B:↑(nS e (aB<|fY x l) pos.line X.env=pure f_))(hf:↥(X.fn x=t_∨X.env.scope.names.lookup x=aB j8)) :
  PS X (aA7 [fY x l] e pos)<|C0 te<|sO i:=by intro E s σ H D I h;show wpAny_Assign_Name (thn (z E s σ H _ I h) λv P n=>?_) B;have(y,G,J,L,M):=n;show Mu J t hi u L (λQ O=>(_,G,O,M)) hf
def Jk(c:TT)(tb:TS):TS:=λD σ H=>∃W:Nat->St->Hp->Prop,(∃m,W m σ H)/\∀m σ H,W m σ H ->
 c σ H λb n=>if b=t_ then ∃N:St->Hp->Prop,(∀l s,N l s->∃t,t<m/\W t l s)/\tb { D with nx:=N,ct:=N,bk:=D.nx } σ n else D.nx σ n
def Bo(R:PassesOwn (kZ X.prog X.w) X.A X.env X.xe)(hc:PT X c Q)(hb:Km X body tb):PS X (.While c body [] pos)<|Jk Q tb:=by intro E s σ H D I h;have(W,(m0,w0),turn):=h;show wpAny_While<|codeAny_whileLoop (λn s'=>∃u S,Inv X E u S s'/\W n u S) ?_ m0 (σ,H,I,w0);rintro n s1 ⟨t,U,I1,w1⟩;show mi R<|thn (hc E s1 t U _ I1<|turn n t U w1) λb s2 G=>?_;have(Y,I2,z):=G;cases b with
 |true=>have(N,hN,z):=z;show mi R<|thn (hb E s2 t Y _ I2 z) λf s3 B=>?_;cases f with
  |next=>have(l,x,J,L):=B;have(M,O,P):=hN l x L;show(M,O,l,x,J,P)
  |cont=>have(l,x,J,L):=B;have(M,O,P):=hN l x L;show(M,O,l,x,J,P)
  |brk=>show B
  |ret v=>show B
 |false=>show nj (t,Y,I2,z)
structure It where
 go:Nat->Hp->Prop
 yld:Nat->Hp->V->Hp->Prop
 stop:Nat->Hp->Prop
def yu(X:Cx)(l:Φ)(H:Hp)(b:Addr):Prop:=H b=n_/\b≠oM (k7 X)/\b∉X.fs/\(b∈X.ex∨X.s₀.heap.objs.size<=b)/\(∀x c,X.env.cells.lookup x=aB c->c≠b)/\∀p∈X.pn++l,p.1≠b
def Inv.fpOk{σ:St}{b:Addr}(I:Inv X l σ H s)(hb:s.heap.objs.size<=b)(hn:n b=n_):yu X l n b:=by
 show(hn,gG<|bg I.lt hb,I.nofs hb,iq<|bI I.sz hb,λx c e z=>?_,λp t z=>?_);.have(v,q):=I.cell x c e;show absurd (bg q.lt<|by rw[z];show hb)<|dY _
 .show absurd (bg (aw (I.pin p t).1)<|by rw[z];show hb)<|dY _
structure JI (P:lu)(w:lB)(K:Ζ)(tg:Expr)(J:It)(fp:Δ)(it:Addr)(tn:Nat->Heap->Prop):Prop where
 mem:it∈fp
 obj:∀i h,tn i h->∀b∈fp,∃o,h.get? b=aB o/\∀v,o.data ≠ .cell v
 keep:∀i h h',tn i h->(∀b∈fp,∀o,h.get? b=aB o->h'.get? b=aB o)->tn i h'
 item:∀(X:Cx),X.prog=P->X.w=w->X.K=K->X.calm=t_->∀(i:Nat) (oO:Φ) (s:kS) (σ:St) (H:Hp) (E:Value->kS->Prop),Inv X oO σ H s->(∀b∈fp,yu X oO H b)->tn i s.heap->J.go i H ->
  lg (kZ P w) X.A (oj<|.ref it) (λr s1=>∃u,r=aB u /\
   lg (kZ P w) X.A (nO tg (.ref it) u) (λZ s2=>∃x H',Inv X oO σ H' s2/\qH x u/\J.yld i H x H'/\tn (i+1) s2.heap/\∀b∈fp,H' b=n_) E s1) E s
 done:∀(X:Cx),X.prog=P->X.w=w->X.K=K->X.calm=t_->∀(i:Nat) (oO:Φ) (s:kS) (σ:St) (H:Hp) (E:Value->kS->Prop),Inv X oO σ H s->(∀b∈fp,yu X oO H b)->tn i s.heap->J.stop i H ->
  lg (kZ P w) X.A (oj<|.ref it) (λr s1=>r=n_/\Inv X oO σ H s1) E s
 self:∀(A:Around) (i:Nat) (s:kS) (Q:Value->kS->Prop) (E:Value->kS->Prop),tn i s.heap->Q (.ref it) s->lg (kZ P w) A (pyIter<|.ref it) Q E s
abbrev TI:=St->Hp->(It->Hp->Prop)->Prop
def PIE(X:Cx)(s:Φ)(σ:St)(z:Expr)(R:It->Hp->Prop)(l:Value)(t:kS):Prop:=∃u fp x J n,l = dS u/\Inv X s σ n t/\JI X.prog X.w X.K z J fp u x/\x 0 t.heap/\(∀b∈fp,yu X s n b)/\R J n
def PI(X:Cx)(n iter:Expr)(t:TI):Prop:=∀l s (σ:St) H R,Inv X l σ H s->t σ H R ->
  lg (kZ X.prog X.w) X.A (eval iter<|k7 X) (λv s1=>lg (kZ X.prog X.w) X.A (pyIter v) (PIE X l σ n R) X.xe s1) X.xe s
def V3{vs:Ω}(z:eL (d7 s) x=aB o)(B:o.cls = iU n)(hd:x9 o = j7 vs)
    (hn:["enumerate","zip","dict_itemiterator","dict_reverseitemiterator","odict_iterator","itertools.zip_longest","itertools.pairwise"].contains n=f_) (l:Q () s):lg M A (nO t (dS x) u) Q E s:=by cases t <;> first
    |show lz l
    | (cases u <;> first
        |show lz l
        | (show kU<|wpAny_load z ?_;rw[B,hd];change lg M A (if (["enumerate","zip","dict_itemiterator","dict_reverseitemiterator","odict_iterator","itertools.zip_longest","itertools.pairwise"].contains n && vs[0]? == aB (oi _))=t_ then _ else _) Q E s;rw[pW<|by intro h;rw[hn]at h;cases h];show lz l))
noncomputable def Itl(K:Ζ)(a:Addr):It:=(λi H=>∃xs x,tJ K H a xs/\xs[i]?=aB x,λi H x l=>l=H/\∀xs,tJ K H a xs->xs[i]?=aB x,λi H=>∃xs,tJ K H a xs/\de xs<=i)
noncomputable def Wv(lo:Int)(n:Nat):It:=(λi Q=>i<n,λi H x l=>l=H/\x = c7 (lo+i),λi Q=>n<=i)
def QO{K}a l:JI P w K tg (Itl K a) [l] l<|λi h=>t9 h l a i where
 mem:=by simp
 obj:=λi h st b hb=>by
  have e:b=l:=by simpa using hb
  subst e;have(o,e,c,d):=st;show(o,e,λv z=>by rw[d]at z;cases z)
 keep:=λi h h' st k=>st.at λo e=>k l ⋯ o e
 item:=by intro X hP hw B Y i oO s σ H E I hf st G;subst hP hw B;have(xs,x,t,J):=G;have(L,M,p,hz):=I.list t;have(u,hu,ru):=M.get J;have(O,Q,f2,R,S,U):=hf l ⋯;show wpAny_pyNext_list_item st (j6 p) (x:=u) (by simpa using hu) λh' n sb=>?_;have I1:Inv X oO σ H { s with heap:=h' }:=I.turned (t':=sq s) (λb o hb e=>fq (sb.2 b hb) e) O Q R S U;have(o,e,c,d):=id n;show(u,rfl,V3 (s:={ s with heap:=h' }) e c d (by rfl) (x,H,I1,ru,(rfl,λys hy=>by rw[I.list_inj hy t];show J),n,λb hb=>(hf b hb).1))
 done:=by intro X hP hw B Y i oO s σ H E I hf st G;subst hP hw B;have(xs,t,J):=G;have(L,M,p,hz):=I.list t;have(O,Q,f2,R,S,U):=hf l ⋯;have hl:=n7 M;show wpAny_pyNext_list_end (I.ok.hd Y) st (j6 p) (by simp;lia) λh' eb=>(rfl,I.turned (t':=sq s) (λb o hb e=>eb b o hb e) O Q R S U)
 self:=λZ Z Z Z Z st h=>wpAny_pyIter_listiter st h
def Nb{K}l lo n:JI P w K S (Wv lo n) [l] l<|λi h=>IsRangeIter h l (lo+(i:Nat)*1) ((n:Int)-(i:Nat)) 1 where
 mem:=by simp
 obj:=λi h st b hb=>by
  have e:b=l:=by simpa using hb
  subst e;show(_,st,λv z=>by have U:j7 _=p8 v:=z;cases U)
 keep:=λi h h' st k=>k l ⋯ _ st
 item:=by intro X hP hw x B i R s σ H E I hf st G;subst hP hw x;have(J,L,Y,M,O,Q):=hf l ⋯;have W:=Walks.range (prog:=g9 X) (w:=X.w) (I.ok.hd B) l lo 1 n;show W.item i s _ _ G st λv h' tk hv u kk=>?_;have(t,rfl):=hv;have I1:Inv X R σ H { s with heap:=h',toks:=tk }:=I.turned (λb o hb e=>kk b o (by simpa using hb) e) J L M O Q;show(_,rfl,V3 (s:={ s with heap:=h',toks:=tk }) (n:= "range_iterator") u rfl rfl (by rfl) (c7<|lo+i,H,I1,(t,?_),(rfl,rfl),u,λb hb=>(hf b hb).1));rw[jR]
 done:=by intro X hP hw x B i R s σ H E I hf st G;subst hP hw x;have(J,L,Y,M,O,Q):=hf l ⋯;show wpAny_pyNext_range_end (I.ok.hd B) st (by have:n<=i:=G;lia) λh' eb=>(rfl,I.turned (t':=sq s) (λb o hb e=>eb b o hb e) J L M O Q)
 self:=λZ Z Z Z Z st h=>wpAny_pyIter_rangeiter st h
def FV(K:Ζ)(tl:TE):TI:=λσ H R=>tl σ H λx l=>∃a,x = c6 a/\(∃xs,tJ K l a xs)/\R (Itl K a) l
def sQ(hl:PE X l tl):PI X tg l<|FV X.K tl:=by
 intro z s σ H R I h;show thn (hl z s σ H _ I h) λv n u=>?_;have(x,B,t,E,G):=u;have(a,e,(M,J),q):=G;subst e;cases E;have(L,O,p,P):=t.list J;show wpAny_pyIter_list (j6 p) ?_;show(n.heap.objs.size,[n.heap.objs.size],_,_,B,rfl,t.kept (t':=sq n) λb o e=>ak _ e,QO a _,(_,bw _ rfl,rfl,rfl),λb hb=>?_,q);have e:b=n.heap.objs.size:=by simpa using hb
 subst e;show t.fpOk (ag _)<|t.hok.fresh<|ag _
def TL{σ:St}{lo}(I:Inv X l σ H s)(x:-(2 ^ 62)<=lo)(z:lo<2 ^ 62)(B:-(2 ^ 62)<=hi)(G:hi<2 ^ 62)
  (q:R (Wv lo<|cC (hi-lo)) H):lg (kZ X.prog X.w) X.A (pyIter<|dS s.heap.objs.size) (PIE X l σ tg R) E { s with heap:=pF (d7 s) { cls:=iU "range", data:=j7 #[jK lo t,jK hi u,jK 1 v] },toks:=tk }:=by
 show wpAny_pyIter_range (aAp ..) (small_one x z B G) ?_;have n:Inv X l σ H { s with heap:=pF (d7 s) { cls:=iU "range", data:=j7 #[jK lo t,jK hi u,jK 1 v] },toks:=tk }:=I.kept λb o e=>ak _ e;show((pF (d7 s) { cls:=iU "range", data:=j7 #[jK lo t,jK hi u,jK 1 v] }).objs.size,[(pF (d7 s) { cls:=iU "range", data:=j7 #[jK lo t,jK hi u,jK 1 v] }).objs.size],_,_,H,rfl,
  n.kept λb o e=>ak _ e,Nb _ lo<|cC (hi-lo),?_,λb hb=>?_,q)
 .have J:lo+((0:Nat))*1=lo:=by simp
  have L:((cC (hi-lo)))-((0:Nat))=wo lo hi 1:=by rw[rangeSize_one];split <;> lia
  rw[J,L];show bw _ rfl
 .have e:b=(pF (d7 s) { cls:=iU "range", data:=j7 #[jK lo t,jK hi u,jK 1 v] }).objs.size:=by simpa using hb
  subst e;show n.fpOk (ag _)<|n.hok.fresh<|ag _
def S0(l:TA):TI:=λσ H R=>l σ H λvs n=>∃j:Int,vs=[c7 j]/\-(2 ^ 62)<=j/\j<2 ^ 62/\R (Wv 0<|cC j) n
def vE(x:Gl X "range")(z:X.mg "range" = n_)(ha:PA X [a] u)(B:↑(lC [a] X.env=[%[f_|eval a<|k7 X]])):PI X tg (ri (fY "range" p) [a] [] pos)<|S0 u:=by intro E s σ H R I h;show Call_<|yV I x z boot_range<|bR (thn (ha pos E s σ H _ I h) λO P l=>?_) B rfl;have(Q,S,G,J,n):=l;have(j,e,n,L,q):=n;subst e;cases J with
 |cons r M=>cases M;have(t,rfl):=r;show call_range_1<|TL G (by rfl') (by rfl') n L<|by simpa using q
def Hn(u:TI)(g:TG)(tb:TS):TS:=λD σ H=>u σ H λJ z=>∃W:Nat->Nat->St->Hp->Prop,(∃m,W 0 m σ z)/\∀i m σ H,W i m σ H ->
 (J.stop i H/\D.nx σ H)∨(J.go i H/\∃N:St->Hp->Prop,(∀l n,N l n->∃t,t<m/\W (i+1) t l n)/\∀x n,J.yld i H x n->g x σ n λs B=>tb { D with nx:=N,ct:=N,bk:=D.nx } s B)
noncomputable def FJ(fp:Δ)(h:Heap):Φ:=fp.filterMap λb=>(eL h b).map λo=>%[b|o]
def Ay(hb:b∈fp)(e:eL h b=aB o):%[b|o]∈FJ fp h:=e9 jG (b,hb,by rw[e];rfl)
def Se(l:p∈FJ fp h):p.1∈fp/\eL h p.1=aB p.2:=by have(b,hb,e):=jG.mp l;cases q:eL h b with
 |none=>rw[q]at e;cases e
 |some o=>rw[q]at e;have n:=aB.inj e;subst n;show(hb,q)
def Inv.pinned{σ:St}(I:Inv X l σ H s)(hf:∀b∈fp,yu X l H b)(t:∀b∈fp,∃o,eL (d7 s) b=aB o/\∀v,x9 o ≠ p8 v):Inv X (l++FJ fp s.heap) σ H s:=I.pins_of λp u=>t6 (mAq.mp u) (λz=>I.pin p<|ah _ z) λz=>by have(hb,e):=Se z;have(x,B,E,_):=hf p.1 hb;have(o,n,d):=t p.1 hb;rw[e]at n;cases n;show(e,x,B,E,d)
def Inv.unpinned{σ:St}(I:Inv X (l++pl) σ H s):Inv X l σ H s:=I.pins_of λp n=>I.pin p<|ah _<|ai _ n
def Am(R:PassesOwn (kZ X.prog X.w) X.A X.env X.xe)(hc:X.calm=t_)(hi:PI X tg iter wi)(hg:PG X tg g)(hb:Km X body tb)
  (hs:autoParam (∀x,mV iter X.env x=pure x) d_._auto_1):PS X (.For tg iter body [] pos)<|Hn wi g tb:=by
 intro P s σ H D I h;show wpAny_For (thn (hi P s σ H _ I h) λv s1 h1=>thn h1 λitv s2 h2=>?_) hs;have(it,S,tn,J,H2,e,I2,T,Et,f2,W,(m0,w0),turn):=h2;subst e;have z:∀{M:Hp},(∀b∈S,M b=n_)->∀b∈S,yu X P M b:=λhn b hb=>(hn b hb,(f2 b hb).2);show codeAny_forLoop_any (λn s'=>∃i B M,Inv X P B M s'/\tn i s'.heap/\(∀b∈S,M b=n_)/\W i n B M) ?_ m0 (0,σ,H2,I2,Et,λb hb=>(f2 b hb).1,w0);rintro n s3 ⟨i,E,H3,I3,st3,U,w3⟩;obtain⟨stop,qn⟩|⟨go,N,hN,step⟩:=turn i n E H3 w3;.show mi R<|thn (T.done X rfl rfl rfl hc i P s3 E H3 X.xe I3 (z U) st3 stop) λr s4 t=>?_;have(hr,I4):=t;subst hr;show nj (E,H3,I4,qn)
 .show mi R<|thn (T.item X rfl rfl rfl hc i P s3 E H3 X.xe I3 (z U) st3 go) λr s4 t=>?_;have(u,hr,h4):=t;subst hr;show mi R<|thn h4 λZ s5 t=>?_;have(x,H5,I5,r5,y5,Q,fr5):=t;have I5':=I5.pinned (z fr5)<|T.obj _ _ Q;show mi R<|thn (hg _ s5 E H5 x u _ I5' r5<|step x H5 y5) λZ s6 t=>?_;have(σ6,H6,I6,q6):=t;show mi R<|thn (hb _ s6 σ6 H6 _ I6 q6) λf s7 O=>?_;have again:∀{l:St}{G:Hp},Inv X (P++FJ S s5.heap) l G s7->N l G->∃m,m<n/\∃i B M,Inv X P B M s7/\tn i s7.heap/\(∀b∈S,M b=n_)/\W i m B M:=λ{l G} L Y=>by have(m',hm,w7):=hN l G Y;show(m',hm,i+1,l,G,L.unpinned,T.keep _ _ _ Q λb hb o e=>(L.pin %[b|o]<|ah _<|ah _<|Ay hb e).1,λb hb=>?_,w7);have(o,e,d):=T.obj _ _ Q b hb;show(L.pin %[b|o]<|ah _<|ah _<|Ay hb e).2.1
  cases f with
  |next=>have(l,G,L,Y):=O;show again L Y
  |cont=>have(l,G,L,Y):=O;show again L Y
  |brk=>have(l,G,L,O):=O;show(l,G,L.unpinned,O)
  |ret v=>have(x7,l,G,L,r7,O):=O;show(x7,l,G,L.unpinned,r7,O)
def DE{K}{g:TG}{tb:TS}{D:AU}(l:Nat->St->Hp->Prop)(E:l 0 σ H)(hl:∀i σ H,i<=de xs->l i σ H->tJ K H a xs)
  (G:∀i x σ H,xs[i]?=aB x->l i σ H->g x σ H λn z=>tb { D with nx:=l (i+1),ct:=l (i+1),bk:=D.nx } n z) (hd:∀σ H,l (de xs) σ H->D.nx σ H) :
  ∃W:Nat->Nat->St->Hp->Prop,(∃m,W 0 m σ H)/\∀i m σ H,W i m σ H ->
   ((Itl K a).stop i H/\D.nx σ H)∨((Itl K a).go i H/\∃N:St->Hp->Prop,(∀s t,N s t->∃B,B<m/\W (i+1) B s t)/\∀x t,(Itl K a).yld i H x t->g x σ t λn z=>tb { D with nx:=N,ct:=N,bk:=D.nx } n z):=by
 show(λi m σ H=>m=de xs-i/\i<=de xs/\l i σ H,(de xs,by simp,aY _,E),?_);rintro i m σ H ⟨rfl,hi,p⟩;have q:=hl i σ H hi p;by_cases u:i<de xs;.show iq ((xs,xs[i],q,by simp[u]),l<|i+1,λs t I=>(de xs-(i+1),by omega,rfl,u,I),λx t y=>?_);have(e,y):=y;subst e;show G i x σ _ (y xs q) p
 .have e:i=de xs:=by rfl'
  subst e;show jE ((xs,q,ag _),hd σ H p)
def QG{lo}{g:TG}{tb:TS}{D:AU}(l:Nat->St->Hp->Prop)(G:l 0 σ H)
  (I:∀i σ H,i<n->l i σ H->g (c7<|lo+i) σ H λs B=>tb { D with nx:=l (i+1),ct:=l (i+1),bk:=D.nx } s B) (hd:∀σ H,l n σ H->D.nx σ H) :
  ∃W:Nat->Nat->St->Hp->Prop,(∃m,W 0 m σ H)/\∀i m σ H,W i m σ H ->
   ((Wv lo n).stop i H/\D.nx σ H)∨((Wv lo n).go i H/\∃N:St->Hp->Prop,(∀t u,N t u->∃E,E<m/\W (i+1) E t u)/\∀x u,(Wv lo n).yld i H x u->g x σ u λs B=>tb { D with nx:=N,ct:=N,bk:=D.nx } s B):=by
 show(λi m σ H=>m=n-i/\i<=n/\l i σ H,(n,by simp,aY _,G),?_);rintro i m σ H ⟨rfl,hi,p⟩;by_cases z:i<n;.show iq (z,l<|i+1,λt u J=>(n-(i+1),by omega,rfl,z,J),λx u y=>?_);have(e,y):=y;subst e y;show I i σ _ z p
 .have e:i=n:=by rfl'
  subst e;show jE (ag _,hd σ H p)
def UR(u:St->Hp->Prop)(μ:St->Hp->Nat)(z:u σ H)
  (B:∀σ H,u σ H->c σ H λb s=>if b=t_ then tb { D with nx:=λn t=>u n t/\μ n t<μ σ H,ct:=λn t=>u n t/\μ n t<μ σ H,bk:=D.nx } σ s else D.nx σ s)
  (mono:∀σ H Q x,(∀b s,Q b s->x b s)->c σ H Q->c σ H x):Jk c tb D σ H:=by show(λm σ H=>m=μ σ H/\u σ H,(_,rfl,z),?_);rintro m σ H ⟨rfl,p⟩;show mono σ H _ _ (λb s q=>?_)<|B σ H p;cases b with
 |true=>show(_,λn t ⟨E,l⟩=>(_,l,rfl,E),q)
 |false=>show q
abbrev R2:=V->V->Hp->VK->Prop
def EV(X:Cx)(f:Value->Value->Sem Value)(r:R2):Prop:=∀l s (σ:St) H x y v u Q,Inv X l σ H s->qH x v->qH y u->r x y H Q ->
  lg (kZ X.prog X.w) X.A (f v u) (EP X l σ Q) X.xe s
def UnR(X:Cx)(f:Value->Sem Value)(r:V->Hp->VK->Prop):Prop:=∀l s (σ:St) H x v Q,Inv X l σ H s->qH x v->r x H Q ->
  lg (kZ X.prog X.w) X.A (f v) (EP X l σ Q) X.xe s
def zA(X:Cx)(f:Value)(r:List V->Hp->VK->Prop):Prop:=∀l s (σ:St) H xs n Q,Inv X l σ H s->qB xs n->r xs H Q ->
  lg (kZ X.prog X.w) X.A (call f n) (EP X l σ Q) X.xe s
def Ux(r:R2)(l tb:TE):TE:=λσ H Q=>l σ H λx n=>tb σ n λy s=>r x y s Q
def tUn(r:V->Hp->VK->Prop)(l:TE):TE:=λσ H Q=>l σ H λx n=>r x n Q
def rI(C:Int->Int->Prop)(g:Int->Int->V):R2:=λx y H Q=>∃i j,x = c7 i/\y = c7 j/\C i j/\Q (g i j) H
def P5(g:Int->Int->V):R2:=λx y H Q=>∃i j,x = c7 i/\y = c7 j/\Q (g i j) H
def rU(g:Int->V):V->Hp->VK->Prop:=λx H Q=>∃i,x = c7 i/\Q (g i) H
def aac(ha:PE X a ta)(hb:PE X b tb){σ:St}{R:V->V->Hp->Prop}(I:Inv X B σ H s)
  (h:ta σ H λx G=>tb σ G λy n=>R x y n) {f:Value->Value->Sem Value}
  (hf:∀v u E x y n,Inv X B σ n E->qH x v->qH y u->R x y n->lg (kZ X.prog X.w) X.A (f v u) Q X.xe E) :
  lg (kZ X.prog X.w) X.A (eval a<|k7 X) (λv t=>lg (kZ X.prog X.w) X.A (eval b<|k7 X) (λu z=>lg (kZ X.prog X.w) X.A (f v u) Q X.xe z) X.xe t) X.xe s:=by show thn (ha B s σ H _ I h) λv J l=>?_;have(x,G,L,M,O):=l;show thn (hb B J σ G _ L O) λu E l=>?_;have(y,n,P,S,U):=l;show hf v u E x y n P M S U
def rJ(l:EV X (mT op) r)(ha:PE X a ta)(hb:PE X b tb):PE X (.BinOp a op b pos)<|Ux r ta tb:=by intro n s σ H Q I h;show wpAny_BinOp<|aac ha hb I h λv u t x y z B E G q=>l n t σ z x y v u Q B E G q
def zM(t:UnR X (unaryOp op) r)(ha:PE X a ta):PE X (.UnaryOp op a pos)<|tUn r ta:=by intro n s σ H Q I h;show UnaryOp_<|thn (ha n s σ H _ I h) λv u l=>?_;have(x,z,B,E,G):=l;show t n u σ z x v Q B E G
def opI{g:Int->Int->Int}
  (rule:∀i j t u s Q E,C i j->Q (jK (g i j)<|sq s) { s with toks:=sq s+1 }->lg (kZ X.prog X.w) X.A (f (jK i t)<|jK j u) Q E s) :
  EV X f<|rI C λi j=>c7<|g i j:=by intro G s σ H x y v u Q I l n h;have(i,j,rfl,rfl,z,q):=h;have(t,rfl):=l;have(B,rfl):=n;show rule i j t B s _ _ z (c7<|g i j,H,I.tok _,(_,rfl),q)
def aco{g:Int->Int->Int}
  (rule:∀i j t u s Q E,Q (jK (g i j)<|sq s) { s with toks:=sq s+1 }->lg (kZ X.prog X.w) X.A (f (jK i t)<|jK j u) Q E s) :
  EV X f<|P5 λi j=>c7<|g i j:=by intro B s σ H x y v u Q I l n h;have(i,j,rfl,rfl,q):=h;have(t,rfl):=l;have(z,rfl):=n;show rule i j t z s _ _ (c7<|g i j,H,I.tok _,(_,rfl),q)
def Z9{g:Int->Int->Bool}
  (rule:∀i j t u s Q E,Q (kQ<|g i j) s->lg (kZ X.prog X.w) X.A (f (jK i t)<|jK j u) Q E s) :
  EV X f<|P5 λi j=>pY<|g i j:=by intro B s σ H x y v u Q I l n h;have(i,j,rfl,rfl,q):=h;have(t,rfl):=l;have(z,rfl):=n;show rule i j t z s _ _ (pY<|g i j,H,I,rfl,q)
def aa9(i j:Int):Prop:=0<j/\j<1073741824
def ab2(i j:Int):Prop:=0<=j/\j<=1000000/\i.natAbs<2 ^ 64
def VP(i j:Int):Prop:=(-(2 ^ 64)<i/\i<2 ^ 64)∨(-(2 ^ 64)<j/\j<2 ^ 64)
def VP.ok(h:VP i j):IntMulOk i j:=by
 obtain⟨l,n⟩|⟨l,n⟩:=h;.show .of_left<|intBits_le_64 l n
 .show .of_right<|intBits_le_64 l n
def Cp:EV X (mT .Add)<|P5 λi j=>c7<|i+j:=aco λQ Q Q Q Q Q Q q=>add_int q
def D3:EV X (mT .Sub)<|P5 λi j=>c7<|i-j:=aco λQ Q Q Q Q Q Q q=>sub_int q
def Ka:EV X (mT .Mult)<|rI VP λi j=>c7<|i*j:=opI λQ Q Q Q Q Q Q l q=>mul_int q l.ok
def BR:EV X (mT .FloorDiv)<|rI aa9 λi j=>c7<|i / j:=opI λi j Q Q Q Q Q l q=>by have n:=l.1;have s:=l.2;show floordiv_int ∅ (by rw[iG i<|by rfl'];show q)<|jE<|PyProof.noPylong_small<|by omega
def wu:EV X (mT .Mod)<|rI (λQ j=>0<j) λi j=>c7<|i % j:=opI λi j Q Q Q Q Q l q=>by show mod_int' ∅<|by rw[Int.fmod_eq_emod_of_nonneg i<|by rfl'];show q
def aa6:EV X (mT .Pow)<|rI ab2 λi j=>c7<|i ^ cC j:=opI λQ Q Q Q Q Q Q l q=>pow_int_small l.1 l.2.1 l.2.2 q
def unI{g:Int->Int}
  (rule:∀i t s Q E,Q (jK (g i)<|sq s) { s with toks:=sq s+1 }->lg (kZ X.prog X.w) X.A (f<|jK i t) Q E s) :
  UnR X f<|rU λi=>c7<|g i:=by intro n s σ H x v Q I l h;have(i,rfl,q):=h;have(t,rfl):=l;show rule i t s _ _ (c7<|g i,H,I.tok _,(_,rfl),q)
def wz:UnR X (unaryOp .USub)<|rU λi=>c7<|-i:=unI λQ Q Q Q Q q=>neg_int q
noncomputable def scal:V->V->Bool
 | nc,nc=>t_|nc,c7 _=>t_|c7 _,nc=>t_|nc,pY _=>t_|pY _,nc=>t_|nc,wy _=>t_|wy _,nc=>t_
 | c7 _,c7 _=>t_|pY _,pY _=>t_|wy _,wy _=>t_|.byt _,.byt _=>t_
 | c7 _,wy _=>t_|wy _,c7 _=>t_|pY _,wy _=>t_|wy _,pY _=>t_
 |_,_=>f_
def rEq:R2:=λx y H Q=>scal x y=t_/\Q (pY<|decide<|x=y) H
def rNe:R2:=λx y H Q=>scal x y=t_/\Q (pY<|!decide (x=y)) H
def PR:decide (c7 i=c7 j)=(i == j):=by rw[bL];simp
def SN:decide (pY i=pY j)=(i == j):=by rw[bL];simp
def OY:decide (wy i=wy j)=(i == j):=by rw[bL];simp
def OQ:decide (V.byt i=V.byt j)=(b9 i == b9 j):=by rw[bL];cases i;cases j;simp
def qI{σ:St}(I:Inv X l σ H s)(q:Q (pY k) H)(e:k=n):EP X l σ Q (kQ n) s:=by subst e;show(pY k,H,I,rfl,q)
def zE:EV X (lK .Eq) rEq:=by intro E s σ H x y v u Q I B l h;have(z,q):=h;cases x with
 |non=>cases B;cases y with
  |non=>cases l;show aBh<|qI I q<|by rfl
  |bl j=>cases l;show aBi<|qI I q<|by rfl
  |int j=>have(n,rfl):=l;show aBj<|qI I q<|by rfl
  |str j=>have(n,rfl):=l;show aBk<|qI I q<|by rfl
  |_=>show absurd (show f_=t_ from z) aT
 |bl i=>cases B;cases y with
  |non=>cases l;show aBl<|qI I q<|by rfl
  |bl j=>cases l;show eq_bool<|qI I q SN
  |str j=>have(n,rfl):=l;show aB5<|qI I q<|by rfl
  |_=>show absurd (show f_=t_ from z) aT
 |int i=>have(t,rfl):=B;cases y with
  |non=>cases l;show aBm<|qI I q<|by rfl
  |int j=>have(n,rfl):=l;show eq_int<|qI I q PR
  |str j=>have(n,rfl):=l;show aB6<|qI I q<|by rfl
  |_=>show absurd (show f_=t_ from z) aT
 |str i=>have(t,rfl):=B;cases y with
  |non=>cases l;show aBn<|qI I q<|by rfl
  |bl j=>cases l;show aB7<|qI I q<|by rfl
  |int j=>have(n,rfl):=l;show aB8<|qI I q<|by rfl
  |str j=>have(n,rfl):=l;show eq_str<|qI I q OY
  |_=>show absurd (z) aT
 |byt i=>have(t,rfl):=B;cases y with
  |byt j=>have(n,rfl):=l;show W.eq_bytes<|qI I q OQ
  |_=>show absurd (z) aT
 |_=>cases y <;> show absurd (z) aT
def O4:EV X (lK .NotEq) rNe:=by intro E s σ H x y v u Q I B l h;have(z,q):=h;cases x with
 |non=>cases B;cases y with
  |non=>cases l;show aBo<|qI I q<|by rfl
  |bl j=>cases l;show aBp<|qI I q<|by rfl
  |int j=>have(n,rfl):=l;show aBq<|qI I q<|by rfl
  |str j=>have(n,rfl):=l;show aBr<|qI I q<|by rfl
  |_=>show absurd (show f_=t_ from z) aT
 |bl i=>cases B;cases y with
  |non=>cases l;show aBs<|qI I q<|by rfl
  |bl j=>cases l;show ne_bool<|qI I q<|congrArg not SN
  |str j=>have(n,rfl):=l;show aB9<|qI I q<|by rfl
  |_=>show absurd (show f_=t_ from z) aT
 |int i=>have(t,rfl):=B;cases y with
  |non=>cases l;show aBt<|qI I q<|by rfl
  |int j=>have(n,rfl):=l;show ne_int<|qI I q<|congrArg not PR
  |str j=>have(n,rfl):=l;show aBa<|qI I q<|by rfl
  |_=>show absurd (show f_=t_ from z) aT
 |str i=>have(t,rfl):=B;cases y with
  |non=>cases l;show aBu<|qI I q<|by rfl
  |bl j=>cases l;show aBb<|qI I q<|by rfl
  |int j=>have(n,rfl):=l;show aBc<|qI I q<|by rfl
  |str j=>have(n,rfl):=l;show ne_str<|qI I q<|congrArg not OY
  |_=>show absurd (show f_=t_ from z) aT
 |byt i=>have(t,rfl):=B;cases y with
  |byt j=>have(n,rfl):=l;show W.ne_bytes<|qI I q<|congrArg not OQ
  |_=>show absurd (z) aT
 |_=>cases y <;> show absurd (z) aT
def Zo:EV X (lK .Lt)<|P5 λi j=>pY<|decide<|i<j:=Z9 λQ Q Q Q Q Q Q q=>lt_int q
def adY:EV X (lK .LtE)<|P5 λi j=>pY<|decide<|i<=j:=Z9 λQ Q Q Q Q Q Q q=>le_int q
def B8:EV X (lK .Gt)<|P5 λi j=>pY<|decide<|j<i:=Z9 λQ Q Q Q Q Q Q q=>gt_int q
def E7:EV X (lK .IsNot)<|λx y H Q=>y = nc/\Q (pY<|!decide (x = nc)) H:=by intro z s σ H x y v u Q I l n h;have(rfl,q):=h;cases n;show isnot_none_gen<|qI I q ?_;cases x <;> first
  | (rfl)
  | (have(t,rfl):=l;rfl)
def qK b(h:⇑(op ≠ .In))(l:⇑(op ≠ LM)):mL op b=f_:=by
 have n:(op == CmpOp.In)=f_:=by cases op <;> first|rfl|show absurd rfl h
 have s:(op == LM)=f_:=by cases op <;> first|rfl|show absurd rfl l
 cases b <;> simp[mL,n,s]
def Fp(l:EV X (lK op) r)(ha:PE X a ta)(hb:PE X b tb)(n:mL op b=f_):PE X (aAl a [op] [b] pos)<|Ux r ta tb:=by intro t s σ H Q I h;show wpAny_Compare1 (aac ha hb I h λv u z x y B E G J q=>l t z σ B x y v u Q E G J q) n
def SB(t:TE):TT:=λσ H Q=>t σ H λx l=>∃k,x = pY k/\Q k l
def qr(n:EV X (lK op) r)(ha:PE X a ta)(hb:PE X b tb)(t:mL op b=f_):PT X (aAl a [op] [b] pos)<|SB<|Ux r ta tb:=by intro l s σ H Q I h;show nZ (thn (ha l s σ H _ I h) λv B o_=>?_) t;have(x,E,G,J,L):=o_;show thn (hb l B σ E _ G L) λu M o_=>?_;have(y,O,P,R,S):=o_;show thn (n l M σ O x y v u _ P J R S) λc s3 o_=>?_;have(z,U,Y,r3,k,e,q3):=o_;subst e;cases r3;show mq (U,Y,q3)
def Nf:(sizeLine:Nat)<2 ^ 63:=by decide
def xq(r:qB [x] l):∃u,l=[u]/\qH x u:=by cases r with
 |cons n s=>cases s;show(_,rfl,n)
def Y7(r:qB [x,y] l):∃u n,l=[u,n]/\qH x u/\qH y n:=by cases r with
 |cons s t=>cases t with
  |cons z B=>cases B;show(_,_,rfl,s,z)
def Wg:zA X (gp "abs")<|λxs H Q=>∃i,xs=[c7 i]/\Q (c7<|if i<0 then -i else i) H:=by intro l s σ H xs n Q I r h;have(i,rfl,q):=h;have(u,rfl,t,rfl):=xq r;show call_abs_int λu x=>(c7<|if i<0 then -i else i,H,I.tok _,(_,rfl),q)
def aa0(K:Ζ)(x:V)(H:Hp)(n:Nat):Prop:=match x with
 | wy y=>y.length<=sizeLine/\n=y.length
 | .byt y=>y.size<=sizeLine/\n=y.size
 | c6 p=>(∃xs,tJ K H p xs/\n=de xs)∨∃xs,Hh K H p xs/\n=de xs
 |_=>False
def qV:zA X (gp "len")<|λxs H Q=>∃x n,xs=[x]/\aa0 X.K x H n/\Q (c7 n) H:=by intro O s σ H xs P Q I r h;have(x,n,rfl,e,q):=h;have(u,rfl,B):=xq r;have R:=mB;cases x with
 |str y=>have(t,rfl):=B;obtain⟨L,z⟩:y.length<=sizeLine/\n=y.length:=e;subst z;show len_str ∅ (c7 _,H,I.tok _,(_,rfl),q)
 |byt y=>have(t,rfl):=B;obtain⟨L,z⟩:y.size<=sizeLine/\n=y.size:=e;subst z;show W.len_bytes ∅ (c7 _,H,I.tok _,(_,rfl),q)
 |ref p=>
  cases B;have z:=e;obtain⟨xs,E,z⟩|⟨xs,E,z⟩:=z;.subst z;have(G,J,pl,M):=I.list E;have l:=n7 J;show Calls.call_len_list (j6 pl) (by simp only[aE];lia) (c7<|de xs,H,I.tok _,(_,by simp only[aE];rw[l]),q)
  .subst z;have(G,J,pl,M):=I.tuple E;have l:=n7 J;show len_tuple pl (by simp only[aE];lia) (c7<|de xs,H,I.tok _,(_,by simp only[aE];rw[l]),q)
 |_=>show(e).elim
def Ht.some_of(r:Ht (aB v) o):∃u,o=aB u/\qH v u:=by cases o with
 |none=>show(r).elim
 |some u=>show(u,rfl,r)
structure uw (k:Nat)(A:Around):Prop where
 hd:A.handled=n_
 dp:A.depth+3*k+5<recursionLimit
 un:A.units+16*k+200<lZ
def uw.mono(r:uw k A)(h:j<=k):uw j A:=(r.hd,by have:=r.dp;lia,by have:=r.un;lia)
def uw.deeper(r:uw (k+1) A)env:uw k<|sv A env:=(r.hd,by have:=r.dp;change A.depth+1+3*k+5<_;lia,by have:=r.un;change ph A+3+16*k+200<_;lia)
def uw.in1(r:uw (k+1) A):uw k A.in1:=(r.hd,by have:=r.dp;change A.depth+3*k+5<_;lia,by have:=r.un;change ph A+1+16*k+200<_;lia)
def uw.depth(r:uw k A):A.depth<recursionLimit:=by have:=r.dp;lia
def uw.units(r:uw k A):ph A+64<lZ:=by have:=r.un;lia
def wx:TA:=λZ H Q=>Q [] H
def qR(l:TE)(tr:TA):TA:=λσ H Q=>l σ H λx n=>tr σ n λxs s=>Q (x::xs) s
def oT:PA X [] wx:=λZ Z Z Z H Q I h=>aA8 ([],H,I,lX,h)
def oP(ha:PE X e te)(hr:PA X es t)(z:↑(lC (e::es) X.env=%[f_|eval e<|k7 X]::lC es X.env)):PA X (e::es)<|qR te t:=by intro pos n s σ H Q I h;rw[z];show aA3<|thn (ha n s σ H _ I h) λu B l=>?_;have(x,E,G,J,L):=l;show thn (hr pos n B σ E _ G L) λU Y l=>?_;have(M,O,P,R,S):=l;show(x::M,O,P,iL J R,S)
def acZ(t:TA):TE:=λσ H Q=>t σ H λxs l=>de xs<=sizeLine/\∀p,l p=n_->Q (c6 p) (rG l p<|vu xs)
def abF(t:TA):TE:=λσ H Q=>t σ H λxs l=>de xs<=sizeLine/\∀p,l p=n_->Q (c6 p) (rG l p<|.lst xs)
def CN(h:PA X es t):PE X (vb es x1 pos)<|acZ t:=by intro x s σ H Q I B;show wpAny_Tuple_spliced<|thn (h pos x s σ H _ I B) λE l o_=>?_;have(G,J,n,r,z,q):=o_;show(by rw[←n7 r];show z,?_);have hf:=n.hok.fresh<|ag _;show(c6 l.heap.objs.size,rG J l.heap.objs.size<|vu G,n.laid (λb u e=>ak _ e) (ag _) ?_,rfl,q _ hf);show(z,E,r,(_,bw _ rfl,rfl,_,rfl))
def qJ(h:PA X es t):PE X (.List es pos)<|abF t:=by intro x s σ H Q I B;show wpAny_List_spliced<|thn (h pos x s σ H _ I B) λE l o_=>?_;have(G,J,n,r,z,q):=o_;show(by rw[←n7 r];show z,?_);have hf:=n.hok.fresh<|ag _;show(c6 l.heap.objs.size,rG J l.heap.objs.size<|.lst G,n.laid (λb u e=>ak _ e) (ag _) ?_,rfl,q _ hf);show(z,E,0,r,bw _ rfl)
abbrev Sp:=List V->Hp->VK->XK->Prop
abbrev Sn:=List Env->Hp->kS->XK->Value->kS->Prop
structure WM (P:lu)(w:lB)(K:Ζ)(mg:Str->Υ)(base:Heap)(A:Around)(outer:List Env)(s:kS)(H:Hp):Prop where
 frames:A.frames=aB outer
 mod:Mod K mg base
 bs:∀b o,base.get? b=aB o->s.heap.get? b=aB o/\H b=n_
 bsz:base.objs.size<=s.heap.objs.size
 funs:s.heap.FunFrames base outer
 frf:∀b∈Sj outer,H b=n_
 hok:CQ P w H s.heap
 bare:nh s.gens
 tb:W7 K H
def CE(outer:List Env)(P:lu)(w:lB)(H:Hp)(s:kS)(Q:VK)(u:Value)(l:kS):Prop:=∃v n,l.os=s.os/\nh l.gens/\Un (Sj outer) [] H n s.heap l.heap/\CQ P w n l.heap/\qH v u/\Q v n
def CR(CX:Sn)(outer:List Env)(P:lu)(w:lB)(H:Hp)(s:kS)(Q:VK)(E:XK)(r:Result)(l:kS):Prop:=match r with
 | .ok (.ret u)=>CE outer P w H s Q u l
 | .ok _=>False
 | .error e=>CX outer H s E e l
structure Dj (P:lu)(w:lB)(K:Ζ)(mg:Str->Υ)(base:Heap)(CX:Sn)(k:Nat)(f:Addr)(fd:lH)(ps:List Str)(sp:Sp):Prop where
 len:∀vs H Q E,sp vs H Q E->vs.length=ps.length
 run:∀(A:Around) (outer:List Env) (s:kS) (H:Hp) (args:Args) (us:Ξ) (vs:List V) (Q:VK) (E:XK),uw k A->WM P w K mg base A outer s H->nI s fd args (ps.zip us)->qB vs us->sp vs H Q E ->
  mO (kZ P w) A (.call (.ref f) args) (CR CX outer P w H s Q E) s
def Dj.imp{K}(F:Dj P w K mg base CX k f fd ps sp)
  (h:∀vs H Q E,l vs H Q E->sp vs H Q E):Dj P w K mg base CX k f fd ps l:=(λvs H Q E q=>F.len vs H Q E<|h _ _ _ _ q,λA outer s H n t vs Q E hr u hb x z=>F.run A outer s H n t vs Q E hr u hb x<|h _ _ _ _ z)
section
variable {σ:St}
def Inv.env0(I:Inv X oO σ H s):WM X.prog X.w X.K X.mg X.base X.A X.stack s H:=(I.ok.frames,I.ok.mod,I.bs,bI I.ok.bsz I.sz,I.stack,I.stkFree,I.hok,I.bare,I.tb)
def Inv.after(I:Inv X oO σ H s)(h:CE X.stack X.prog X.w H s Q u s'):EP X oO σ Q u s':=by have(v,n,os,bare,un,hok,r,q):=h;have(hh,g,d,t,l):=s';obtain rfl:l=s.os:=os;show(v,n,I.call un hok bare<|λb z=>absurd z ⋯,r,q)
end
def En(sp:Sp)(l:List V)(E:XK)(t:TA):TE:=λσ H Q=>t σ H λvs n=>sp (vs++l) n Q E
def Bb(K:Ζ)(fd:lH)(ps:List Str)(ds:Ξ):Prop:=∀s l,K.In s.heap->de (l++ds)=de ps->nI s fd (l,[]) (ps.zip<|l++ds)
def Bb.all{K}(h:∀l:Ξ,de l=de ps->ou fd (l,[])=pure (ps.zip l)):Bb K fd ps []:=λs l Q hl=>by rw[aNq]at hl ⊢;show .of_eq<|h l hl
def N5(CX:Sn)(X:Cx)(E:XK):Prop:=∀n (σ:St) H s e l,Inv X n σ H s->CX X.stack H s E e l->X.xe e l
def ab9{σ:St}(F:Dj X.prog X.w X.K X.mg X.base CX k f fd ps sp)(hr:uw k X.A)(hb:Bb X.K fd ps ds)(hd:qB dvs ds)(G:N5 CX X E)
  (I:Inv X z σ H s) (r:qB vs l) (h:sp (vs++dvs) H Q E):lg (kZ X.prog X.w) X.A (call (dS f) l) (EP X z σ Q) X.xe s:=by
 have B:=r.append hd;have hl:de (l++ds)=de ps:=by rw[←n7 B];show F.len _ _ _ _ h
 show wpAny_call<|nu (F.run X.A X.stack s H (l,[]) (l++ds) (vs++dvs) Q E hr I.env0 (hb s l I.kIn hl) B h) λr J n=>?_;cases r with
 |error e=>show G z σ H s e J I n
 |ok fl=>cases fl with
  |ret u=>show I.after n
  |next=>show j5 n
  |brk=>show j5 n
  |cont=>show j5 n
def WW(F:Dj X.prog X.w X.K X.mg X.base CX k f fd ps sp)(hr:uw k X.A)(B:Gl X x)(G:X.mg x=aB (dS f))(hk:aAg X.K (dS f)=t_)(hb:Bb X.K fd ps ds)(hd:qB dvs ds)(J:N5 CX X E)
  (ha:PA X (e::es) t) (l:⇑((x == ("__debug__" : Str))=f_)) (L:↑(lC (e::es) X.env=%[f_|eval e<|k7 X]::lC es X.env)) (n:↑((mH pos<|lC es<|k7 X).any (·.1)=f_)) :
  PE X (ri (fY x p) (e::es) [] pos)<|En sp dvs E t:=by intro M s σ H Q I h;show mF<|PL I B G ?_ l;show W.callWith_K I.ok.mod.kin hk (thn (ha pos M s σ H _ I h) λO P u=>?_) L n;have(R,S,z,r,q):=u;show(z.kIn,?_);show ab9 F hr hb hd J z r q
structure pR (N P:List Str)(sc:lJ):Prop where
 kind:sc.kind = .function
 co:sc.isCoroutine=f_
 gen:sc.isGenerator=f_
 nd:N.Nodup
 pre:N.take P.length=P
 par:∀x∈P,sc.names.lookup x=aB .local∨sc.names.lookup x=aB .cell
 nofree:∀y∈sc.names,y.2 ≠ .free
theorem HH{kindOf}:∀{binds}{m:Str->Υ},(∀v,%[x|v]∉binds)->bindL kindOf binds m x=m x
 | [],_,_=>rfl
 | %[n|v]::r,m,h=>by
  unfold bindL;rw[HH λw hw=>h w<|mCo _ hw];split
  .have:x≠n:=by rintro rfl;show h v aa
   simp[this]
  .rfl
theorem HC{kindOf}:∀{binds}{m:Str->Υ},(∀v,%[x|v]∉binds)->bindC kindOf binds m x=m x
 | [],_,_=>rfl
 | %[n|v]::r,m,h=>by
  unfold bindC;rw[HC λw hw=>h w<|mCo _ hw];split;.rfl
  .have:x≠n:=by rintro rfl;show h v aa
   simp[this]
theorem IJ{kindOf}:∀{P:List Str}{vs:Ξ}{i:Nat}{m:Str->Υ},c8 P->P[i]?=aB x->vs[i]?=aB v->kindOf x=aB j8 ->
  bindL kindOf (P.zip vs) m x=aB v
 | [],_,_,_,_,h,_,_=>by simp at h
 |_::_,[],_,_,_,_,h,_=>by simp at h
 |p::P,w::vs,0,m,nd,h1,h2,hk=>by simp at h1 h2;subst h1;subst h2;change bindL kindOf (%[p|w]::P.zip vs) m p=_;unfold bindL;rw[HH λv l=>(au.mp nd).1 (jf l).1,pZ hk];simp
 |p::P,w::vs,i+1,m,nd,h1,h2,hk=>by change bindL kindOf (%[p|w]::P.zip vs) m x=_;show IJ (au.mp nd).2 (by show h1) (by show h2) hk
theorem Io{kindOf}:∀{P:List Str}{vs:Ξ}{i:Nat}{m:Str->Υ},c8 P->P[i]?=aB x->vs[i]?=aB v->kindOf x≠aB j8 ->
  bindC kindOf (P.zip vs) m x=aB v
 | [],_,_,_,_,h,_,_=>by simp at h
 |_::_,[],_,_,_,_,h,_=>by simp at h
 |p::P,w::vs,0,m,nd,h1,h2,hk=>by simp at h1 h2;subst h1;subst h2;change bindC kindOf (%[p|w]::P.zip vs) m p=_;unfold bindC;rw[HC λv l=>(au.mp nd).1 (jf l).1,pW hk];simp
 |p::P,w::vs,i+1,m,nd,h1,h2,hk=>by change bindC kindOf (%[p|w]::P.zip vs) m x=_;show Io (au.mp nd).2 (by show h1) (by show h2) hk
noncomputable def vf(N:List Str)(vs:List V):St:=vs.map aB++ao (de N-de vs) n_
noncomputable def Jv(CX:Sn)(P:lu)(w:lB)(K:Ζ)(mg:Str->Υ)(base:Heap)(N:List Str)(qual:Str)(scope:lJ)(f:Addr)(cd:Value)(A:Around)(outer:List Env)(s:kS)(H:Hp)(E:XK):Cx where
 prog:=P
 w:=w
 K:=K
 mg:=mg
 base:=base
 A:=sv A (mE qual scope s.heap.objs.size f cd)
 N:=N
 s₀:=s
 H₀:=H
 env:=mE qual scope s.heap.objs.size f cd
 outer:=outer
 stack:=mE qual scope s.heap.objs.size f cd::outer
 ex:=[]
 calm:=t_
 fn:=λQ=>t_
 pn:=[]
 xe:=λe n=>lg (kZ P w) (sv A<|mE qual scope s.heap.objs.size f cd) (leaving (mE qual scope s.heap.objs.size f cd) e) (λQ l=>CX outer H s E e l) (λt l=>CX outer H s E t l) n
def Lq{l:lJ}(h:l.names.lookup x=aB n4):∃c,(cellsFrom n (fX l) []).lookup x=aB c:=by have q:=aAu (fX l) n []<|jE h;show Option.isSome_iff_exists.mp q
def Rq{K}
  (S:pR N ps scope) (hd:aA2 A=n_) (t:WM P w K mg base A outer s H) (hl:de vs=de ps) (r:qB vs M)
  (x:InCallC s s.heap.objs.size (bindL (aA6 (mE qual scope s.heap.objs.size f cd)) (ps.zip M) λZ=>n_) (cellsFrom (s.heap.objs.size+1) (fX scope) []) (bindC (aA6 (mE qual scope s.heap.objs.size f cd)) (ps.zip M) λZ=>n_) s1) :
  Inv (Jv CX P w K mg base N qual scope f cd A outer s H E) [] (vf N vs) H s1:=by
 have Q:de ps<=de N:=by have:=congrArg de S.pre;rw[lTq]at this;lia
 have(L,U,rfl,hk):=x.done;have B:∀b:Addr,b∉(Jv CX P w K mg base N qual scope f cd A outer s H E).ex:=λb z=>absurd (show b∈([]:Δ)from z) ⋯;show((t.mod,S.kind,rfl,rfl,ag _,λy z c L l=>?_,λy G=>?_,λy c Z h=>?_,λZ=>hd,X9 t.frames,iq (rfl,rfl),λb z=>absurd z<|B b,t.bs,t.bsz,λb Z Z=>B b,λb z=>absurd z<|B b,t.funs,t.frf,t.tb),
  rfl,t.bare,Un.kept hk,(_,x.toInCall.ns,λi y v L l X=>?_),λy c h=>(_,x.cell y c h),t.hok.fresh<|ag _,λy c h=>?_,λp I=>absurd (show p∈([]:Φ)from I) ⋯,t.hok.kept hk,?_);.show name_of_addr x.apart (eF L)<|eF l
 .have G:scope.names.lookup y=aB n4∨scope.names.lookup y=aB sD:=G;obtain G|G:=G;.show Lq G
  .show absurd rfl<|S.nofree _<|eF G
 .show cY<|x.above y c<|eF h
 .have hi:i<de vs:=by
   unfold vf at l;by_cases hi:i<de vs;.show hi
   .rw[gYq<|by simpa using hi]at l;rw[bK]at l;split at l <;> cases l
  have ha:vs[i]?=aB v:=by unfold vf at l;rw[gZq<|by simpa using hi,gMq]at l;cases e:vs[i]? with
   |none=>rw[e]at l;cases l
   |some a=>rw[e]at l;cases l;rfl
  have(u,O,R):=r.get ha;have I:ps[i]?=aB y:=by rw[←S.pre,fj ∅];show L
  have J:c8 ps:=by rw[←S.pre];show S.nd.sublist<|bV _ _
  show(u,R,?_);obtain k|k:=S.par y<|mGq I;.show jE (k,IJ J I O k)
  .have(c,e):=Lq (n:=s.heap.objs.size+1) k;show iq (jE k,c,e,?_);have q:=x.cell y c e;rw[Io J I O<|by change scope.names.lookup y≠_;rw[k];decide]at q;show q
 .show t.hok.fresh<|cY<|x.above y c<|eF h
 .unfold vf;change _=de N;rw[lAq,lMq,aU];simp +arith[*]
def ZH{K:Ζ}{kV}
  {osl:Array Υ}(lk:K.lookup f=aB (oc,od,.func<|x8 B qual l body scope dV kV U pm an L ct,osl)) (hcd:aAh K L qual=t_) (S:pR N ps scope)
  (len:∀vs H Q E,sp vs H Q E->de vs=de ps)
  (M:∀A outer s H vs Q E,uw k (sv A<|mE qual scope s.heap.objs.size f L)->sp vs H Q E ->
   ∃t,Km (Jv CX P w K mg base N qual scope f L A outer s H E) body t/\t { nx:=λZ G=>Q nc G,rt:=Q } (vf N vs) H) :
  Dj P w K mg base CX (k+1) f (x8 B qual l body scope dV kV U pm an L ct) ps sp:=by
 show(len,λA outer s H args us vs Q E hr X hb r Y=>?_);have hl:=len _ _ _ _ Y;have KX:=X.mod.kin.keeps λb o e=>(X.bs b o e).1;have lim:=X.mod.nolimit.keeps λb o e=>(X.bs b o e).1;have O:∀y∈ps.zip us,scope.names.lookup y.1=aB j8∨(scope.names.lookup y.1=aB n4/\fC ((cellsFrom (s.heap.objs.size+1) (fX scope) []).lookup y.1)=t_):=λ⟨n,v⟩ hy=>by
  obtain q|q:=S.par n (jf hy).1;.show jE q
  .show iq (q,aAu _ _ _<|jE q)
 show codeAny_call_function hr.depth (KX _ _ lk) rfl S.co S.gen rfl (W.codeRec_of KX hcd)<|hb _ _ _ _ ?_;show wpAny_newFunctionEnv_cells S.kind O λenv he s1 x=>?_;subst he;show(lim.keeps x.toInCall.keep,codeAny_func ?_);have(t,ht,hq):=M A outer s H vs Q E (hr.deeper _) Y;have I:Inv (Jv CX P w K mg base N qual scope f L A outer s H E) [] (vf N vs) H s1:=Rq S hr.hd X hl r x;show lF (ht [] s1 (vf N vs) H _ I hq) (λfl s' R=>?_) λe s' R=>R;have fin:∀{z:St}{G:Hp}{v:V}{u:Value},Inv (Jv CX P w K mg base N qual scope f L A outer s H E) [] z G s'->qH v u->Q v G->CE outer P w H s Q u s':=λ{z G v u} J rv q=>(v,G,J.os,J.bare,si J,J.hok,rv,q);cases fl with
 |ret u=>have(v,z,G,J,rv,q):=R;show fin J rv q
 |next=>have(z,G,J,q):=R;show fin (v:=nc) J rfl q
 |brk=>have(_,_,_,q):=R;show j5 q
 |cont=>have(_,_,_,q):=R;show j5 q
section
variable {id:String}
def VN(r:List V->Hp->VK->Prop)(t:TA):TE:=λσ H Q=>t σ H λvs l=>r vs l Q
def qL(B:zA X (gp id) r)(E:Gl X x)(G:X.mg x=n_)(J:mI x=aB (gp id))(ha:PA X (e::es) t)(hn:⇑(x ≠ "__name__"))(l:⇑((x == ("__debug__" : Str))=f_))
  (L:↑(lC (e::es) X.env=%[f_|eval e<|k7 X]::lC es X.env)) (n:↑((mH pos<|lC es<|k7 X).any (·.1)=f_)):PE X (ri (fY x p) (e::es) [] pos)<|VN r t:=by intro z s σ H Q I h;show mF<|yV I E G J ?_ hn l;show jX (thn (ha pos z s σ H _ I h) λM O u=>?_) L n;have(P,R,S,U,Y):=u;show B z O σ R P M Q S U Y
def xH(B:zA X (iU T) r)(E:Gl X x)(G:X.mg x=n_)(J:mI x=aB (iU T))(ha:PA X (e::es) t)(hn:⇑(x ≠ "__name__"))(l:⇑((x == ("__debug__" : Str))=f_))
  (L:↑(lC (e::es) X.env=%[f_|eval e<|k7 X]::lC es X.env)) (n:↑((mH pos<|lC es<|k7 X).any (·.1)=f_)):PE X (ri (fY x p) (e::es) [] pos)<|VN r t:=by intro z s σ H Q I h;show mF<|yV I E G J ?_ hn l;show bR (thn (ha pos z s σ H _ I h) λM O u=>?_) L n;have(P,R,S,U,Y):=u;show B z O σ R P M Q S U Y
end
end L2
open L2.V renaming ref->c6,int->c7,non->nc,bl->pY,str->wy
open L2.HO renaming lst->eH,tup->vu,dK->wm
open L2.Cx renaming prog->g9,env->k7
open L2.tJ renaming of->l6
open L2.qB renaming length->n7
open L2.CQ renaming fresh->p5
open L2.Inv renaming list->tu,hok->L0
open L2 renaming vf->y7
open L2.Hh renaming of->aA1
namespace HT
open PySem PyProof.Rows
noncomputable def uz:Ϝ->Ϝ->Bool
 | [],[]=>f_
 | [],_::_=>t_
 |_::_,[]=>f_
 |x::xs,y::l=>if x=y then uz xs l else decide<|x<y
def Af x y(xs l:Ϝ):uz (x::xs) (y::l)=if x=y then uz xs l else decide<|x<y:=rfl
def Hr:uz [] []=f_:=rfl
def G4 y(l:Ϝ):uz [] (y::l)=t_:=rfl
def FT x(xs:Ϝ):uz (x::xs) []=f_:=rfl
def U4(A)s a t c u:∃e,t7 A s (jK a t) (jK c u) e/\(e=t_↔a=c):=((a == c),Sr a t c u,by simp)
def UH(A)s a t c u prog w E Q(h:Q (kQ<|decide<|a<c) s) :
  lg (kZ prog w) A (oH .Lt (jK a t)<|jK c u) Q E s:=(kR h)
noncomputable def IB(n d:Nat):Option Int->Nat
 |n_=>d
 |aB v=>if v<0 then cC (v+(n:Int)) else min (cC v) n
def UZ n d:IB n d n_=d:=rfl
def Fe(n d k:Nat):IB n d (aB (k:Int))=min k n:=by change(if (k)<0 then cC ((k:Int)+(n)) else min (cC (k:Int)) n)=min k n;rw[pW<|by simp +arith[*],aQ]
end HT
open HT renaming IB->rT
namespace L2
open PySem PySem.Spec PyProof.Rows
abbrev TO:=St->Hp->(Option Int->Hp->Prop)->Prop
def PO(X:Cx)(e:Option Expr)(t:TO):Prop:=∀l s (σ:St) H Q,Inv X l σ H s->t σ H Q ->
  lg (kZ X.prog X.w) X.A (evalPart e<|k7 X) (λu x=>∃o n,Inv X l σ n x/\IsPart u o/\Q o n) X.xe s
def Qk:TO:=λZ H Q=>Q n_ H
def Zi(t:TE):TO:=λσ H Q=>t σ H λx l=>∃i,x = c7 i/\Q (aB i) l
def Cz{ns:Ϝ}:∀{l},qB (ns.map c7) l->lL l ns:=by induction ns with
 |nil=>intro l r;rw[bQ]at r;cases r;show .nil
 |cons n ns s=>intro l r;cases r with
  |cons u x=>have(t,e):=u;subst e;show .cons n t<|s x
section
variable {lo:Option Expr}
def Qu:PO X n_ Qk:=by intro l s σ H Q I h;show lz (n_,H,I,.none,h)
def Pf(h:PE X e te):PO X (aB e)<|Zi te:=by intro n s σ H Q I hw;show thn (h n s σ H _ I hw) λu J l=>?_;have(x,z,B,E,G):=l;have(i,rfl,q):=G;have(t,rfl):=E;show(aB i,z,B,.int i t,q)
def SlR(X:Cx)(r:V->Option Int->Option Int->Hp->VK->Prop):Prop:=∀l s (σ:St) H x v n t lo hi u Q,Inv X l σ H s->qH x v->s.heap.IsSliceOf u n t ly->IsPart n lo->IsPart t hi->r x lo hi H Q ->
  ∃T id,typeLookup (iU T) "__getitem__" = pure (aB<|gp id)/\Qf s v T/\lg (kZ X.prog X.w) X.A (oh v<|dS u) (EP X l σ Q) X.xe s
def tSl(r:V->Option Int->Option Int->Hp->VK->Prop)(te:TE)(tl th:TO):TE:=λσ H Q=>te σ H λx n=>tl σ n λl s=>th σ s λu t=>r x l u t Q
def L8(hr:SlR X r)(L:PE X e te)(hl:PO X lo tl)(M:PO X hi th):PE X (p4 e (.Slice lo hi n_ p2) pos)<|tSl r te tl th:=by intro t s σ H Q I h;show Subscript_<|thn (L t s σ H _ I h) λv O n=>?_;have(x,P,R,S,U):=n;show wpAny_Slice<|thn (hl t O σ P _ R U) λB Y n=>?_;have(l,H2,I2,pl,q2):=n;show thn (M t Y σ H2 _ I2 q2) λE z G=>?_;have(u,J,I3,pu,q3):=G;show lz ?_;have I4:Inv X t σ J { z with heap:=pF (d7 z) { cls:=iU "slice", data:=j7 #[B,E,ly] } }:=I3.kept λb ob q=>ak _ q;have(T,id,hT,ht,hg):=hr t { z with heap:=pF (d7 z) { cls:=iU "slice", data:=j7 #[B,E,ly] } } σ J x v B E l u z.heap.objs.size Q I4 S (aAz ..) pl pu q3;show tail_any ht hT hg<|by with_unfolding_all rfl
def TN(xs:List V)(lo hi:Option Int):List V:=(xs.drop<|rT (de xs) 0 lo).take<|rT (de xs) (de xs) hi-rT (de xs) 0 lo
def Mx(xs)lo hi:de (TN xs lo hi)<=de xs:=by delta TN;rw[lTq,aR];lia
end
noncomputable def Kd(n:Nat)(i:Int):Option Nat:=if 0<=i then (if i<n then aB<|cC i else n_)else if -(n:Int)<=i then aB<|cC (i+n) else n_
def atI{α:Type}(xs:List α)(i:Int):Option α:=cq (Kd (de xs) i) λj=>xs[j]?
def Jd(h:Kd n i=aB j):oC i n=aB j/\j<n/\-(n:Int)<=i/\i<n:=by
 delta Kd at h;by_cases s:0<=i
 .rw[pZ s]at h;by_cases l:i<n;.rw[pZ l]at h;have e:=aB.inj h;show(by rw[oD s l,e],by lia,by lia,l)
  .rw[pW l]at h;cases h
 .rw[pW s]at h;by_cases l:-(n)<=i;.rw[pZ l]at h;have e:=aB.inj h;show(by rw[oA ∅ l,e],by lia,l,by lia)
  .rw[pW l]at h;cases h
def P4{xs:List α}{v}(h:atI xs i=aB v):∃j,oC i (de xs)=aB j/\xs[j]?=aB v/\j<de xs/\-(de xs:Int)<=i/\i<de xs:=by delta atI at h;cases e:Kd (de xs) i with
 |none=>rw[e]at h;cases h
 |some j=>rw[e]at h;have(l,n,s,t):=Jd e;show(j,l,h,n,s,t)
def uS{xs:List α}{j:Nat}{v}(h:xs[j]?=aB v):atI xs (j:Int)=aB v:=by
 have l:=(gSq.mp h).1;have e:Kd (de xs) (j)=aB j:=by delta Kd;rw[pZ<|by rfl',pZ<|by simp +arith[*]];simp
 delta atI;rw[e];show h
def XC(b:Expr):Prop:=∀o i,nY b f_ o i=operate [o,i] (oh o i)
def NW(X:Cx)(r:R2):Prop:=∀n l t s (σ:St) H x y v u Q,Inv X t σ H s->qH x v->qH y u->r x y H Q ->
  nY l f_ v u=operate [v,u] (oh v u)->lg (kZ X.prog X.w) X.A (subscriptTail n l v u) (EP X t σ Q) X.xe s
def MtR(X:Cx)(id:String)(r:V->List V->Hp->VK->Prop):Prop:=∀l s (σ:St) H x xs v n Q,Inv X l σ H s->qH x v->qB xs n->r x xs H Q ->
  lg (kZ X.prog X.w) X.A (call (gp id)<|v::n) (EP X l σ Q) X.xe s
section
def NW.or(h:NW X r)(h':NW X r'):NW X<|λx y H Q=>r x y H Q∨r' x y H Q:=by
 intro l n t s σ H x y v u Q I z B q E;obtain q|q:=q;.show h l n t s σ H x y v u Q I z B q E
 .show h' l n t s σ H x y v u Q I z B q E
def qC(hr:NW X r)(ha:PE X a ta)(hb:PE X b tb)(l:XC b):PE X (p4 a b pos)<|Ux r ta tb:=by intro n s σ H Q I h;show Subscript_<|aac ha hb I h λv u t x y z B E G q=>hr a b n t σ z x y v u Q B E G q<|l _ _
def QQ(K:Ζ):R2:=λx y H Q=>∃p xs i v,x = c6 p/\y = c7 i/\tJ K H p xs/\atI xs i=aB v/\Q v H
def X0(K:Ζ):R2:=λx y H Q=>∃p xs i v,x = c6 p/\y = c7 i/\Hh K H p xs/\atI xs i=aB v/\Q v H
def pP:NW X<|QQ X.K:=by
 intro n B L s σ H x y v u Q I R S h M;have(p,xs,i,z,rfl,rfl,U,Y,q):=h;cases R;have(t,rfl):=S;have(E,r,pl,hz):=tu I U;have(j,l,h2,h3,h4,h5):=P4 Y;have(w,O,G):=r.get h2;have hl:=n7 r;have hn:=Nf;have fin:EP X L σ Q w s:=(z,H,I,G,q);by_cases P:0<=i
 .have J:cC i=j:=by rw[oD P h5]at l;show aB.inj l
  show item_listR (j6 pl) P ∅ (by rw[J];simpa using O) fin M
 .have J:cC (i+(E.toArray.size:Int))=j:=by rw[oA ∅ h4]at l;rw[aE,←hl];show aB.inj l
  show nU (x:=w) pl.isList.typeIs slot_list_getitem.lookup
   (wpAny_getItem_list_neg (Q:=λr s'=>r=w/\EP X L σ Q r s') (j6 pl) ∅ (by rw[aE] <;> lia) ∅ (by rw[J];simpa using O) (rfl,fin)) M
def Ar:NW X<|X0 X.K:=by
 intro l n E s σ H x y v u Q I G J h L;have(p,Y,i,z,rfl,rfl,M,O,q):=h;cases G;have(t,rfl):=J;have(P,r,pl,hz):=I.tuple M;have(j,R,S,h3,h4,h5):=P4 O;have(w,U,B):=r.get S;have hl:=n7 r;have hn:=Nf;have fin:EP X E σ Q w s:=(z,H,I,B,q);show nU pl.typeIs slot_tuple_getitem.lookup
  (getItem_tuple pl ∅ ∅ (by rw[aE,←hl];show R) (by simpa using U) (rfl,fin)) L
def NI(l:Ξ)n j u:fk (lO · j u) { cls:=iU "list", data:=mY (c5 l) n }={ cls:=iU "list", data:=mY (c5 (fb l j u)) n }:=by simp[fk]
def Inv.lst{σ:St}(I:Inv X t σ H s)(h:H p=aB (eH xs)) :
  ∃l n,qB xs l/\eL (d7 s) p=aB { cls:=iU "list", data:=mY (c5 l) n }/\de xs<=sizeLine:=by have(z,l,n,r,e):=L0 I p _ h;show(l,n,r,e,z)
def Inv.lstUpd{σ:St}{l:Ξ}(I:Inv X E σ H s)(h:H p=aB (eH xs))
  (G:eL (d7 s) p=aB { cls:=iU "list", data:=mY (c5 l) n }) (hf:f { cls:=iU "list", data:=mY (c5 l) n }={ cls:=iU "list", data:=mY (c5 its') B }) (r:qB z its') (hz:de z<=sizeLine) t :
  Inv X E σ (rG H p<|eH z) { s with heap:=oN (d7 s) p f,toks:=t }:=by
 have e:eL (oN (d7 s) p f) p=aB { cls:=iU "list", data:=mY (c5 its') B }:=by rw[Heap.get?_update_self f G<|by rw[hf] <;> rfl,hf]
 show I.write (x:=p) (e:=p) (by rw[h];trivial) (jE rfl) (λb u hb q=>fq (jg _ _<|mr hb) q) (_,e) ?_;show(hz,its',B,r,e)
def Pg:V->V->V->Hp->(Hp->Prop)->Prop:=λo i v H Q=>∃p xs k j,o = c6 p/\i = c7 k/\H p=aB (eH xs)/\Kd (de xs) k=aB j/\Q (rG H p<|eH<|fb xs j v)
def Dm:acR X Pg:=by
 intro M s σ H o i v ov iv u Q I O P R h;have(p,S,k,j,rfl,rfl,B,U,q):=h;cases O;have(t,rfl):=P;have(l,n,r,z,Y):=I.lst B;have(x,h2,E,G):=Jd U;have hl:=n7 r;have hn:=Nf;have J:Inv X M σ (rG H p<|eH<|fb S j v) { s with heap:=oN (d7 s) p (fk (lO · j u)) }:=I.lstUpd B z (NI l n j u) (r.set R j) (by rw[lZq];show Y)<|sq s;by_cases L:0<=k
 .have hk:cC k=j:=by rw[oD L G]at x;show aB.inj x
  show W.ki_setAt z L ∅ (by rw[aE,←hl];show G)<|by rw[hk];show(_,J,q)
 .have hk:cC (k+(l.toArray.size:Int))=j:=by rw[oA ∅ E]at x;rw[aE,←hl];show aB.inj x
  show W.ki_setBack z ∅ (by rw[aE,←hl];show E) ∅<|by rw[hk];show(_,J,q)
def JG(lo hi)n:(mM lo hi n_ n).1=((rT n 0 lo:Nat):Int)/\(mM lo hi n_ n).2.1=((rT n n hi:Nat):Int)/\(mM lo hi n_ n).2.2=1:=by
 show(?_,?_,rfl);.cases lo with
  |none=>rfl
  |some i=>
   simp only[mM,rT,jS,show(1)>0 by decide,if_true];by_cases h:i<0;.simp only[h,if_true] <;> lia
   .simp only[h,if_false] <;> lia
 .cases hi with
  |none=>rfl
  |some i=>
   simp only[mM,rT,jS,show(1)>0 by decide,if_true];by_cases h:i<0;.simp only[h,if_true] <;> lia
   .simp only[h,if_false] <;> lia
def Hi(l:Ξ)lo hi:slicePick (c5 l) lo hi n_=c5 ((l.drop<|rT (de l) 0 lo).take<|rT (de l) (de l) hi-rT (de l) 0 lo):=by have(n,s,t):=JG lo hi l.toArray.size;delta slicePick;simp only[n,s,t];simp only[sliceRange_one,pick_run,aE] <;> rfl
def adL(K:Ζ):V->Option Int->Option Int->Hp->VK->Prop:=λx lo hi H Q=>∃a xs,x = c6 a/\tJ K H a xs/\∀p,H p=n_->Q (c6 p) (rG H p<|eH<|TN xs lo hi)
def PH:SlR X<|adL X.K:=by
 intro J s σ H x v L M lo hi O Q I t u pl z h;have(a,l,rfl,B,q):=h;cases t;have(E,r,ht,G):=tu I B;have n:=n7 r;show("list", _,slot_list_getitem.lookup,ht.isList.typeIs,?_);show wpAny_getItem_list_slice (j6 ht) u pl z .none ⋯ ?_<|by rw[aE] <;> lia
 rw[Hi,←n];show(c6 s.heap.objs.size,_,I.laid (λb P q=>ak _ q) (ag _) ?_,rfl,q _<|p5 (L0 I)<|ag _);show(bI (Mx l lo hi) G,_,0,(r.drop<|rT (de l) 0 lo).take<|rT (de l) (de l) hi-rT (de l) 0 lo,bw _ rfl)
noncomputable def yI:V->Bool
 | nc=>t_
 | pY _=>t_
 | c7 _=>t_
 | wy _=>t_
 |_=>f_
noncomputable def QN:V->V->Bool
 | nc,nc=>t_
 | pY a,pY b=>a == b
 | pY a,c7 b=>(if a then 1 else 0) == b
 | c7 a,pY b=>a == (if b then 1 else 0)
 | c7 a,c7 b=>a == b
 | wy a,wy b=>a == b
 |_,_=>f_
def abi(z:qH y u)(l:qH x v)(E:yI y=t_)(B:yI x=t_):t7 A s u v<|QN y x:=by cases y with
 |non=>cases z;cases x with
  |non=>cases l;show SeqAt.EqAt.same _
  |bl b=>cases l;show SeqAt.EqAt.none_bool b
  |int b=>have(t,rfl):=l;show SeqAt.EqAt.none_int b t
  |str b=>have(t,rfl):=l;show SeqAt.EqAt.none_str b t
  |_=>show absurd (show f_=t_ from B) aT
 |bl a=>cases z;cases x with
  |non=>cases l;show SeqAt.EqAt.bool_none a
  |bl b=>cases l;show SeqAt.EqAt.bool_bool a b
  |int b=>have(t,rfl):=l;show SeqAt.EqAt.bool_int a b t
  |str b=>have(t,rfl):=l;show SeqAt.EqAt.bool_str a b t
  |_=>show absurd (show f_=t_ from B) aT
 |int a=>have(n,rfl):=z;cases x with
  |non=>cases l;show SeqAt.EqAt.int_none a n
  |bl b=>cases l;show SeqAt.EqAt.int_bool a n b
  |int b=>have(t,rfl):=l;show Sr a n b t
  |str b=>have(t,rfl):=l;show Rp a n b t
  |_=>show absurd (show f_=t_ from B) aT
 |str a=>have(n,rfl):=z;cases x with
  |non=>cases l;show SeqAt.EqAt.str_none a n
  |bl b=>cases l;show SeqAt.EqAt.str_bool a n b
  |int b=>have(t,rfl):=l;show Sa a n b t
  |str b=>have(t,rfl):=l;show SeqAt.EqAt.str_str a n b t
  |_=>show absurd (B) aT
 |_=>show absurd (E) aT
def JK(x:V)(u:Value):Bool:=match u with
 | ly=>QN nc x
 | kQ b=>QN (pY b) x
 | jK i _=>QN (c7 i) x
 | XP z _=>QN (wy z) x
 |_=>f_
def Jt(r:qH y u)(f:yI y=t_):JK x u=QN y x:=by cases y with
 |non=>cases r;rfl
 |bl b=>cases r;rfl
 |int i=>have(t,rfl):=r;rfl
 |str z=>have(t,rfl):=r;rfl
 |_=>show absurd (f) aT
theorem Dn:∀{xs}{l},qB xs l->xs.all yI=t_->l.any (JK x)=xs.any λy=>QN y x
 |_,_,lX,_=>rfl
 |y::xs,u::l,iL r t,f=>by rw[gQ,fu]at f;simp only[eU,eU,Jt r f.1,Dn t f.2]
theorem ym(z:qH x v)(B:yI x=t_):∀{xs}{n},qB xs n->xs.all yI=t_->∀u∈n,t7 A s u v (JK x u)
 |_,_,lX,_=>λu l=>by cases l
 |y::xs,u::n,iL r t,f=>λE l=>by
  simp only[gQ,fu]at f;obtain rfl|l:=ae.mp l;.rw[Jt r f.1];show abi r z f.1 B
  .show ym z B t f.2 E l
def ZQ(x:V)(xs:List V):Bool:=xs.any λy=>QN y x
def rIn(K:Ζ)(neg:Bool):R2:=λx y H Q=>∃p xs,y = c6 p/\(tJ K H p xs∨Hh K H p xs)/\yI x=t_/\xs.all yI=t_/\Q (pY<|if neg then !ZQ x xs else ZQ x xs) H
def BE:EV X (lK .In)<|rIn X.K f_:=by
 intro G s σ H x y v u Q I t B h;have(p,J,rfl,n,z,fs,q):=h;cases B;obtain n|n:=n;.have(l,r,pl,E):=tu I n;show SeqAt.in_listAt (JK x) (j6 pl) (λw hw=>ym t z r fs w<|by simpa using hw) (pY _,H,I,rfl,?_);rw[show l.toArray.any (JK x)=l.any (JK x) by simp,Dn r fs];show q
 .have(l,r,pl,E):=I.tuple n;show SeqAt.in_tupleAt (JK x) pl (λw hw=>ym t z r fs w<|by simpa using hw) (pY _,H,I,rfl,?_);rw[show l.toArray.any (JK x)=l.any (JK x) by simp,Dn r fs];show q
def AI:EV X (lK LM)<|rIn X.K t_:=by
 intro G s σ H x y v u Q I t B h;have(p,J,rfl,n,z,fs,q):=h;cases B;obtain n|n:=n;.have(l,r,pl,E):=tu I n;show SeqAt.notIn_listAt (JK x) (j6 pl) (λw hw=>ym t z r fs w<|by simpa using hw) (pY _,H,I,rfl,?_);rw[show l.toArray.any (JK x)=l.any (JK x) by simp,Dn r fs];show q
 .have(l,r,pl,E):=I.tuple n;show SeqAt.notIn_tupleAt (JK x) pl (λw hw=>ym t z r fs w<|by simpa using hw) (pY _,H,I,rfl,?_);rw[show l.toArray.any (JK x)=l.any (JK x) by simp,Dn r fs];show q
def xC:zA X (iU "list")<|λxs H Q=>∃p z,xs=[c6 p]/\(tJ X.K H p z∨Hh X.K H p z)/\∀l,H l=n_->Q (c6 l) (rG H l<|eH z):=by
 intro R s σ H xs U Q I r h;have(p,z,rfl,G,q):=h;have(u,rfl,S):=xq r;cases S;have fin:∀t,qB z t->de z<=sizeLine->∀x B,(∀b P,eL (d7 s) b=aB P->eL x b=aB P) ->
   eL x s.heap.objs.size=aB { cls:=iU "list", dict:=n_,data:=mY (c5 t) B,slots:=#[] }->EP X R σ Q (dS s.heap.objs.size) { s with heap:=x }:=λt E J x B kp e=>(c6 s.heap.objs.size,_,I.laid kp (ag _)<|show uf X.prog X.w _ x _ (eH z)from (J,t,B,E,e),rfl,q _<|p5 (L0 I)<|ag _);obtain G|G:=G;.have(t,E,pl,J):=tu I G;have L:=n7 E;have(o,M,O,n,hd):=j6 pl;show call_list_seq p (jE rfl) M O hd (λx B kp e=>fin t E J x B kp e)<|by simp only[aE] <;> lia
 .have(t,E,pl,J):=I.tuple G;have L:=n7 E;have(o,M,O,n,hd):=pl;show call_list_seq p (iq rfl) M O hd (λx B kp e=>fin t E J x B kp e)<|by simp only[aE] <;> lia
def tyV(K:Ζ)(T:String)(x:V)(H:Hp):Prop:=match x with
 | wy _=>T = "str"
 | c7 _=>T = "int"
 | c6 p=>(T = "list" /\ ∃xs,tJ K H p xs)∨(T = "tuple" /\ ∃o,K.lookup p=aB o/\o.cls = iU "tuple" /\ o.dict=n_) ∨
   (T = "dict" /\ ((∃kvs,H p=aB (wm kvs))∨∃kvs,H p=aB (.dT kvs)))∨(T = "set" /\ ∃S n,H p=aB (.set S n))
 |_=>False
def Ue{σ:St}(I:Inv X E σ H s)(r:qH x v)(ty:tyV X.K T x H) :
  Qf s v T/\∀a,v = dS a->∃B,eL (d7 s) a=aB B/\B.dict=n_:=by cases x with
 |str z=>have(t,rfl):=r;cases(ty);show(typeIs_str s z t,λQ e=>nomatch e)
 |int i=>have(t,rfl):=r;cases(ty);show(typeIs_int s i t,λQ e=>nomatch e)
 |ref p=>
  cases r;obtain⟨rfl,M,G⟩|⟨rfl,o,hk,J,hd⟩|⟨rfl,hk⟩|⟨rfl,S,n,hk⟩:=ty;.have(L,_,pl,_):=tu I G;show(pl.isList.typeIs,λa e=>?_);cases e;have(o,n,e,c,hd,_):=pl;show(o,e,hd)
  .show((o,I.kIn p o hk,J),λa e=>?_);cases e;show(o,I.kIn _ o hk,hd)
  .have z:∃o,eL (d7 s) p=aB o/\o.ExactDict:=by
    obtain⟨l,hk⟩|⟨l,hk⟩:=hk;.have(_,_,_,_,o,_,_,e,ex,_):=L0 I p _ hk;show(o,e,ex)
    .have(_,_,_,_,o,_,_,e,ex,_):=L0 I p _ hk;show(o,e,ex)
   have(o,e,ex):=z;show((o,e,ex.1),λa u=>?_);cases u;show(o,e,ex.2.1)
  .have(o,_,_,_,e,ex,_):=L0 I p _ hk;show((o,e,ex.1),λa u=>?_);cases u;show(o,e,ex.2.1)
 |_=>show j5 ty
def aa4(K:Ζ)(T:String)(r:V->List V->Hp->VK->Prop)(to:TE):TE:=λσ H Q=>to σ H λx l=>tyV K T x l/\r x [] l Q
def Sl(K:Ζ)(T:String)(r:V->List V->Hp->VK->Prop)(to:TE)(t:TA):TE:=λσ H Q=>to σ H λx l=>tyV K T x l/\t σ l λxs n=>r x xs n Q
variable {id:String}
def Jp(J:PlainAttrs T)(slot:Slot T name id)(u:typeOf (gp id)=pure (iU "method_descriptor"))(L:MtR X id r)(M:PE X o to)
  (l:↑(oz o name X.env (eval o<|k7 X)=eval o X.env)) (n:↑((apos.endLine == cpos.line)=t_)):PE X (ri (.Attribute o name apos) [] [] cpos)<|aa4 X.K T r to:=by intro B s σ H Q I h;show wpAny_Call_method0_late l n<|thn (M B s σ H _ I h) λv O z=>?_;have(x,P,E,G,ty,R):=z;have(S,U):=Ue E G ty;show(T,id,J,slot,u,S,U,Uz rfl<|PySem.evalArgs_none<|L B O σ P x [] v [] Q E G lX R)
def wV(O:PlainAttrs T)(slot:Slot T name id)(E:typeOf (gp id)=pure (iU "method_descriptor"))(P:MtR X id r)(R:PE X o to)(ha:PA X (e::es) t)
  (n:↑(oz o name X.env (eval o<|k7 X)=eval o X.env))
  (B:↑(((mH cpos<|lC (e::es)<|k7 X).all (λx=>!x.1) && (backToKw cpos<|keywordEach []<|k7 X).all (λx=>fC x.1)
   && decide (de (e::es)+de ([]:List Keyword)+(if ([]:List Keyword).isEmpty then 0 else 1)<30))=t_))
  (u:↑((apos.endLine == cpos.line)=t_)) (S:↑(lC (e::es) X.env=%[f_|eval e<|k7 X]::lC es X.env)) (l:↑((mH cpos<|lC es<|k7 X).any (·.1)=f_)) :
  PE X (ri (.Attribute o name apos) (e::es) [] cpos)<|Sl X.K T r to t:=by intro G s σ H Q I h;show wpAny_Call_method_late n B u rfl<|thn (R G s σ H _ I h) λv U z=>?_;have(x,Y,J,L,ty,q1):=z;have(h1,h2):=Ue J L ty;show(T,id,O,slot,E,h1,h2,?_);have M:=ha cpos G U σ Y _ J q1;rw[S]at M ⊢;show Uz (by change(f_ || (mH cpos<|lC es<|k7 X).any (·.1))=f_;rw[l] <;> rfl)<|Calls.evalArgs_plain ?_;show thn M λus s2 z=>?_;have(vs,H2,I2,r2,q2):=z;show P G s2 σ H2 x vs v us Q I2 L r2 q2
/- xs.append(e),list.index on a module's tuple .. are MtR facts of 06m -/
end
def MtM(X:Cx)(id:String)(r:V->List V->Hp->VK->Prop):Prop:=∀l s (σ:St) H x xs v n Q,Inv X l σ H s->qH x v->qB xs n->r x xs H Q ->
  lg (kZ X.prog X.w) X.A (call (gp id)<|v::n) (EP X l σ Q) X.xe s
def qB.one:∀{x}{l},qB [x] l->∃u,l=[u]/\qH x u
 |_,_,iL r lX=>(_,rfl,r)
def qB.zero:∀{l},qB [] l->l=[]
 |_,lX=>rfl
def qB.dropLast(h:qB xs l):qB (l8 xs)<|l8 l:=by induction h with
 |nil=>show lX
 |cons r t n=>cases t with
  |nil=>show lX
  |cons q s=>show iL r n
theorem qB.eraseIdx:∀{xs}{l}i,qB xs l->qB (ef xs i) (ef l i)
 |_,_,_,lX=>lX
 |_,_,0,iL _ t=>t
 |_,_,i+1,iL r t=>iL r<|qB.eraseIdx i t
def CI{α:Type}(l:List α):ef l (de l-1)=l8 l:=by induction l with
 |nil=>rfl
 |cons a r n=>cases r with
  |nil=>rfl
  |cons b r=>
   have e:de (a::b::r)-1=(de (b::r)-1)+1:=by have s:de (a::b::r)=de r+2:=rfl;have t:de (b::r)=de r+1:=rfl;rfl'
   rw[e,cJ,n];all_goals rfl
theorem Il{α:Type}:∀(l:List α) i,de (ef l i)<=de l
 | [],_=>ag _
 |_::_,0=>cO _
 |_::r,i+1=>gR<|Il r i
section
variable {σ:St}
def Inv.lset{t:Ξ}{f:Ω->Ω}(I:Inv X oO σ H s)(x:H l=aB (eH xs))
  (e:eL (d7 s) l=aB { cls:=iU "list", data:=mY (c5 t) n }) (hf:f (c5 t)=c5 its') (z:qB ys its') (hz:de ys<=sizeLine) :
  Inv X oO σ (rG H l<|eH ys) { s with heap:=oN (d7 s) l (fk f),toks:=t' }:=by have q:=PySem.IsL.update e f;rw[hf]at q;show I.write (by rw[x];show trivial) (jE rfl) (λE u hb B=>fq (jg s.heap (fk f)<|mr hb) B) (_,q) ?_;show(hz,its',_,z,q)
def Inv.lnew(I:Inv X oO σ H s)(t:qB ys n)(hz:de ys<=sizeLine) :
  Inv X oO σ (rG H s.heap.objs.size<|eH ys) { s with heap:=pF (d7 s) { cls:=iU "list", data:=mY<|c5 n },toks:=t' }:=I.laid (λQ Q q=>ak _ q) (ag _) (hz,n,0,t,bw _ rfl)
def Inv.fresh(I:Inv X oO σ H s):H s.heap.objs.size=n_:=p5 (L0 I)<|ag _
def Inv.lstM(I:Inv X oO σ H s)(u:H l=aB (eH xs)):de xs<=sizeLine/\∃t n,qB xs t/\de xs=de t/\eL (d7 s) l=aB { cls:=iU "list", data:=mY (c5 t) n }:=by have(z,t,n,r,e):=L0 I l _ u;show(z,t,n,r,n7 r,e)
end
def yz:V->List V->Hp->VK->Prop:=λx vs H Q=>∃l xs y,x = c6 l/\vs=[y]/\H l=aB (eH xs)/\de xs<sizeLine/\Q nc (rG H l<|eH<|xs++[y])
def rM:MtM X "list.append" yz:=by intro L s σ H x M v O Q I E G h;have(l,P,y,rfl,rfl,B,R,q):=h;cases E;have(u,rfl,J):=G.one;have(z,t,n,r,hl,e):=I.lstM B;show mU bh (_,e,rfl) F.entry_list_append (F.args_list_append_2 _ _) (PySem.list_append l (c5 t) n u<|by rw[aE];lia) (e,?_);show(nc,_,I.lset B e ⋯ (r.append<|iL J lX) ?_,rfl,q);rw[lAq,lSq];rfl'
def X3:V->List V->Hp->VK->Prop:=λx vs H Q=>∃l xs y,x = c6 l/\vs=[]/\H l=aB (eH xs)/\xs[de xs-1]?=aB y/\Q y (rG H l<|eH<|l8 xs)
def Ji:MtM X "list.pop" X3:=by
 intro R s σ H x S v U Q I J L h;have(l,Y,y,rfl,rfl,G,M,q):=h;cases J;have B:=L.zero;subst B;have(z,t,n,r,hl,e):=I.lstM G;have(u,O,P):=r.get M;have E:=by change (c5 t)[de t-1]?=aB u;rw[←aG,←hl];show O
 show mU dO (_,e,rfl) aAv (F.args_list_pop_1 _) (MeetsSeq.list_pop_last l (c5 t) n u E<|by rw[aE];lia) (e,?_);show(y,_,I.lset G e ?_ r.dropLast ?_,P,q);.rw[aE,gT,CI]
 .rw[List.length_dropLast];lia
def TY:V->List V->Hp->VK->Prop:=λx vs H Q=>∃l xs i k y,x = c6 l/\vs=[c7 i]/\H l=aB (eH xs)/\-(2 ^ 63)<=i/\i<2 ^ 63/\oC i (de xs)=aB k/\xs[k]?=aB y/\Q y (rG H l<|eH<|ef xs k)
def Gj:MtM X "list.pop" TY:=by
 intro U s σ H x Y v us Q I J L h;have(l,M,i,k,y,rfl,rfl,G,O,P,hk,R,q):=h;cases J;have(u,rfl,S):=L.one;have(t,rfl):=S;have(z,B,n,r,hl,e):=I.lstM G;have(w,hw,E):=r.get R;show mU dO (_,e,rfl) aAv (F.args_list_pop_2 _ _)
  (MeetsSeq.list_pop_at l (c5 B) n i t k w (fitsIndex_both O P) (by rw[aE,←hl];show hk) (by rw[←aG];show hw)<|by rw[aE];lia) (e,?_);show(y,_,I.lset G e ?_ (r.eraseIdx k) ?_,E,q);.rw[gT]
 .have:=Il M k;lia
def ad9:R2:=λx y H Q=>∃l b xs n,x = c6 l/\y = c6 b/\H l=aB (eH xs)/\H b=aB (eH n)/\de xs+de n<=sizeLine/\∀p,H p=n_->Q (c6 p) (rG H p<|eH<|xs++n)
def Kb:EV X (mT .Add) ad9:=by
 intro S s σ H x y v u Q I E G h;have(l,b,U,Y,rfl,rfl,J,L,hz,q):=h;cases E;cases G;have(z,B,n,r,hl,e):=I.lstM J;have(z2,t,n2,M,O,P):=I.lstM L;show PySem.P.add_list e P ?_<|by rw[aE,aE];lia
 have R:c5 B++c5 t=c5 (B++t):=by simp
 rw[R];show(c6 _,_,I.lnew (r.append M)<|by rw[lAq];rfl',rfl,q _ I.fresh)
section
variable {κ:Type}[DecidableEq κ]
noncomputable def Dy(kvs:List<|κ×V)(k:κ):Option V:=(kvs.find? λkv=>decide<|kv.1=k).map (·.2)
noncomputable def AQ(kvs:List<|κ×V)(k:κ)(v:V):List<|κ×V:=if (kvs.any λkv=>decide<|kv.1=k)=t_ then kvs.map (λkv=>if kv.1=k then %[kv.1|v]else kv)else kvs++[%[k|v]]
def Gq{p:κ×V}(e:p.1=k):Dy (p::r) k=aB p.2:=by simp[Dy,dU,e]
def FG{p:κ×V}(e:¬ p.1=k):Dy (p::r) k=Dy r k:=by simp[Dy,dU,e]
theorem K6 k:∀kvs:List<|κ×V,(kvs.any λkv=>decide<|kv.1=k)=fC (Dy kvs k)
 | []=>rfl
 |p::r=>by
  rw[eU];by_cases e:p.1=k;.simp only[Gq e,d5 e,Bool.true_or,Option.isSome_some]
  .rw[FG e,d6 e];show K6 k r
def Bg(kvs:List<|κ×V)k v:de (AQ kvs k v)<=de kvs+1:=by
 delta AQ;split;.rw[lMq];rfl'
 .simp only[lAq,lCq,cw];rfl'
def Ht.isSome_eq(r:Ht o u):fC o=fC u:=by cases o with
 |none=>cases u with
  |none=>rfl
  |some _=>show(r).elim
 |some _=>cases u with
  |none=>show(r).elim
  |some _=>rfl
def KV.val{kvs:List<|κ×V}(r:KV kvs vs)k:Ht (Dy kvs k)<|og vs k:=by induction r with
 |nil=>show r8
 | @cons p q B l h t u=>
  have(s,x):=h;by_cases e:p.1=k
  .have n:=fq (fx s) e;have b:og (q::l) k=aB q.2:=by simp[og,dU,n]
   rw[Gq e,b];show x
  .have n:¬ q.1=k:=λz=>e<|fq s z;have b:og (q::l) k=og l k:=by simp[og,dU,n]
   rw[FG e,b];show u
def KV.any{kvs:List<|κ×V}(r:KV kvs vs)k:(kvs.any λkv=>decide<|kv.1=k)=vs.any λkv=>decide<|kv.1=k:=by induction r with
 |nil=>rfl
 |cons h t l=>simp only[eU,eU,l,h.1]
def KV.repl{kvs:List<|κ×V}(r:KV kvs vs)k(n:qH y u) :
  KV (kvs.map λkv=>if kv.1=k then %[kv.1|y]else kv)<|vs.map λkv=>if kv.1=k then %[kv.1|u]else kv:=by induction r with
 |nil=>show lX
 | @cons p q B E h t s=>
  simp only[aq,aq];show iL ?_ s;have(l,x):=h;by_cases e:p.1=k;.rw[pZ e,pZ<|fq (fx l) e];show(l,n)
  .rw[pW e,pW<|λz=>e<|fq l z];show(l,x)
def KV.put{kvs:List<|κ×V}(r:KV kvs vs)k(l:qH y u):KV (AQ kvs k y)<|stored vs k u:=by
 delta AQ stored;rw[r.any k];by_cases e:(vs.any λkv=>decide<|kv.1=k)=t_;.rw[pZ e,pZ e];show r.repl k l
 .rw[pW e,pW e];show aAw r (rfl,l)
def KV.length{kvs:List<|κ×V}(r:KV kvs vs):de kvs=de vs:=q0 r
end
def Ic(r:qH (kV k) u):(rY P w).is k u=t_:=by cases k with
 |inl i=>have(t,e):=(r);subst e;show Lx P w i t
 |inr x=>have(t,e):=(r);subst e;show KB P w x t
theorem IE:∀{ks}{l},qB (ks.map kV) l->ItemsAre (rY P w) ks l
 | [],_,r=>by cases r;show .nil
 |k::ks,_,r=>by cases r with
  |cons h t=>show .cons (Ic h)<|IE t
abbrev KT(H:Hp):List (List qk×V)->List (List qk×Addr×Value)->Prop:=Paired λp q=>p.1=q.1/\H q.2.1=aB (vu<|p.1.map kV)/\qH p.2 q.2.2
def KT.val(r:KT H kvs xs)k:Ht (Dy kvs k) ((atKey xs k).map (·.2)):=by induction r with
 |nil=>show r8
 | @cons p q B l h t u=>
  have(s,_,x):=h;by_cases e:p.1=k
  .have n:=fq (fx s) e;have b:atKey (q::l) k=aB q.2:=by simp[atKey,dU,n]
   rw[Gq e,b];show x
  .have n:¬ q.1=k:=λz=>e<|fq s z;have b:atKey (q::l) k=atKey l k:=by simp[atKey,dU,n]
   rw[FG e,b];show u
def KT.repl(r:KT H kvs xs)k(s:qH y u) :
  KT H (kvs.map λkv=>if kv.1=k then %[kv.1|y]else kv)<|xs.map<|putAt k u:=by induction r with
 |nil=>show lX
 | @cons p q E G h t x=>
  rw[aq];show iL ?_ x;have(l,n,B):=h;delta putAt;by_cases e:p.1=k;.rw[pZ e,pZ<|fq (fx l) e];show(l,n,s)
  .rw[pW e,pW<|λz=>e<|fq l z];show(l,n,B)
def KT.put(r:KT H kvs xs)k(hb:H b=aB (vu<|k.map kV))(l:qH y u) :
  KT H (AQ kvs k y)<|storedH xs k b u:=by
 have e:(kvs.any λkv=>decide<|kv.1=k)=fC (atKey xs k):=by rw[K6,(r.val k).isSome_eq,dW]
 delta AQ storedH;rw[e];by_cases q:fC (atKey xs k)=t_;.rw[pZ q,pZ q];show r.repl k l
 .rw[pW q,pW q];show aAw r (rfl,hb,l)
def KT.keeps(r:KT H kvs xs)(ht:∀b n,H b=aB (vu n)->l b=aB (vu n)):KT l kvs xs:=Paired.mapP r λQ Q z=>(z.1,ht _ _ z.2.1,z.2.2)
def Zp(ok:CQ P w H h)(e:Rd H a u):uf P w H h a u:=e.ok ok
def GP(ok:CQ P w H h)(e:Rd H a<|wm kvs):de kvs<=sizeLine/\(a == mw)=f_/\∃vs,KV kvs vs/\h.DictOf (rY P w) a vs:=Zp ok e
def Zy(ok:CQ P w H h)(e:H a=aB (wm kvs)):de kvs<=sizeLine/\(a == mw)=f_/\∃vs,KV kvs vs/\h.DictOf (rY P w) a vs:=GP ok<|jE e
def G3(ok:CQ P w H h)(e:H a=aB (vu<|ks.map kV)):(nQ<|rY P w).is h ks a:=by have(_,l,r,o,s,t,n,u):=(ok a _ e);show(o,c5 l,n,s,t,u,by show IE r)
def HK(ok:CQ P w H h)(e:Rd H a<|.dT kvs):de kvs<=sizeLine/\(a == mw)=f_ /\
  ∃xs,KT H kvs xs/\h.DictOfH (nQ<|rY P w) a xs:=by
 have(z,y,xs,r,o,u,B,E,G,I,J,L):=(Zp ok e);show(z,y,xs,r,o,u,B,E,G,I,J,λx n=>?_,L);have all:∀{l:List<|List qk×V}{m:List<|List qk×Addr×Value},KT H l m->∀x∈m,(nQ<|rY P w).is h x.1 x.2.1:=by intro l m q;induction q with
  |nil=>intro x n;show nomatch n
  | @cons p q O Q s t M=>
   intro x n;obtain e|n:=ae.mp n;.subst e;show G3 ok<|by rw[←s.1];show s.2.1
   .show M x n
 show all r x n
def adP(ok:CQ P w H h)(e:H a=aB (.dT kvs)):de kvs<=sizeLine/\(a == mw)=f_ /\
  ∃xs,KT H kvs xs/\h.DictOfH (nQ<|rY P w) a xs:=HK ok<|jE e
def DO(H:Hp)(a:Addr)(y:V)(r:Option V):Prop:=(∃kvs k,Rd H a (wm kvs)/\y=kV k/\r=Dy kvs k)∨∃kvs k b,Rd H a (.dT kvs)/\y = c6 b/\H b=aB (vu<|k.map kV)/\r=Dy kvs k
def Tn(H:Hp)(a:Addr)(y v:V)(l:Hp):Prop:=(∃kvs k,H a=aB (wm kvs)/\y=kV k/\de kvs<sizeLine/\l=rG H a (wm<|AQ kvs k v)) ∨
 ∃kvs k b,H a=aB (.dT kvs)/\y = c6 b/\H b=aB (vu<|k.map kV)/\de kvs<sizeLine/\l=rG H a (.dT<|AQ kvs k v)
def DO.k{k}(e:H a=aB (wm kvs)):DO H a (kV k)<|Dy kvs k:=jE (kvs,k,jE e,rfl,rfl)
def Tn.k{k}(e:H a=aB (wm kvs))(hl:de kvs<sizeLine):Tn H a (kV k) v<|rG H a<|wm<|AQ kvs k v:=jE (kvs,k,e,rfl,hl,rfl)
section
variable {σ:St}
def Inv.big(I:Inv X oO σ H s):mw<s.heap.objs.size:=by have h:=(I.mod.glob.keeps I.bk).lt;show kz ⋯ h
def Rf(O:ph A+1<lZ)(I:Inv X oO σ H s)(g:DO H a y<|aB v)(L:qH y u)(h:∀x M,Inv X oO σ H M->qH v x->Q x M) :
  lg (kZ X.prog X.w) A (oh (dS a) u) Q E s:=by
 obtain⟨B,k,e,G,l⟩|⟨B,k,b,e,G,P,l⟩:=g
 .subst G;have(z,hd,S,n,dd):=GP I.hok e;have(x,hw,t):=Ht.some_of<|by rw[l];show n.val k
  show wpAny_getItem_of (Ic L) dd.mapOf hw<|h x _ (I.tok _) t
 .subst G;cases(L);have(z,hd,U,n,dd):=HK I.hok e;have(x,hw,t):=Ht.some_of<|by rw[l];show n.val k
  have(p,R,J):=oMq.mp hw;show wpAny_getItem_heap (mS O) (G3 I.hok P) dd R ?_;rw[J];show h x _ (I.tok _) t
def aeS(J:ph A+1<lZ)(I:Inv X oO σ H s)(g:DO H a y o)(B:qH y u)(h:∀G,Inv X oO σ H G->Q (kQ<|fC o) G) :
  lg (kZ X.prog X.w) A (lK .In u<|dS a) Q E s:=by
 obtain⟨t,k,e,x,l⟩|⟨t,k,b,e,x,L,l⟩:=g;.subst x;have(z,hd,M,n,dd):=GP I.hok e;show wpAny_in_of (Ic B) hd dd.mapOf ?_;rw[← (n.val k).isSome_eq,←l];show h _<|I.tok _
 .subst x;cases(show u=dS b from B);have(z,hd,O,n,dd):=HK I.hok e;show wpAny_in_heap (mS J) (G3 I.hok L) hd dd ?_;have q:=(n.val k).isSome_eq;rw[dW]at q;rw[←q,←l];show h _<|I.tok _
def X7(J:ph A+1<lZ)(I:Inv X oO σ H s)(g:DO H a y o)(B:qH y u)(h:∀G,Inv X oO σ H G->Q (kQ<|!fC o) G) :
  lg (kZ X.prog X.w) A (lK LM u<|dS a) Q E s:=by
 obtain⟨t,k,e,x,l⟩|⟨t,k,b,e,x,L,l⟩:=g;.subst x;have(z,hd,M,n,dd):=GP I.hok e;show wpAny_notIn_of (Ic B) hd dd.mapOf ?_;rw[← (n.val k).isSome_eq,←l];show h _<|I.tok _
 .subst x;cases(B);have(z,hd,O,n,dd):=HK I.hok e;show wpAny_notIn_heap (mS J) (G3 I.hok L) hd dd ?_;have q:=(n.val k).isSome_eq;rw[dW]at q;rw[←q,←l];show h _<|I.tok _
def IX(I:Inv X oO σ H s)(mu:Mut<|H a)(n:fL a s.heap h')(t:∃q,eL h' a=aB q)(new:uf X.prog X.w (rG H a l) h' a l) :
  Inv X oO σ (rG H a l) { s with heap:=h',toks:=t' }:=I.write mu (jE rfl) (λb q hb z=>fq (n.2 b hb) z) t new
def Th(z:de kvs<=sizeLine)(hd:(a == mw)=f_)(l:KV kvs vs)(dd:h'.DictOf (rY P w) a vs) :
  uf P w n h' a<|wm kvs:=(z,hd,vs,l,dd)
def QI(hu:ph A+1<lZ)(I:Inv X oO σ H s)(g:Tn H a y v M)(O:qH y u)(P:qH v r)(h:∀R,Inv X oO σ M R->Q () R) :
  lg (kZ X.prog X.w) A (setItem (dS a) u r) Q E s:=by
 obtain⟨n,k,e,G,l,J⟩|⟨n,k,b,e,G,S,l,J⟩:=g
 .subst G J;have(z,hd,vs,t,dd):=Zy I.hok e;have U:de vs<=sizeLine:=by rw[←t.length];show z
  have hl:de (AQ n k v)<=sizeLine:=by have:=Bg n k v;lia
  show wpAny_setItem_pairs (hsz:=U) (Ic O) dd λY x L=>h _ ?_;have he:∃q,eL Y a=aB q:=let ⟨q,_,_,B,_⟩:=x;(q,B);show IX I (by rw[e];show r8) L he<|Th hl hd (t.put k P) x
 .subst G J;cases(show u=dS b from O);have(z,hd,xs,t,dd):=adP I.hok e;have U:de xs<=sizeLine:=by rw[←q0 t];show z
  have hl:de (AQ n k v)<=sizeLine:=by have:=Bg n k v;lia
  show wpAny_setItem_heap (mS hu) (G3 I.hok S) dd λY x L=>h _ ?_;have(q,es,ep,B,h2,h3,h4,_,h5):=x;show IX I (by rw[e];show r8) L (q,B) (hl,hd,_,(t.put k S P).keeps λc ys ec=>?_,q,es,ep,B,h2,h3,h4,h5);rw[pK<|ad7 ec e<|λz=>nomatch z];show ec
end
section
variable {σ:St}
def acP(I:Inv X oO σ H s)(e:Rd H a<|wm kvs)(h:∀t n,Inv X oO σ H n->Q (jK (de kvs) t) n):lg (kZ X.prog X.w) A (call (gp "len") [dS a]) Q E s:=by have(z,hd,x,l,dd):=GP I.hok e;show call_len_dict hd dd (by rw[←l.length];rw[mB]at z;lia) ?_;rw[←l.length];show h _ _<|I.tok _
end
def acD(i:Expr):Prop:=∀l n,nY i f_ l n=operate [l,n] (oh l n)
def Xk{id}
  (hl:typeLookup (iU T) "__getitem__" = pure (aB<|gp id)) (I:acD l)
  (h:lg (kZ prog w) A (eval n env) (λo z=>lg (kZ prog w) A (eval l env) (λi t=>Qf t o T/\lg (kZ prog w) A (oh o i) Q E t) E z) E s) :
  lg (kZ prog w) A (eval (p4 n l pos) env) Q E s:=by
 show Subscript_<|lF h (λo z G=>lF G (λi t u=>?_) λZ Z x=>x) λZ Z x=>x;have(J,u):=u;show kU ?_;show kU<|wpAny_specialOf J hl ?_;have fin:lg (kZ prog w) A (nY l f_ o i) (λr B=>lg (kZ prog w) A (letTemporaryGo n o r >>= λZ=>pure r) Q E B) E t:=by rw[I o i];show wpAny_operating<|lF u (λr B H=>kU<|wpAny_letTemporaryGo<|lz H) λZ Z x=>x
 first
  |show lz<|kU fin
  |show kU<|lz<|kU fin
  |show kU fin
def KU{σ:St}(I:Inv X n σ H s)(g:DO H a y o):Qf s (dS a) "dict" := by
 obtain⟨l,k,e,_,_⟩|⟨l,k,b,e,_,_,_⟩:=g;.have(_,_,t,_,dd):=GP I.hok e;show dd.typeIs
 .have(_,_,u,_,dd):=HK I.hok e;show dd.typeIs
def Zw(n ty:TE):TE:=λσ H Q=>n σ H λx s=>ty σ s λy l=>∃a v,x = c6 a/\DO l a y (aB v)/\Q v l
def acu(ty n:TE):TE:=λσ H Q=>ty σ H λy s=>n σ s λx l=>∃a o,x = c6 a/\DO l a y o/\Q (pY<|fC o) l
def Jf(ty n:TE):TE:=λσ H Q=>ty σ H λy s=>n σ s λx l=>∃a o,x = c6 a/\DO l a y o/\Q (pY<|!fC o) l
def Ti(l ty n:TE):TS:=λD σ H=>n σ H λv s=>l σ s λx t=>ty σ t λy u=>∃a H4,x = c6 a/\Tn u a y v H4/\D.nx σ H4
def PN(E:ph X.A+1<lZ)(G:PE X o td)(hi:PE X i ty)(J:acD i):PE X (p4 o i pos)<|Zw td ty:=by intro z s σ H Q I h;show Xk PySem.F.slot_dict_getitem.lookup J<|thn (G z s σ H _ I h) λu L l=>?_;have(x,M,O,P,R):=l;show thn (hi z L σ M _ O R) λiv s2 n=>?_;have(y,S,B,U,a,v,ex,g,Y):=n;subst ex;obtain rfl:u=dS a:=P;show(KU B g,Rf E B g U λw' s3 I3 t=>(v,S,I3,t,Y))
def ab0(z:ph X.A+1<lZ)(hi:PE X i ty)(B:PE X o td):PC X .In i o<|acu ty td:=by intro t s σ H Q I h;show thn (hi t s σ H _ I h) λiv E l=>?_;have(y,G,J,L,M):=l;show thn (B t E σ G _ J M) λu s2 n=>?_;have(x,O,P,R,a,S,ex,g,U):=n;subst ex;obtain rfl:u=dS a:=R;show aeS z P g L λs3 Y=>(pY<|fC S,O,Y,rfl,U)
def Iw(z:ph X.A+1<lZ)(hi:PE X i ty)(B:PE X o td):PC X LM i o<|Jf ty td:=by intro t s σ H Q I h;show thn (hi t s σ H _ I h) λiv E l=>?_;have(y,G,J,L,M):=l;show thn (B t E σ G _ J M) λu s2 n=>?_;have(x,O,P,R,a,S,ex,g,U):=n;subst ex;obtain rfl:u=dS a:=R;show X7 z P g L λs3 Y=>(pY<|!fC S,O,Y,rfl,U)
def Fl(B:ph X.A+1<lZ)(E:PE X o td)(hi:PE X i ty)(G:PE X value tv)(J:nS value (aB<|p4 o i pos') pos.line X.env=pure f_) :
  PS X (aA7 [p4 o i pos'] value pos)<|Ti td ty tv:=by intro l s σ H D I h;show wpAny_Assign_Subscript (thn (G l s σ H _ I h) λr L n=>?_) J;have(v,M,O,P,Q):=n;show thn (E l L σ M _ O Q) λu R t=>?_;have(x,S,U,Y,q2):=t;show thn (hi l R σ S _ U q2) λiv s3 z=>?_;have(y,H3,I3,ry,a,H4,ex,g,q3):=z;subst ex;obtain rfl:u=dS a:=Y;show QI B I3 g ry P λs4 I4=>(σ,H4,I4,q3)
def L7(h:Heap)(hb:mw<h.objs.size):uf P w H (pF h { cls:=iU "dict", data:=.dict #[] }) h.objs.size<|wm []:=(aY _,e9 beq_eq_false_iff_ne<|mr<|aS hb,[],lX,Heap.DictOf.new h)
def S8:TE:=λZ H Q=>∀p,H p=n_->Q (c6 p) (rG H p<|wm [])
def Dk:PE X (.Dict [] [] pos) S8:=λl s σ H Q I h=>wpAny_Dict_empty (c6 s.heap.objs.size,_,I.laid (λZ Z q=>ak _ q) (ag _)<|L7 s.heap I.big,rfl,h _<|p5 (L0 I)<|ag _)
def Ny:List (TE×TE)->St->Hp->(List (V×V)->Hp->Prop)->Prop
 | [],_,H,Q=>Q [] H
 | %[tk|l]::r,σ,H,Q=>tk σ H λx n=>l σ n λy s=>Ny r σ s λps t=>Q (%[x|y]::ps) t
abbrev VV:List (V×V)->List (Value×Value)->Prop:=Paired λp q=>qH p.1 q.1/\qH p.2 q.2
def PPs(X:Cx)(pos:Pos)(n:List<|Option Expr)(l:List Expr)(t:List<|TE×TE):Prop:=∀u s (σ:St) H Q,Inv X u σ H s->Ny t σ H Q ->
  lg (kZ X.prog X.w) X.A (evalPairs<|pairTrees n l X.env pos) (λvs z=>∃ps x,Inv X u σ x z/\VV ps vs/\Q ps x) X.xe s
def Ws:PPs X pos [] [] []:=λl s σ H Q I h=>pairTrees_nil_walk ([],H,I,lX,h)
def U8(hk:PE X k tk)(B:PE X v z)(hr:PPs X pos ks vs l) :
  PPs X pos (aB k::ks) (v::vs)<|%[tk|z]::l:=λn s σ H Q I h=>pairTrees_cons_walk (thn (hk n s σ H _ I h) λu E ⟨x,G,J,L,M⟩=>thn (B n E σ G _ J M) λw2 O ⟨y,P,R,S,U⟩=>thn (hr n O σ P _ R U) λws s3 ⟨Y,H3,I3,t,q3⟩=>(%[x|y]::Y,H3,I3,iL (L,S) t,q3))
def DQ(kvs more:List<|qk×V):List<|qk×V:=more.foldl (λl kv=>AQ l kv.1 kv.2) kvs
def KV.merge:∀{more}{l}{kvs}{vs},KV more l->KV kvs vs->KV (DQ kvs more) (merged vs l):=by intro more l kvs vs r;induction r generalizing kvs vs with
 |nil=>intro q;show q
 | @cons p q u x h t n=>
  intro s;have e:KV (AQ kvs p.1 p.2)<|stored vs q.1 q.2:=by have:=s.put p.1 h.2;rw[←h.1];show this
  show n e
theorem B6:∀more kvs,de (DQ kvs more)<=de kvs+de more
 | [],kvs=>by change de kvs<=de kvs+0;rfl'
 |p::r,kvs=>by have l:=B6 r<|AQ kvs p.1 p.2;have n:=Bg kvs p.1 p.2;change(de (DQ (AQ kvs p.1 p.2) r))<=_;simp only[lCq];lia
theorem Gm:∀{kvs}{ws},VV (kvs.map λkv=>%[kV kv.1|kv.2]) ws->∃l,Carries (rY P w) ws l/\KV kvs l
 | [],_,r=>by cases r;show([],r8,lX)
 |p::kvs,_,r=>by cases r with
  | @cons a b n bs h t=>have(l,c,q):=Gm t;have(b1,b2):=b;show(%[p.1|b2]::l,(Ic h.1,rfl,c),iL (rfl,h.2) q)
def Zs(l:List<|TE×TE):TE:=λσ H Q=>∀p,H p=n_->Ny l σ (rG H p<|wm []) λps n=>n p=aB (wm [])/\∃kvs:List (qk×V),ps=kvs.map (λkv=>%[kV kv.1|kv.2])/\de kvs<=15/\Q (c6 p) (rG n p<|wm<|DQ [] kvs)
def Xo(h:PPs X pos l n t)(u:l.all (fC ·)=t_)(hl:de l=de n)(M:l≠[])
  (E:de l<=15):PE X (.Dict l n pos)<|Zs t:=by
 intro O s σ H Q I q;have hn:=p5 (L0 I)<|ag s.heap.objs.size;have P:=I.laid (t':=sq s) (λZ Z q=>ak _ q) (ag _)<|L7 s.heap I.big;show wpAny_Dict_walk (knd:=rY X.prog X.w) u hl M E<|thn (h O _ σ _ _ P<|q _ hn) λws s2 G=>?_;have(ps,H2,L,J,e,x,R,lk,S):=G;subst R;have(U,c,Y):=Gm J;have(z,hd,vs0,r0,dd):=Zy L.hok e;cases r0;show(U,c,dd,λh' B hs=>(c6 s.heap.objs.size,_,?_,rfl,S));have hz:de (DQ [] x)<=sizeLine:=by have h1:=B6 x [];rw[cw]at h1;rw[mB];lia
 have he:∃q,eL h' s.heap.objs.size=aB q:=let ⟨q,_,_,hq,_⟩:=B;(q,hq);show IX L (by rw[e];show r8) hs he<|Th hz hd (Y.merge lX) B
structure M1 (X:Cx)(o:Expr)(m:Str)(apos:Pos)(e:Expr)(cpos:Pos):Prop where
 base:oz o m X.env (eval o X.env)=eval o X.env
 few:((mH cpos<|lC [e] X.env).all (λx=>!x.1) && (backToKw cpos<|keywordEach [] X.env).all (λx=>x.1.isSome)
  && decide (([e]:List Expr).length+([]:List Keyword).length+(if ([]:List Keyword).isEmpty then 0 else 1)<30))=t_
 line:(apos.endLine == cpos.line)=t_
 trees:mH cpos (lC [e] X.env)=[%[f_|eval e X.env]]
def IsD(H:Hp)(a:Addr):Prop:=(∃kvs,Rd H a<|wm kvs)∨∃kvs,Rd H a<|.dT kvs
def ab1{σ:St}(I:Inv X x σ H s)(d:IsD H a) :
  Qf s (dS a) "dict" /\ (∀b,dS a = dS b->∃l,eL (d7 s) b=aB l/\l.dict=n_)/\(a == mw)=f_:=by
 obtain⟨n,e⟩|⟨n,e⟩:=d;.have(_,hd,z,_,dd):=GP I.hok e;show(dd.typeIs,λb q=>?_,hd);cases q;have(l,_,_,t,u,_):=dd;show(l,t,u.2.1)
 .have(_,hd,B,_,dd):=HK I.hok e;show(dd.typeIs,λb q=>?_,hd);cases q;have(l,_,_,t,u,_):=dd;show(l,t,u.2.1)
end L2
open L2.NW renaming or->aAb
namespace Att
open PySem PySem.W PySem.Calls PyProof.Rows
def ET:∀(ns:Ϝ) (vs:Ξ),WellAll P h vs (ns.map aAq)->lL vs ns:=by intro ns;induction ns with
 |nil=>intro vs w;cases w;show .nil
 |cons n ns l=>intro vs w;cases w with
  |cons a b=>cases a;show .cons _ _<|l _ b
def RK{l:OpenLaw}(hn:l.most=aB n){s:Ξ}
  (t:l.row.toRowW.claim.pre args=t_) (E:WellAll P h s args) :
  ∃a vs ns,s=[dS a]/\args=[WData.list<|ns.map aAq]/\eL h a=aB { cls:=iU "list", data:=mY<|c5 vs }/\lL vs ns/\de ns<=n:=by
 have G:WShape.hasAll [] args [.list .int]=t_:=(pre_splitW t).1;have H:l.pre.holds [] { args:=args }=t_:=(pre_splitW t).2;have(d,r,rfl,I,J):=hasAllW_cons G;obtain rfl:=hasAllW_nil J;have(S,rfl,L):=hasW_list I;have(ns,rfl):=items_int L;have u:de ns<=n:=by
  skip;have z:(WTm.not<|.lt (.lit<|aAq (n:Int))<|.len<|.arg 0).holds [] { args:=[.list<|ns.map aAq] }=t_:=by have z:=(holds_andW H).1;rw[hn]at z;show z
  have B:=condW_of z<|w_not<|w_lt w_lit<|w_len_list<|w_arg rfl;rw[lMq]at B;show iV λq=>?_;have M:(n:Int)<((de ns:Nat):Int):=by omega
  first
   | (rw[d5 M]at B;show absurd B ⋯)
   | (rfl;lia)
 cases E with
 |cons O Q=>cases Q;cases O with
  |list R x=>show(_,_,ns,rfl,rfl,R,ET ns _ x,u)
def Rk(l:OpenLaw)args:l.row.toRowW.claim.post args (.bool t_) args=t_:=postW_of
  (by first|rfl|rfl|rfl)
  (w_eq_bool (w_res rfl) w_lit) rfl
def Li{l:OpenLaw}{P:(Str->Υ)->Heap->Prop}
  (hn:l.most=aB n) (I:d.params.defaults=[])
  (call:∀w s₀ s (mg J:Str->Υ) x o pm cd t a (vs:Ξ) (ns:Ϝ),
   Ground q loose [] P w s₀ mg J s.heap->Q w s.heap ->
   eL (d7 s) x=aB o->x9 o = .func (docDef d.name d.params d.body d.scope pm cd t)->s.heap.CodeRec cd d.name->mg d.name=aB (dS x) ->
   eL (d7 s) a=aB { cls:=iU "list", data:=mY<|c5 vs }->lL vs ns->de ns<=n->s.gens=#[] ->
   mO (kZ l.prog w) nB (.call (dS x) ([dS a],[])) (λr H=>r = .ok (.ret<|kQ t_)/\OldK s.heap H.heap/\H.os=s.os/\nh H.gens) s) :
  WalkO q loose P Q l.row.toRowW d []<|λf vs=>aBd f vs:=by intro w s₀ s mg J G Y x o pm cd t dV kV ho hd L R M hg S U as z X hrd O hlo;obtain rfl:dV = ly:=Dflts.none R I;obtain rfl:kV = ly:=Dflts.noKw R;have(a,vs,ns,rfl,rfl,B,u,E):=RK hn z O;show enter_call<|nu (call w s₀ s mg J x o pm cd t a vs ns G Y ho (fd_plain hd) L M B u E hg) λr H hq=>?_;have(rfl,h2,h3,h4):=hq;show(jE (kQ t_,.bool t_,[],rfl,λZ=>rfl,.bool t_,Rk l _,λZ=>(bz.nil,λZ hm=>(nomatch hm))),h2,h3,h4)
end Att
namespace L2
open PySem PySem.Spec PyProof.Rows
theorem vals_ints:∀{vs:Ξ}{ns:Ϝ},lL vs ns->qB (ns.map c7) vs
 |_,_,.nil=>lX
 |_,_,.cons n t h=>iL (t,rfl)<|vals_ints h
noncomputable def xD(s:Stmt):nT:=match s with
 | aA9 _ a _ _ _ _ _ _ _ _=>a
 |_=>{ posonlyargs:=[],args:=[],vararg:=n_,kwonlyargs:=[],kw_defaults:=[],kwarg:=n_,defaults:=[] }
noncomputable def uW(s:Stmt):List Stmt:=match s with
 | aA9 _ _ b _ _ _ _ _ _ _=>b
 |_=>[]
noncomputable def oX(s:Stmt):lJ:=match s with
 | aA9 _ _ _ _ _ _ l _ _ _=>l
 |_=>{ kind:=o5,names:=[],isGenerator:=f_,isCoroutine:=f_ }
abbrev UN:Sn:=λQ Q Q Q Q Q=>False
abbrev E0:XK:=λQ Q Q=>False
def acF:N5 UN X E0:=λQ Q Q Q Q Q Q h=>j5 h
structure Y3 (K:Ζ)(x qual:Str)(st:Stmt)(f:Addr)(fd:lH):Prop where
 ex:∃(oc:Value) (od:Option Addr) (kV doc pm:Value) (an:Option Addr) (xQ ct:Value) (osl:Array Υ),
  fd=W.fnOf x qual (xD st) (uW st) (oX st) .none kV doc pm an xQ ct/\K.lookup f=aB (oc,od,.func fd,osl)/\W.codeIn K xQ qual=t_
 kp:W.keepIn K (.ref f)=t_
section
variable {K:Ζ}
def Y3.ok{st}(F:Y3 K x qual st f fd)(S:pR N ps<|oX st)(len:∀vs H Q E,sp vs H Q E->de vs=de ps)
  (l:∀n A outer s H vs Q E,uw k (sv A<|mE qual (oX st) s.heap.objs.size f n)->sp vs H Q E ->
   ∃t,Km (Jv UN P w K mg base N qual (oX st) f n A outer s H E).nox (uW st) t/\t { nx:=λZ B=>Q nc B,rt:=Q } (vf N vs) H):Dj P w K mg base UN (k+1) f fd ps sp:=by have(J,L,kV,G,pm,M,n,ct,I,rfl,lk,u):=F.ex;show ZH lk u S len λA outer s H vs Q E hr z=>?_;have(t,h,q):=l n A outer s H vs Q E hr z;show(t,h.nox,q)
def Y3.binds{st}(F:Y3 K x qual st f fd)
  (h:∀kV l pm n s ct (t:Ξ),de t=de ps->ou (x8 x qual (xD st) (uW st) (oX st) ly kV l pm n s ct) (t,[])=pure (ps.zip t)):Bb K fd ps []:=by have(B,E,kV,l,pm,n,s,ct,u,rfl,lk,z):=F.ex;show .all<|h kV l pm n s ct
def NS{st}{s:Array Υ}{kV}(l:K.lookup f=aB (z,B,.func<|x8 x qual (xD st) (uW st) (oX st) ly kV n pm u t ct,s))
  (c:aAh K t qual=t_) (k:aAg K (dS f)=t_):Y3 K x qual st f<|x8 x qual (xD st) (uW st) (oX st) ly kV n pm u t ct:=((z,B,kV,n,pm,u,t,ct,s,rfl,l,c),k)
end
def Ge(hr:uw k A):ph A+1<lZ:=Nat.lt_of_le_of_lt (Nat.add_le_add_left ⋯ _) hr.units
def pv i(n:↑(X.N[i]?=aB x))(s:↥(Vis X.env.scope x))(hd:⇑((x == ("__debug__" : Str))=f_))
  (l:⇑((x == ("__classdict__" : Str))=f_)):PE X (fY x pos)<|va i:=ZM n s hd l
def N2{A:Prop}(h:B):if f_=t_ then A else B:=by show h
def QV{A:Prop}(h:A):if t_=t_ then A else B:=by show h
def qi(H l:Hp):Prop:=∀b o,H b=aB o->l b=aB o
def qi.refl H:qi H H:=λQ Q h=>h
def qi.trans(a:qi H l)(b:qi l n):qi H n:=λc o h=>b c o<|a c o h
def qi.free(e:qi H n)(h:n l=kN):H l=kN:=by cases q:H l with
 |none=>rfl
 |some o=>rw[e l o q]at h;cases h
def qi.seq{K}(e:qi H l)(h:tJ K H a xs):tJ K l a xs:=by
 obtain(h|⟨o,h⟩)|h:=h;.show jE<|jE<|e _ _ h
 .show jE<|iq (o,e _ _ h)
 .show iq h
def Q7:zA X (gp "len")<|λxs H Q=>∃a kvs,xs=[c6 a]/\H a=aB (wm kvs)/\Q (c7<|de kvs) H:=by intro x s σ H xs z Q I r h;have(a,kvs,rfl,ha,q):=h;have(u,rfl,l):=xq r;cases l;show acP I (jE ha) λt B n=>(c7<|de kvs,H,n,(t,rfl),q)
end L2
open L2.qi renaming trans->eW,refl->j4
namespace Mr
noncomputable def cell(ns:Ϝ)(k:Nat):Int:=cn ns k 0
noncomputable def qu(ns:Ϝ):Nat->Nat
 |0=>0
 |k+1=>if cn ns k 0<cn ns (qu ns k) 0 then k else qu ns k
noncomputable def rot(ns:Ϝ)(i:Nat):Ϝ:=ns.drop i++ns.take i
def good(ns:Ϝ):Ϝ:=rot ns<|qu ns<|de ns
theorem vZ ns:∀n,(0<n->qu ns n<n)/\(∀j,j<n->cn ns (qu ns n) 0<=cn ns j 0)/\(∀j,j<qu ns n->cn ns (qu ns n) 0<cn ns j 0)
 |0=>(λh=>absurd h<|dY _,λj h=>absurd h<|dg _,λj h=>absurd h<|dg _)
 |n+1=>by
  have(t,s,u):=vZ ns n;simp only[qu];by_cases c:cn ns n 0<cn ns (qu ns n) 0
  .rw[pZ c];show(λQ=>gU n,λj l=>?_,λj l=>?_)
   .obtain q|q:=gC<|jL l;.have:=s j q;lia
    .subst q;show jn _
   .have:=s j l;rfl'
  .rw[pW c];show(λQ=>?_,λj l=>?_,u)
   .by_cases hn:0<n;.show dX<|t hn
    .have:n=0:=by lia
     subst this;show gU 0
   .obtain q|q:=gC<|jL l;.show s j q
    .subst q;rfl'
def OA ns:qu ns (de ns)<=de ns:=by
 by_cases h:0<de ns;.show cY<|(vZ ns<|de ns).1 h
 .have:de ns=0:=by lia
  rw[this];show ag 0
def wR{ns:Ϝ}h:cn ns j 0=ns[j]:=by rw[gDq,gEg h];rfl
def Kj(n:M∈ns)(hl:∀a,a∈ns->M<=a):ns.idxOf M=qu ns (de ns):=by
 have t:=dh n;have(l,u,x):=vZ ns<|de ns;have l:=l t;have hi:=e9 iP n;have e:cn ns (ns.idxOf M) 0=M:=by rw[wR hi];show gD hi
 have s:cn ns (qu ns<|de ns) 0=M:=by have z:=u _ hi;have B:=hl _ (by rw[wR l];show gRq l:ns.getD (qu ns ns.length) 0∈ns);lia
 obtain q|q|q:=jM (ns.idxOf M)<|qu ns<|de ns;.have:=x _ q;lia
 .show q
 .have:=gO (p:=(· == M))<|by show q
  rw[wR l]at s;simp[s]at this
def UA:good []=[]:=rfl
def M5(ns)i:de (rot ns i)=de ns:=by delta rot;rw[lAq,aR,lTq];lia
def LU ns:de (good ns)=de ns:=M5 _ _
def step(ns:Ϝ):Int:=if 0<cell ns 0 % 3 then cell ns 0 % 10 ^ 40+1 else 1
def Mj(ns:Ϝ):Int:=if 0<cell ns 1 % 3 then cell ns 1 % 10 ^ 40 else 0
def Du(ns:Ϝ)(k:Int):Int:=step ns*(((1+cell ns 1 / 3 % 66)*k+cell ns 0 / 3 % 67) % 67+1)+Mj ns
def CL(ns:Ϝ)(k:Int):Int:=if cell ns 1 % 5=4 then 10 ^ 60-Du ns k else Du ns k
def CM{B:Ϝ}(h:∀x,x∈A->m<x)(l:∀x,x∈B->m<=x):good (A++m::B)=m::B++A:=by
 have n:m∈A++m::B:=by simp
 have hl:∀a,a∈A++m::B->m<=a:=λa ha=>by
  obtain q|q:=mAq.mp ha;.show ir<|h a q
  .obtain rfl|q:=ae.mp q;.show jn _
   .show l a q
 have e:=Kj n hl;have s:(A++m::B).idxOf m=de A:=by rw[List.idxOf_append,pW<|λq=>absurd (h m q)<|Int.lt_irrefl m,List.idxOf_cons_self,bD]
 delta good rot;rw[←e,s,List.drop_left,List.take_left]
def Mw{t:Ϝ}(s:t≠[])(hn:c8 t):∃A m B,t=A++m::B/\(∀x,x∈A->m<x)/\∀x,x∈B->m<x:=by
 have hl:=e9 fA s;have(l,u,z):=vZ t<|de t;have l:=l hl;show(t.take<|qu t<|de t,t[qu t<|de t],t.drop<|qu t (de t)+1,?_,?_,?_);.rw[←az l,aV]
 .intro x n;have(j,E,rfl):=List.mem_take_iff_getElem.mp n;have:=z j ∅;rw[wR l,wR ∅]at this;show this
 .intro x n;have(j,E,rfl):=List.mem_drop_iff_getElem.mp n;have a:=u (qu t (de t)+1+j) ∅;rw[wR l,wR ∅]at a;have ne:t[qu t<|de t]≠t[qu t (de t)+1+j]:=dE.mp hn _ _ l ∅<|by rfl'
  lia
def Lh(hn:c8 t)i:good (rot t i)=good t:=by
 by_cases s:t=[];.subst s;simp[rot]
 .have(A,m,B,rfl,l,n):=Mw s hn;rw[CM l<|λx q=>ir<|n x q];by_cases c:i<=de A
  .have e:rot (A++m::B) i=A.drop i++m::(B++A.take i):=by unfold rot;rw[il c,ip c];simp
   rw[e,CM (λx q=>l x<|bN q)<|λx q=>?_];.simp
   .obtain q|q:=mAq.mp q;.show ir<|n x q
    .show ir<|l x<|cj q
  .obtain⟨j,rfl⟩:∃j,i=de A+(j+1):=(i-de A-1,by omega);have e:rot (A++m::B) (de A+(j+1))=(B.drop j++A)++m::B.take j:=by unfold rot;rw[List.take_append];simp[cQ,dk]
   rw[e,CM (λx q=>?_)<|λx q=>ir<|n x<|cj q];.rw[dF,dF,←af,aV]
   .obtain q|q:=mAq.mp q;.show n x<|bN q
    .show l x q
def rot_perm(t)i:aF (rot t i) t:=by show m9 ay<|by rw[aV]
def vx t:aF (good t) t:=rot_perm t _
def qj{n ts:Λ}(h:n.Perm ts):n.flatten.Perm ts.flatten:=by induction h with
 |nil=>show .refl _
 |cons x _ s=>show aF.append (.refl x) s
 |swap x y l=>rw[fCq,fCq,fCq,fCq,←af,←af];show aF.append ay<|.refl _
 |trans _ _ a b=>show a.trans b
theorem tP{f:Ϝ->Ϝ}(hf:∀r,(f r).Perm r):∀l:Λ,(l.map f).flatten.Perm l.flatten
 | []=>.refl _
 |r::l=>by show aF.append (hf r)<|tP hf l
def GY ns:1<=step ns/\step ns<=10 ^ 40:=by
 delta step;split
 .have l:=cT (cell ns 0)<|show(10 ^ 40:Int)≠0 by decide
  have n:=cm (cell ns 0)<|show(0:Int)<10 ^ 40 by decide
  omega
 .simp +arith[*]
def Le ns:0<=Mj ns/\Mj ns<10 ^ 40:=by
 delta Mj;split;.show(cT (cell ns 1)<|show(10 ^ 40:Int)≠0 by decide,cm (cell ns 1)<|show(0:Int)<10 ^ 40 by decide)
 .simp +arith[*]
def Oe(ns)k:0<CL ns k/\CL ns k<10 ^ 60:=by
 have(l,n):=GY ns;have(u,x):=Le ns;have s:=cT ((1+cell ns 1 / 3 % 66)*k+cell ns 0 / 3 % 67)<|show(67:Int)≠0 by decide
 have t:=cm ((1+cell ns 1 / 3 % 66)*k+cell ns 0 / 3 % 67)<|show(0:Int)<67 by decide
 have h:0<Du ns k/\Du ns k<10 ^ 60:=by
  delta Du;generalize ((1+cell ns 1 / 3 % 66)*k+cell ns 0 / 3 % 67) % 67=m at s t;have z:1*1<=step ns*(m+1):=ke l (by simp +arith[*]) (by rfl')<|by rfl'
  have B:step ns*(m+1)<=10 ^ 40*67:=ke n (by rfl') ∅ ⋯;omega
 delta CL;split <;> lia
def OR:∀t:Fin 66,∀d:Fin 67,0<d.val->(t.val+1)*d.val % 67≠0:=by trivial
def Ut ns{j k:Nat}(I:j<67)(hk:k<67)(h:CL ns j=CL ns k):j=k:=by
 have u:Du ns j=Du ns k:=by unfold CL at h;split at h <;> lia
 unfold Du at u;have(J,L):=GY ns;have n:=cT (cell ns 1 / 3)<|show(66:Int)≠0 by decide
 have x:=cm (cell ns 1 / 3)<|show(0:Int)<66 by decide
 generalize cell ns 1 / 3 % 66=t at *;generalize cell ns 0 / 3 % 67=s at *;have z:step ns*(((1+t)*j+s) % 67+1)=step ns*(((1+t)*k+s) % 67+1):=by lia
 have M:=Int.eq_of_mul_eq_mul_left ∅ z;have B:(((1+t)*j+s)-((1+t)*k+s)) % 67=0:=Int.emod_eq_emod_iff_emod_sub_eq_zero.mp ∅;have E:((1+t)*((j:Int)-k)) % 67=0:=by rw[←B];congr 1;rw[Int.mul_sub];simp +arith[*]
 have(l,rfl):=Int.eq_ofNat_of_zero_le n;obtain q|q|q:=jM j k
 .exfalso;show OR (l,by lia) (k-j,by lia) (by change 0<k-j;rfl') ?_;change(l+1)*(k-j) % 67=0;have G:((1+(l:Int))*((k:Int)-j)) % 67=0:=by
   have:(1+(l:Int))*((k:Int)-j) = -((1+(l:Int))*((j:Int)-k)):=by rw[←Int.mul_neg];congr 1;simp +arith[*]
   rw[this];lia
  have H:(((l+1)*(k-j) % 67:Nat):Int)=0:=by rw[←G];push_cast [cY q];rw[kA]
  lia
 .show q
 .exfalso;show OR (l,by lia) (j-k,by lia) (by change 0<j-k;rfl') ?_;change(l+1)*(j-k) % 67=0;have H:(((l+1)*(j-k) % 67:Nat):Int)=0:=by rw[←E];push_cast [cY q];rw[kA]
  lia
end Mr
open Mr renaming good->LY
namespace MrS
open PySem PyProof.Rows
noncomputable def yx:Bool->kT->Array kT->Nat->Nat->Nat->StateT SortSt Sem (Option Nat):=sortPriv% PySem.Builtin.gallop
structure BQ (prog:lu)(w:lB)(A:Around)(s:kS)(κ:lY)(P:kT->Prop)(lt:kT->kT->Bool):Prop where
 ask:∀x y,P x->P y->∀(E:Value->kS->Prop) (Q:Bool->kS->Prop),Q (lt x y) s->lg (kZ prog w) A (keyLt' κ x.1 y.1) Q E s
 asym:∀x y,P x->P y->lt x y=t_->lt y x=f_
 trans:∀x y z,P x->P y->P z->lt y x=f_->lt z y=f_->lt z x=f_
open MrS.BQ renaming trans->pG
def BQ.refl(C:BQ prog w A s κ P lt)(l:P x):lt x x=f_:=by cases e:lt x x with
 |false=>rfl
 |true=>rw[←C.asym x x l l e,e]
def BQ.cmp(C:BQ prog w A s κ P lt){st}(l:P x)(n:P y)(hk:kindOf st=κ)(h:Q (aB<|lt x y) st) :
  wpS (kZ prog w) A E s (lt' x y) Q st:=by rw[lt'_eq];show kX<|mN ?_;rw[hk];show kX<|wpS_lift<|wpAny_attempt<|C.ask x y l n _ _ (rfl,?_);show kY h
def qG{st}(l:arr[i]?=aB x)(h:Q x st):wpS (kZ prog w) A E s (mh arr i) Q st:=by rw[elem'_eq,l];show kY h
def BQ.at(C:BQ prog w A s κ P lt){st}(hi:(lD st)[i]?=aB x)(l:(lD st)[j]?=aB y)(n:P x)(t:P y)(hk:kindOf st=κ)(h:Q (aB<|lt x y) st) :
  wpS (kZ prog w) A E s (ltAt' i j) Q st:=by show kX<|mN ?_;show kX<|qG hi<|kX<|qG l<|C.cmp n t hk h
noncomputable def Ag(lt:kT->kT->Bool)(left:Bool)(key:kT)(arr:Array kT)(base i:Nat):Bool:=if left then lt (jz arr (base+i) key) key else !lt key (jz arr (base+i) key)
def Nw(left)key arr base n l:yx left key arr base n l=(do
 let B i:StateT SortSt Sem<|Option Bool:=do
  let x ←mh arr (base+i)
  if left then lt' x key else return (←lt' key x).map (!·)
 let mut t:=0
 let mut z:=1
 let mut lo:=0
 let mut hi:=0
 let aB right ←B l|return n_
 if right then
  let u:=n-l
  for _ in [0:n]do
   if z ≥ u then break
   let aB more ←B (l+z)|return n_
   if !more then break
   t:=z
   z:=2*z+1
  lo:=l+t+1
  hi:=l+min z u
 else
  let u:=l+1
  for _ in [0:n]do
   if z ≥ u then break
   let aB G ←B (l-z)|return n_
   if G then break
   t:=z
   z:=2*z+1
  lo:=l+1-min z u
  hi:=l-t
 for _ in [0:n]do
  if lo ≥ hi then break
  let m:=lo+(hi-lo) / 2
  let aB more ←B m|return n_
  if more then lo:=m+1 else hi:=m
 return aB hi):=rfl
def yt(C:BQ prog w A s κ P lt){st}(hi:base+i<arr.size)(ha:∀x,x∈arr->P x)(l:P key)(hk:kindOf st=κ)
  (h:Q (aB<|Ag lt left key arr base i) st):wpS (kZ prog w) A E s (do
   let x ←mh arr (base+i)
   if left=t_ then lt' x key else do
    let n ←lt' key x
    pure (n.map (!·))) Q st:=by
 have e:=aj hi;have u:jz arr (base+i) key=arr[base+i]:=by simp[jz,hi]
 show kX<|qG e ?_;have t:=ha _<|bq hi;delta Ag at h;rw[u]at h;cases left with
 |true=>show C.cmp t l hk h
 |false=>show kX<|C.cmp l t hk<|kY h
def EJ{lo}{st:SortSt}
  (mono:∀i j,i<=j->j<n->Ag lt left key arr base j=t_->Ag lt left key arr base i=t_)
  (down:∀i j,i<=j->j<n->Ag lt left key arr base i=f_->Ag lt left key arr base j=f_)
  (hf:∀i l u z,u<=n->(u<=l->z (ka %[n_|%[l|u]]) st)->(l<u->Ag lt left key arr base (l+(u-l) / 2)=t_->z (k6 %[n_|%[l+(u-l) / 2+1|u]]) st) ->
   (l<u->Ag lt left key arr base (l+(u-l) / 2)=f_->z (k6 %[n_|%[l|l+(u-l) / 2]]) st)->wpS (kZ prog w) A E s (f i %[n_|%[l|u]]) z st)
  (L:lo<=hi) (M:hi<=n) (O:∀j,j<lo->Ag lt left key arr base j=t_) (Q:∀j,hi<=j->j<n->Ag lt left key arr base j=f_) :
  wpS (kZ prog w) A E s (forIn [:n] (%[n_|%[lo|hi]]:Option (Option Nat)×Nat×Nat) f)
   (λc t=>∃k,c=%[n_|%[k|k]]/\t=st/\k<=n/\(∀j,j<k->Ag lt left key arr base j=t_)/\(∀j,k<=j->j<n->Ag lt left key arr base j=f_)) st:=by
 show lN
  (I:=λi c t=>∃l u,c=%[n_|%[l|u]]/\t=st/\l<=u/\u<=n/\(∀j,j<l->Ag lt left key arr base j=t_)/\(∀j,u<=j->j<n->Ag lt left key arr base j=f_)/\(u-l)+i<=n)
  ?step ?fin (lo,hi,rfl,rfl,L,M,O,Q,by lia);case step=>
  rintro i c t _ R ⟨l,u,rfl,rfl,S,x,B,G,U⟩;show hf i l u _ x (λH=>?_) (λH e=>?_)<|λH e=>?_
  .have e:l=u:=by rfl'
   subst e;show(l,rfl,rfl,x,B,G)
  .show(_,u,rfl,rfl,by lia,x,λj J=>mono j _ (by rfl') ∅ e,G,by lia)
  .show(l,_,rfl,rfl,by rfl',by lia,B,λj J hn=>down _ j J hn e,by lia)
 case fin=>
  rintro c t ⟨l,u,rfl,rfl,S,x,B,G,U⟩;have e:l=u:=by lia
  subst e;show(l,rfl,rfl,x,B,G)
def wA(C:BQ prog w A s κ P lt){st}(hh:t<n)(hb:base+n<=arr.size)(ha:∀x,x∈arr->P x)(z:P key)(hk:kindOf st=κ)
  (mono:∀i j,i<=j->j<n->Ag lt left key arr base j=t_->Ag lt left key arr base i=t_)
  (h:∀k,k<=n->(∀j,j<k->Ag lt left key arr base j=t_)->(∀j,k<=j->j<n->Ag lt left key arr base j=f_)->Q (aB k) st) :
  wpS (kZ prog w) A E s (yx left key arr base n t) Q st:=by
 have down:∀i j,i<=j->j<n->Ag lt left key arr base i=f_->Ag lt left key arr base j=f_:=λi j S O e=>by cases q:Ag lt left key arr base j with
  |false=>rfl
  |true=>rw[mono i j S O q]at e;cases e
 rw[Nw];dsimp only;show kX<|yt C (base:=base) (i:=t) ∅ ha z hk ?_;cases er:Ag lt left key arr base t with
 |true=>
  dsimp only;rw[pZ rfl];show kX (lV (lN
   (I:=λi c u=>∃l o,c=%[n_|%[l|o]]/\u=st/\l<o/\i+1<=o/\t+l<n/\Ag lt left key arr base (t+l)=t_)
   (Q:=λc u=>∃l o,c=%[n_|%[l|o]]/\u=st/\l<o/\t+l<n/\Ag lt left key arr base (t+l)=t_/\(n-t<=o∨(t+o<n/\Ag lt left key arr base (t+o)=f_)))
   ?step ?fin (0,1,rfl,rfl,by lia,by lia,by rfl',er)) ?post);case step=>
   rintro i c u _ U ⟨l,o,rfl,rfl,J,X,H,G⟩;dsimp only;by_cases B:o ≥ n-t;.rw[pZ B];show kY (l,o,rfl,rfl,J,H,G,jE B)
   .rw[pW B];show kX<|yt C (base:=base) (i:=t+o) ∅ ha z hk ?_;cases e:Ag lt left key arr base (t+o)with
    |true=>dsimp only;rw[pW ⋯];show kY (o,_,rfl,rfl,by lia,by lia,by lia,e)
    |false=>dsimp only;rw[pZ<|by rfl];show kY (l,o,rfl,rfl,J,H,G,iq (by lia,e))
  case fin=>rintro c u ⟨l,o,rfl,rfl,J,X,H,G⟩;show(l,o,rfl,rfl,J,H,G,jE ∅)
  case post=>
   rintro c u ⟨l,o,rfl,rfl,J,H,G,M⟩;dsimp only;show kX<|lV (EJ (lt:=lt) (left:=left) (key:=key) (arr:=arr) (base:=base) mono down (λi L R Q' hu Y q2 q3=>?_) (by omega) (by omega) (λj O=>mono j _ (by rfl') H G) ?_) ?_
   .dsimp only;by_cases B:L ≥ R;.rw[pZ B];show kY<|Y B
    .rw[pW B];show kX<|yt C (base:=base) (i:=L+(R-L) / 2) ∅ ha z hk ?_;cases e:Ag lt left key arr base<|L+(R-L) / 2with
     |true=>dsimp only;rw[pZ rfl];show kY<|q2 ∅ e
     |false=>dsimp only;rw[pW ⋯];show kY<|q3 ∅ e
   .intro j O hn;obtain M|⟨M,a6⟩:=M;.lia
    .show down (t+o) j ∅ hn a6
   .rintro c u ⟨k,rfl,rfl,k1,k2,k3⟩;show kY<|h k k1 k2 k3
 |false=>
  dsimp only;rw[pW ⋯];show kX (lV (lN
   (I:=λi c u=>∃l o,c=%[n_|%[l|o]]/\u=st/\l<o/\i+1<=o/\l<=t/\Ag lt left key arr base (t-l)=f_)
   (Q:=λc u=>∃l o,c=%[n_|%[l|o]]/\u=st/\l<o/\l<=t/\Ag lt left key arr base (t-l)=f_/\(t+1<=o∨(o<=t/\Ag lt left key arr base (t-o)=t_)))
   ?step ?fin (0,1,rfl,rfl,by lia,by lia,by rfl',er)) ?post);case step=>
   rintro i c u _ U ⟨l,o,rfl,rfl,J,X,H,G⟩;dsimp only;by_cases B:o ≥ t+1;.rw[pZ B];show kY (l,o,rfl,rfl,J,H,G,jE B)
   .rw[pW B];show kX<|yt C (base:=base) (i:=t-o) ∅ ha z hk ?_;cases e:Ag lt left key arr base (t-o)with
    |true=>dsimp only;rw[pZ rfl];show kY (l,o,rfl,rfl,J,H,G,iq (by lia,e))
    |false=>dsimp only;rw[pW ⋯];show kY (o,_,rfl,rfl,by lia,by lia,by lia,e)
  case fin=>rintro c u ⟨l,o,rfl,rfl,J,X,H,G⟩;show(l,o,rfl,rfl,J,H,G,jE ∅)
  case post=>
   rintro c u ⟨l,o,rfl,rfl,J,H,G,M⟩;dsimp only;show kX<|lV (EJ (lt:=lt) (left:=left) (key:=key) (arr:=arr) (base:=base) mono down (λi L R Q' hu Y q2 q3=>?_) (by omega) ∅ ?_<|λj O hn=>down _ j O hn G) ?_
   .dsimp only;by_cases B:L ≥ R;.rw[pZ B];show kY<|Y B
    .rw[pW B];show kX<|yt C (base:=base) ∅ ha z hk ?_;cases e:Ag lt left key arr base<|L+(R-L) / 2with
     |true=>show kY<|q2 ∅ e
     |false=>show kY<|q3 ∅ e
   .intro j O;obtain M|⟨M,a6⟩:=M;.lia
    .show mono j (t-o) ∅ ∅ a6
   .rintro c u ⟨k,rfl,rfl,k1,k2,k3⟩;show kY<|h k k1 k2 k3
abbrev As(lt:kT->kT->Bool)(l:List kT):Prop:=l.Pairwise λx y=>lt y x=f_
structure MI (lt:kT->kT->Bool)(a b out:Array kT)(ia ib:Nat):Prop where
 la:ia<=a.size
 lb:ib<=b.size
 pm:(out.toList++(a.toList.drop ia++b.toList.drop ib)).Perm<|a.toList++b.toList
 so:As lt out.toList
 ua:∀x∈out.toList,∀y∈a.toList.drop ia,lt y x=f_
 ub:∀x∈out.toList,∀y∈b.toList.drop ib,lt y x=f_
def MI.congr(m:MI lt a b out ia ib)(e:b9 out'=b9 out):MI lt a b out' ia ib:=(m.la,m.lb,by rw[e];show m.pm,by rw[e];show m.so,by rw[e];show m.ua,by rw[e];show m.ub)
def Mh(l:List kT)i k:l.drop i=(l.drop i).take k++l.drop (i+k):=by rw[←List.drop_drop,aV]
def Ak(a:Array kT)i k:b9 (c9 a i<|i+k)=(a.toList.drop i).take k:=by rw[ig,List.extract_eq_take_drop,gH]
def MI.moreA(m:MI lt a b out ia ib)(sa:As lt<|b9 a)(hk:ia+k<=a.size)(h:∀x∈(a.toList.drop ia).take k,∀y∈b.toList.drop ib,lt y x=f_):MI lt a b (out++c9 a ia (ia+k)) (ia+k) ib:=by
 have e:b9 (out++c9 a ia (ia+k))=b9 out++(a.toList.drop ia).take k:=by rw[aM,Ak]
 have sd:As lt<|a.toList.drop ia:=sa.sublist<|cH _ _;have c:=Mh (b9 a) ia k;have s:=sd;rw[c]at s;have(t,z,u):=aZ.mp s;show(hk,m.lb,?_,?_,?_,?_);.rw[e,af];show(m9 (aF.append_left _ ?_)) m.pm;rw[←af,←c]
 .rw[e];show e9 aZ (m.so,t,λx l y n=>m.ua x l y<|cj n)
 .rw[e];intro x l y n;obtain l|l:=mAq.mp l;.show m.ua x l y<|by rw[c];show ah _ n
  .show u x l y n
 .rw[e];intro x l y n;obtain l|l:=mAq.mp l;.show m.ub x l y n
  .show h x l y n
def MI.moreB(m:MI lt a b out ia ib)(sb:As lt<|b9 b)(hk:ib+k<=b.size)(h:∀x∈(b.toList.drop ib).take k,∀y∈a.toList.drop ia,lt y x=f_):MI lt a b (out++c9 b ib (ib+k)) ia<|ib+k:=by
 have e:b9 (out++c9 b ib (ib+k))=b9 out++(b.toList.drop ib).take k:=by rw[aM,Ak]
 have sd:As lt<|b.toList.drop ib:=sb.sublist<|cH _ _;have c:=Mh (b9 b) ib k;have s:=sd;rw[c]at s;have(t,z,u):=aZ.mp s;show(m.la,hk,?_,?_,?_,?_);.rw[e,af];show(m9 (aF.append_left _ ?_)) m.pm;show(m9 (iB _ _ _) ?_);rw[←c]
 .rw[e];show e9 aZ (m.so,t,λx l y n=>m.ub x l y<|cj n)
 .rw[e];intro x l y n;obtain l|l:=mAq.mp l;.show m.ua x l y n
  .show h x l y n
 .rw[e];intro x l y n;obtain l|l:=mAq.mp l;.show m.ub x l y<|by rw[c];show ah _ n
  .show u x l y n
def An{l:List kT}(h:l[i]?=aB x):(l.drop i).take 1=[x]:=by have(hi,e):=gSq.mp h;rw[az hi,e];rfl
def MI.pushA(m:MI lt a b out ia ib)(sa:As lt<|b9 a)(n:a[ia]?=aB x)(h:∀y∈b.toList.drop ib,lt y x=f_):MI lt a b (m7 out x) (ia+1) ib:=by
 have hi:=(bJ.mp n).1;have l:(b9 a)[ia]?=aB x:=by rw[aG];show n
 show(m.moreA sa hi λz s y t=>?_).congr ?_;.rw[An l,mSq]at s;rw[s];show h y t
 .rw[fV,aM,Ak,An l]
def MI.pushB(m:MI lt a b out ia ib)(sb:As lt<|b9 b)(n:b[ib]?=aB x)(h:∀y∈a.toList.drop ia,lt y x=f_):MI lt a b (m7 out x) ia<|ib+1:=by
 have hi:=(bJ.mp n).1;have l:(b9 b)[ib]?=aB x:=by rw[aG];show n
 show(m.moreB sb hi λz s y t=>?_).congr ?_;.rw[An l,mSq]at s;rw[s];show h y t
 .rw[fV,aM,Ak,An l]
structure Wk (lt:kT->kT->Bool)(a b r:Array kT):Prop where
 pm:r.toList.Perm<|a.toList++b.toList
 so:As lt r.toList
def zl(a:Array kT)i:b9 (c9 a i a.size)=a.toList.drop i:=by rw[ig];show dk<|by rw[aR];show ag _
def MI.endB(m:MI lt a b out ia ib)(sa:As lt<|b9 a)(e:ib=b.size):Wk lt a b<|out++c9 a ia a.size++c9 b ib b.size:=by
 have l:b.toList.drop ib=[]:=by rw[e,←aJ,bT]
 have n:b9 (out++c9 a ia a.size++c9 b ib b.size)=b9 out++a.toList.drop ia:=by rw[aM,aM,zl,zl,l,aNq]
 have pm:=m.pm;rw[l,aNq]at pm;show(by rw[n];show pm,by rw[n];show e9 aZ (m.so,sa.sublist<|cH _ _,m.ua))
def MI.endA(m:MI lt a b out ia ib)(sb:As lt<|b9 b)(e:ia=a.size):Wk lt a b<|out++c9 a ia a.size++c9 b ib b.size:=by
 have l:a.toList.drop ia=[]:=by rw[e,←aJ,bT]
 have n:b9 (out++c9 a ia a.size++c9 b ib b.size)=b9 out++b.toList.drop ib:=by simp only[aM,aM,zl,zl,l,aNq]
 have pm:=m.pm;rw[l]at pm;show(by rw[n];show pm,by rw[n];show e9 aZ (m.so,sb.sublist<|cH _ _,m.ub))
def MI.lastA(m:MI lt a b out ia ib)(sa:As lt<|b9 a)(sb:As lt<|b9 b)(h:∀x∈b.toList.drop ib,∀y∈a.toList.drop ia,lt y x=f_):Wk lt a b<|out++c9 b ib b.size++c9 a ia a.size:=by
 have n:b9 (out++c9 b ib b.size++c9 a ia a.size)=b9 out++(b.toList.drop ib++a.toList.drop ia):=by rw[aM,aM,zl,zl,af]
 show(?_,?_);.rw[n];show(m9 (aF.append_left _ ay)) m.pm
 .rw[n];show e9 aZ (m.so,e9 aZ (sb.sublist<|cH _ _,sa.sublist<|cH _ _,h),λx s y l=>?_);obtain l|l:=mAq.mp l;.show m.ub x s y l
  .show m.ua x s y l
noncomputable def Kt:Array kT->Array kT->StateT SortSt Sem (Array kT):=sortPriv% PySem.Builtin.mergeLo
noncomputable def vi:Nat->StateT SortSt Sem Unit:=sortPriv% PySem.Builtin.setMinGallop
noncomputable abbrev sg(st:SortSt)(g:Nat):SortSt:=tM (kindOf st) (lD st) (mG st) g<|failedOf st
section
variable (a b:Array kT)
noncomputable abbrev dn(o:Array kT)(i j:Nat):=o++c9 a i a.size++c9 b j b.size
noncomputable abbrev lA(o:Array kT)(i j:Nat):=o++c9 b j b.size++c9 a i a.size
abbrev SF(α:Type):=ForInStep<|Option (Array kT)×Array kT×Nat×Nat×α
noncomputable def loC(o:Array kT)(i j m k l:Nat):StateT SortSt Sem<|SF<|Nat×Nat×Nat:=do
 let x ←mh a i
 if i+1+1 == a.size then pure (ka %[aB<|lA a b (m7 o x) (i+1) j|%[m7 o x|%[i+1|%[j|%[m|%[k|l]]]]]])
 else if decide (k<7) && decide (l<7)then pure (ka %[n_|%[m7 o x|%[i+1|%[j|%[m|%[k|l]]]]]])
 else pure (k6 %[n_|%[m7 o x|%[i+1|%[j|%[m|%[k|l]]]]]])
def loB(o:Array kT)(i j m k q:Nat):StateT SortSt Sem<|SF<|Nat×Nat×Nat:=do
 let x ←mh b j
 if j+1 == b.size then pure (ka %[aB<|dn a b (m7 o x) i<|j+1|%[m7 o x|%[i|%[j+1|%[m|%[k|q]]]]]])
 else do
  let y ←mh a i
  match ←yx t_ y b (j+1) (b.size-(j+1)) 0 with
  |aB l=>
   if l>0 then
    if j+1+l == b.size then pure (ka %[aB<|dn a b (m7 o x++c9 b (j+1) (j+1+l)) i<|j+1+l|%[m7 o x++c9 b (j+1) (j+1+l)|%[i|%[j+1+l|%[m|%[k|l]]]]]])
    else loC a b (m7 o x++c9 b (j+1) (j+1+l)) i (j+1+l) m k l
   else loC a b (m7 o x) i (j+1) m k l
  |_=>pure (ka %[aB<|dn a b (m7 o x) i<|j+1|%[m7 o x|%[i|%[j+1|%[m|%[k|q]]]]]])
def loA(o:Array kT)(i j m p q:Nat):StateT SortSt Sem<|SF<|Nat×Nat×Nat:=do
 vi m
 let x ←mh b j
 match ←yx f_ x a i (a.size-i) 0 with
 |aB k=>
  if k>0 then
   if i+k+1 == a.size then pure (ka %[aB<|lA a b (o++c9 a i (i+k)) (i+k) j|%[o++c9 a i (i+k)|%[i+k|%[j|%[m|%[k|q]]]]]])
   else if i+k == a.size then pure (ka %[aB<|dn a b (o++c9 a i (i+k)) (i+k) j|%[o++c9 a i (i+k)|%[i+k|%[j|%[m|%[k|q]]]]]])
   else loB a b (o++c9 a i (i+k)) (i+k) j m k q
  else loB a b o i j m k q
 |_=>pure (ka %[aB<|dn a b o i j|%[o|%[i|%[j|%[m|%[p|q]]]]]])
noncomputable def lo1(m:Nat)(o:Array kT)(i j p q:Nat):StateT SortSt Sem<|SF<|Nat×Nat:=do
 let y ←mh b j
 let x ←mh a i
 match ←lt' y x with
 |aB c=>
  if c then do
   let z ←mh b j
   if j+1 == b.size then pure (ka %[aB<|dn a b (m7 o z) i<|j+1|%[m7 o z|%[i|%[j+1|%[0|q+1]]]]])
   else if q+1 ≥ m then pure (ka %[n_|%[m7 o z|%[i|%[j+1|%[0|q+1]]]]])
   else pure (k6 %[n_|%[m7 o z|%[i|%[j+1|%[0|q+1]]]]])
  else do
   let z ←mh a i
   if i+1+1 == a.size then pure (ka %[aB<|lA a b (m7 o z) (i+1) j|%[m7 o z|%[i+1|%[j|%[p+1|0]]]]])
   else if p+1 ≥ m then pure (ka %[n_|%[m7 o z|%[i+1|%[j|%[p+1|0]]]]])
   else pure (k6 %[n_|%[m7 o z|%[i+1|%[j|%[p+1|0]]]]])
 |_=>pure (ka %[aB<|dn a b o i j|%[o|%[i|%[j|%[p|q]]]]])
noncomputable def lo0(o:Array kT)(i j m:Nat):StateT SortSt Sem<|SF Nat:=do
 let r ←forIn [0:a.size+b.size] %[n_|%[o|%[i|%[j|%[0|0]]]]] λQ s=>lo1 a b m s.2.1 s.2.2.1 s.2.2.2.1 s.2.2.2.2.1 s.2.2.2.2.2
 i9 (λQ=>StateT SortSt Sem<|SF Nat) r.1 (λv=>pure<|ka %[aB v|%[r.2.1|%[r.2.2.1|%[r.2.2.2.1|m]]]]) λQ=>do
  rule "list.sort.gallop"
  let r ←forIn [0:a.size+b.size] %[n_|%[r.2.1|%[r.2.2.1|%[r.2.2.2.1|%[m+1|%[r.2.2.2.2.1|r.2.2.2.2.2]]]]]] λQ s=>if s.2.2.2.2.1>1 then loA a b s.2.1 s.2.2.1 s.2.2.2.1 (s.2.2.2.2.1-1) s.2.2.2.2.2.1 s.2.2.2.2.2.2 else loA a b s.2.1 s.2.2.1 s.2.2.2.1 s.2.2.2.2.1 s.2.2.2.2.2.1 s.2.2.2.2.2.2
  i9 (λQ=>StateT SortSt Sem<|SF Nat) r.1 (λv=>pure<|ka %[aB v|%[r.2.1|%[r.2.2.1|%[r.2.2.2.1|r.2.2.2.2.1]]]]) λQ=>do
   vi (r.2.2.2.2.1+1)
   pure (k6 %[n_|%[r.2.1|%[r.2.2.1|%[r.2.2.2.1|r.2.2.2.2.1+1]]]])
end
section
def AH{st}(h:Q ()<|sg st g):wpS (kZ prog w) A E s (vi g) Q st:=by show mJ h
def zQ{st}(h:Q () st):wpS (kZ prog w) A E s (liftM<|rule x:StateT SortSt Sem Unit) Q st:=wpS_lift<|wpAny_rule (rfl,h)
def E9(C:BQ prog w A s κ P lt){a:Array kT}(ha:∀x,x∈a->P x)(sa:As lt<|b9 a)(t:a[i]?=aB x):∀y∈a.toList.drop i,lt y x=f_:=by
 have(hi,e):=bJ.mp t;have l:=by show hi
 have u:(b9 a)[i]=x:=by show e
 have sd:As lt<|a.toList.drop i:=sa.sublist<|cH _ _;rw[az l,u]at sd ⊢;intro y n;obtain rfl|n:=ae.mp n;.show C.refl<|ha _<|by rw[←e];show bq hi
 .show(cW.mp sd).1 y n
def yk{a:Array kT}(h:y∈a.toList.drop i):y∈a:=by simpa using bN h
def DC(C:BQ prog w A s κ P lt)(hb:base+n<=arr.size)(ha:∀x,x∈arr->P x)(l:P key)(so:As lt<|arr.toList.drop base) :
  ∀i j,i<=j->j<n->Ag lt left key arr base j=t_->Ag lt left key arr base i=t_:=by
 intro i j z L h;have t:base+i<arr.size:=by lia
 have u:base+j<arr.size:=by lia
 have H:jz arr (base+i) key=arr[base+i]:=by simp[jz,t]
 have I:jz arr (base+j) key=arr[base+j]:=by simp[jz,u]
 have B:=ha _<|bq t;have G:=ha _<|bq u;have le:lt arr[base+j] arr[base+i]=f_:=by
  obtain q|q:=gC z;.have:=dE.mp so i j (by simp;lia) (by simp;lia) q;simpa using this
  .subst q;show C.refl B
 delta Ag at h ⊢;rw[H];rw[I]at h;cases left with
 |true=>rw[pZ rfl]at h ⊢;cases q:lt arr[base+i] key with
  |true=>rfl
  |false=>have:=pG C key arr[base+i] arr[base+j] l B G q le;rw[h]at this;cases this
 |false=>
  have J:=by simpa using h
  have:=pG C arr[base+i] arr[base+j] key B G l le J;simp[this]
def vQ(l:arr[base+i]?=aB x):Ag lt left key arr base i=if left then lt x key else !lt key x:=by
 have(hi,e):=bJ.mp l;delta Ag;have n:jz arr (base+i) key=x:=by simp[jz,hi,e]
 rw[n]
def yT{a:Array kT}(h:x∈(a.toList.drop i).take k):∃j,j<k/\a[i+j]?=aB x:=by
 have(j,l,e):=cX.mp h;rw[lTq]at l;show(j,by lia,?_);rw[bJ];have n:i+j<a.size:=by rw[aR,aJ]at l;lia
 show(n,by simpa using e)
def By{a:Array kT}(h:x∈a.toList.drop i):∃j,i+j<a.size/\a[i+j]?=aB x:=by
 have(j,n,e):=cX.mp h;rw[aR,aJ]at n;have l:i+j<a.size:=by lia
 show(j,l,?_);rw[bJ];show(l,by simpa using e)
inductive Lp {ρ τ ι σ:Type}(t:ι->τ)(v:ι->σ)(J K:ι->Prop)(R:ρ->σ->Prop):ForInStep (Option ρ×τ)->σ->Prop
 |y (x):J x->Lp t v J K R (.yield %[n_|t x]) (v x)
 |d (x):K x->Lp t v J K R (.done %[n_|t x]) (v x)
 |r (a y st):R a st->Lp t v J K R (.done %[aB a|y]) st
def zj{M}t v(J:Nat->ι->Prop)K R{f}{k:Option ρ×τ->StateT σ Sem β}{Q}
  x (h:J 0 x) (step:∀i x,J i x->wpS M A E s (f i %[n_|t x]) (Lp t v (J<|i+1) K R) (v x)) (fin:∀x,J n x->K x) (pn:∀x,K x->wpS M A E s (k %[n_|t x]) Q (v x)) (ps:∀r y st,R r st->wpS M A E s (k %[aB r|y]) Q st) :
  wpS M A E s (forIn [0:n] %[n_|t x] f >>= k) Q<|v x:=by
 show kX<|lV (lN (I:=λi c st=>∃x,c=%[n_|t x]/\st=v x/\J i x) (Q:=λc st=>Lp t v K K R (ka c) st) ?_ ?_ (x,rfl,rfl,h)) ?_;.rintro i c st _ _ ⟨x,rfl,rfl,h⟩;show lV (step i x h) λr l hr=>?_;cases hr with
  |y x h=>show(x,rfl,rfl,h)
  |d x h=>show .d x h
  |r a y st h=>show .r a y _ h
 .rintro c st ⟨x,rfl,rfl,h⟩;show .d x<|fin x h
 .rintro c st h;cases h with
  |d x h=>show pn x h
  |r a y st h=>show ps a y _ h
structure Ls where
 o:Array kT
 (i j m p q g:Nat)
structure ML (lt:kT->kT->Bool)(a b:Array kT)(n:Nat)(x:Ls):Prop where
 m:MI lt a b x.o x.i x.j
 p:x.i+1<a.size
 q:x.j<b.size
 r:n<=x.i+x.j
structure Lo (prog:lu)(w:lB)(A:Around)(s:kS)(κ:lY)(P:kT->Prop)(lt:kT->kT->Bool)(a b:Array kT)(st:SortSt)(Q:Array kT->SortSt->Prop):Prop where
 C:BQ prog w A s κ P lt
 ha:∀x,x∈a->P x
 hb:∀x,x∈b->P x
 hk:kindOf st=κ
 sa:As lt a.toList
 sb:As lt b.toList
 h:∀r g,Wk lt a b r->Q r (sg st g)
noncomputable abbrev L6(x:Ls):=%[x.o|%[x.i|%[x.j|%[x.m|%[x.p|x.q]]]]]
noncomputable abbrev L5(x:Ls):=%[x.o|%[x.i|%[x.j|%[x.p|x.q]]]]
noncomputable abbrev L4(x:Ls):=%[x.o|%[x.i|%[x.j|x.m]]]
variable {st:SortSt}
abbrev Hl(lt:kT->kT->Bool)(a b:Array kT):=∀i,i+1=a.size->∀x∈b9 b,∀y∈a.toList.drop i,lt y x=f_
def So(H:Lo prog w A s κ P lt a b st Q)(hl:Hl lt a b)(q:ML lt a b n x)(hi:∀z,a[x.i]?=aB z->∀y∈b.toList.drop x.j,lt y z=f_) :
  wpS (kZ prog w) A E s (loC a b x.o x.i x.j x.m x.p x.q) (Lp L6 (λx=>sg st x.g) (ML lt a b n) (ML lt a b n) Q)<|sg st x.g:=by
 have G:=q.p;have l:a[x.i]?=aB a[x.i]:=aj<|by rfl'
 show kX<|qG l ?_;have u:=q.m.pushA H.sa l<|hi _ l;by_cases t:x.i+1+1=a.size;.rw[pZ<|by simp[t]];show kY<|.r _ _ _<|H.h _ _<|u.lastA H.sa H.sb λy B=>hl _ t y<|bN B
 rw[pW<|by simpa using t];have R:ML lt a b n (_,_,_,x.m,x.p,x.q,x.g):=(u,by lia,q.q,by have:=q.r;dsimp only;lia);split;.show kY<|.d _ R
 .show kY<|.y _ R
def Tf(H:Lo prog w A s κ P lt a b st Q)(hl:Hl lt a b)(q:ML lt a b n x)(hi:∀z,b[x.j]?=aB z->∀y∈a.toList.drop x.i,lt y z=f_) :
  wpS (kZ prog w) A E s (loB a b x.o x.i x.j x.m x.p x.q) (Lp L6 (λx=>sg st x.g) (ML lt a b n) (ML lt a b n) Q)<|sg st x.g:=by
 have R:=q.p;have p2:=q.q;have p3:=q.r;have G:b[x.j]?=aB b[x.j]:=aj p2;show kX<|qG G ?_;have I:=q.m.pushB H.sb G<|hi _ G;by_cases J:x.j+1=b.size;.rw[pZ<|by simp[J]];show kY<|.r _ _ _<|H.h _ _<|I.endB H.sa J
 rw[pW<|by simpa using J];have L:a[x.i]?=aB a[x.i]:=aj ∅;have u:=H.ha _<|bq<|show x.i<a.size by lia
 show kX<|qG L<|kX<|wA H.C (base:=x.j+1) (n:=b.size-(x.j+1)) ∅ ∅ H.hb u H.hk (DC H.C ∅ H.hb u<|H.sb.sublist<|cH _ _) λl l1 l2 l3=>?_;have S:∀z,a[x.i]?=aB z->∀y∈b.toList.drop (x.j+1+l),lt y z=f_:=λz U y B=>by have(M,t,ey):=By B;have q:=l3 (l+M) (by rfl') ∅;rw[vQ<|by rw[←gV];show ey,pZ rfl]at q;rw[L]at U;cases U;show q
 dsimp only;by_cases cl:l>0
 .rw[pZ cl];have X:=I.moreB H.sb (k:=l) ∅ λx Y y B=>by have(M,t,ex):=yT Y;have q:=l2 M t;rw[vQ ex,pZ rfl]at q;have px:=H.hb x<|cj Y |> yk;show pG H.C _ _ _ px u (H.ha _<|yk B) (H.C.asym _ _ px u q)<|E9 H.C H.ha H.sa L y B
  by_cases O:x.j+1+l=b.size;.rw[pZ<|by simp[O]];show kY<|.r _ _ _<|H.h _ _<|X.endB H.sa O
  rw[pW<|by simpa using O];show So H hl (x:=(_,_,_,_,_,_,x.g)) (X,R,by dsimp only;lia,by dsimp only;lia) S
 .rw[pW cl];show So H hl (x:=(_,_,_,_,_,_,x.g)) (I,R,by lia,by rfl')<|by rw[show x.j+1=x.j+1+l by lia];show S
def Vx(H:Lo prog w A s κ P lt a b st Q)(hl:Hl lt a b)(q:ML lt a b n x) :
  wpS (kZ prog w) A E s (loA a b x.o x.i x.j x.m x.p x.q) (Lp L6 (λx=>sg st x.g) (ML lt a b n) (ML lt a b n) Q)<|sg st x.g:=by
 have U:=q.p;have u:=q.q;have X:=q.r;have I:b[x.j]?=aB b[x.j]:=aj u;have B:=H.hb _<|bq u;show kX<|AH<|kX<|qG I<|kX<|wA H.C (base:=x.i) (n:=a.size-x.i) ∅ ∅ H.ha B H.hk (DC H.C ∅ H.ha B<|H.sa.sublist<|cH _ _) λk k1 Y k3=>?_;have R:∀z,b[x.j]?=aB z->∀y∈a.toList.drop (x.i+k),lt y z=f_:=λz S y l=>by have(J,t,ey):=By l;have q:=k3 (k+J) (by rfl') ∅;rw[vQ<|by rw[←gV];show ey,pW ⋯]at q;rw[I]at S;cases S;show H.C.asym _ _ B (H.ha _<|yk l)<|by simpa using q
 dsimp only;by_cases ck:k>0
 .rw[pZ ck];have L:=q.m.moreA H.sa (k:=k) ∅ λx G y l=>by have(J,t,ex):=yT G;have q:=Y J t;rw[vQ ex,pW ⋯]at q;show pG H.C _ _ _ (H.ha x<|cj G |> yk) B (H.hb _<|yk l) (by simpa using q)<|E9 H.C H.hb H.sb I y l
  by_cases M:x.i+k+1=a.size;.rw[pZ<|by simp[M]];show kY<|.r _ _ _<|H.h _ x.m<|L.lastA H.sa H.sb λx G=>hl _ M x<|bN G
  rw[pW<|by simpa using M];by_cases O:x.i+k=a.size;.rw[pZ<|by simp[O]];show kY<|.r _ _ _<|H.h _ x.m<|L.endA H.sb O
  rw[pW<|by simpa using O];show Tf H hl (x:=(_,_,_,_,_,_,x.m)) (L,by dsimp only;lia,u,by dsimp only;lia) R
 .rw[pW ck];show Tf H hl (x:=(_,_,_,_,_,_,x.m)) (q.m,U,u,X)<|by rw[show x.i=x.i+k by lia];show R
def abG(H:Lo prog w A s κ P lt a b st Q)(hl:Hl lt a b)(q:ML lt a b (n+j) x) :
  wpS (kZ prog w) A E s (lo1 a b m x.o x.i x.j x.p x.q) (Lp L5 (λx=>sg st x.g) (ML lt a b<|n+(j+1)) (ML lt a b<|n+1) Q)<|sg st x.g:=by
 have M:=q.p;have L:=q.q;have S:=q.r;have B:a[x.i]?=aB a[x.i]:=aj ∅;have G:b[x.j]?=aB b[x.j]:=aj L;have I:=H.ha _<|bq<|show x.i<a.size by lia
 have J:=H.hb _<|bq L;show kX<|qG G<|kX<|qG B<|kX<|H.C.cmp J I H.hk ?_;cases e:lt b[x.j] a[x.i]with
 |true=>
  dsimp only;rw[pZ rfl];show kX<|qG G ?_;have t:=q.m.pushB H.sb G λz u=>pG H.C _ _ _ J I (H.ha _<|yk u) (H.C.asym _ _ J I e)<|E9 H.C H.ha H.sa B z u;by_cases l:x.j+1=b.size;.rw[pZ<|by simp[l]];show kY<|.r _ _ _<|H.h _ _<|t.endB H.sa l
  rw[pW<|by simpa using l];have R:∀n,n<=x.i+(x.j+1)->ML lt a b n (_,_,_,0,0,x.q+1,x.g):=λn hn=>(t,M,by lia,hn);split;.show kY<|.d _<|R _ ∅
  .show kY<|.y _<|R _<|by rfl'
 |false=>
  show kX<|qG B ?_;have t:=q.m.pushA H.sa B λz u=>pG H.C _ _ _ I J (H.hb _<|yk u) e<|E9 H.C H.hb H.sb G z u;by_cases l:x.i+1+1=a.size;.rw[pZ<|by simp[l]];show kY<|.r _ _ _<|H.h _ _<|t.lastA H.sa H.sb λx O=>hl _ l x<|bN O
  rw[pW<|by simpa using l];have R:∀n,n<=x.i+1+x.j->ML lt a b n (_,_,_,0,x.p+1,0,x.g):=λn hn=>(t,by lia,L,hn);split;.show kY<|.d _<|R _ ∅
  .show kY<|.y _<|R _<|by simp +arith[*]
def abq(H:Lo prog w A s κ P lt a b st Q)(hl:Hl lt a b)(q:ML lt a b n x) :
  wpS (kZ prog w) A E s (lo0 a b x.o x.i x.j x.m) (Lp L4 (λx=>sg st x.g) (ML lt a b<|n+1) (λZ=>False) Q)<|sg st x.g:=by
 show zj L5 (λx=>sg st x.g) (λj=>ML lt a b<|n+j) (ML lt a b<|n+1) Q (x.o,x.i,x.j,0,0,0,x.g) (q.m,q.p,q.q,q.r) (λj x q=>abG H hl q) (λy h=>(h.m,h.p,h.q,by have:=h.r;have:=h.p;have:=h.q;lia)) (λy q=>?_) λr y l hr=>kY<|.r _ _ _ hr;show kX<|zQ ?_;show zj L6 (λx=>sg st x.g) (λZ=>ML lt a b<|n+1) (ML lt a b<|n+1) Q (y.o,y.i,y.j,x.m+1,y.p,y.q,y.g) (q.m,q.p,q.q,q.r) (λj z q=>?_) (λZ h=>h) (λz q=>?_) λr y l hr=>kY<|.r _ _ _ hr
 .skip;split;.show Vx H hl (x:=(_,_,_,z.m-1,_,_,z.g)) (q.m,q.p,q.q,q.r)
  .show Vx H hl q
 .show kX<|AH<|kY ?_;show Lp.y (t:=L4) (_,_,_,z.m+1,0,0,z.m+1) (q.m,q.p,q.q,q.r)
def Kn(C:BQ prog w A s κ P lt)(ha:∀x,x∈a->P x)(hb:∀x,x∈b->P x)(hk:kindOf st=κ)(sa:As lt<|b9 a)(sb:As lt<|b9 b)
  (L:0<a.size) (nb:0<b.size) (B:∀x,b[0]?=aB x->∀y∈b9 a,lt y x=f_) (hl:∀i,i+1=a.size->∀x∈b9 b,∀y∈a.toList.drop i,lt y x=f_)
  (h:∀r g,Wk lt a b r->Q r (sg st g)):wpS (kZ prog w) A E s (Kt a b) Q st:=by
 show kX<|zQ ?_;have l:=aj nb;show kX<|qG l ?_;have G:MI lt a b #[] 0 0:=(aY _,aY _,by rfl,by simp[As],by simp,by simp);have t:=G.pushB sb l λy H=>B _ l y<|by show H
 by_cases u:1=b.size;.rw[pZ<|by simp[←u]];show kY<|h _ (nJ st)<|t.endB sa u
 rw[pW<|by simpa using u];by_cases z:0+1=a.size;.rw[pZ<|by simp[←z]];show kY<|h _ (nJ st)<|t.lastA sa sb λx I=>hl 0 z x<|bN I
 rw[pW<|by simpa using z];show kX<|mN ?_;show zj L4 (λx=>sg st x.g) (λi=>ML lt a b<|i+1) (λZ=>False) Q (_,0,1,_,0,0,nJ st) (t,by lia,by lia,by rfl') (λi x q=>abq (C,ha,hb,hk,sa,sb,h) hl q) (λx h=>by have:=h.p;have:=h.q;have:=h.r;lia) (λx h=>j5 h) λr y J hr=>kY hr
end
structure MH (lt:kT->kT->Bool)(a b out:Array kT)(na nb:Nat):Prop where
 la:na<=a.size
 lb:nb<=b.size
 pm:((a.toList.take na++b.toList.take nb)++out.toList.reverse).Perm<|a.toList++b.toList
 so:As lt out.toList.reverse
 ua:∀x∈a.toList.take na,∀y∈out.toList,lt y x=f_
 ub:∀x∈b.toList.take nb,∀y∈out.toList,lt y x=f_
def MH.congr(m:MH lt a b out na nb)(e:b9 out'=b9 out):MH lt a b out' na nb:=(m.la,m.lb,by rw[e];show m.pm,by rw[e];show m.so,by rw[e];show m.ua,by rw[e];show m.ub)
def Dl(l:List kT)k n(h:k<=n):l.take n=l.take k++(l.take n).drop k:=by
 have e:(l.take n).take k=l.take k:=by rw[kf,eO h]
 rw[←e,aV]
def tm(a:Array kT)k n:b9 (c9 a k n)=(a.toList.take n).drop k:=by rw[ig,List.drop_take]
def DD(a:Array kT)n:b9 (c9 a 0 n)=a.toList.take n:=by rw[tm,iC]
def MH.moreA(m:MH lt a b out na nb)(sa:As lt a.toList)(hk:k<=na)(h:∀x∈b.toList.take nb,∀y∈(a.toList.take na).drop k,lt y x=f_):MH lt a b (out++(a.extract k na).reverse) k nb:=by
 have e:(out++(a.extract k na).reverse).toList=out.toList++((a.toList.take na).drop k).reverse:=by rw[aM,dR,tm]
 have t:(out++(a.extract k na).reverse).toList.reverse=(a.toList.take na).drop k++out.toList.reverse:=by rw[e,bU,ju]
 have c:=Dl a.toList k na hk;have sd:As lt<|a.toList.take na:=sa.sublist<|bV _ _;have s:=sd;rw[c]at s;have(B,u,z):=aZ.mp s;have sub:∀y,y∈(a.toList.take na).drop k->y∈a.toList.take na:=λy l=>bN l;show(bI hk m.la,m.lb,?_,?_,?_,?_)
 .rw[t];show aF.trans ?_ m.pm;rw[←af];show aF.append_right _ ?_;conv=>rhs;rw[c]
  rw[af,af];show aF.append_left _ ay
 .rw[t];show aZ.mpr (u,m.so,λx n y l=>m.ua x (sub x n) y<|bB.mp l)
 .rw[e];intro x n y l;obtain l|l:=mAq.mp l;.show m.ua x (by rw[c];show ai _ n) y l
  .show z x n y<|bB.mp l
 .rw[e];intro x n y l;obtain l|l:=mAq.mp l;.show m.ub x n y l
  .show h x n y<|bB.mp l
def MH.moreB(m:MH lt a b out na nb)(sb:As lt b.toList)(hk:k<=nb)(h:∀x∈a.toList.take na,∀y∈(b.toList.take nb).drop k,lt y x=f_):MH lt a b (out++(b.extract k nb).reverse) na k:=by
 have e:(out++(b.extract k nb).reverse).toList=out.toList++((b.toList.take nb).drop k).reverse:=by rw[aM,dR,tm]
 have t:(out++(b.extract k nb).reverse).toList.reverse=(b.toList.take nb).drop k++out.toList.reverse:=by rw[e,bU,ju]
 have c:=Dl b.toList k nb hk;have sd:As lt<|b.toList.take nb:=sb.sublist<|bV _ _;have s:=sd;rw[c]at s;have(B,u,z):=aZ.mp s;have sub:∀y,y∈(b.toList.take nb).drop k->y∈b.toList.take nb:=λy l=>bN l;show(m.la,bI hk m.lb,?_,?_,?_,?_)
 .rw[t];show aF.trans ?_ m.pm;rw[←af];show aF.append_right _ ?_;conv=>rhs;rw[c]
  rw[af]
 .rw[t];show aZ.mpr (u,m.so,λx n y l=>m.ub x (sub x n) y<|bB.mp l)
 .rw[e];intro x n y l;obtain l|l:=mAq.mp l;.show m.ua x n y l
  .show h x n y<|bB.mp l
 .rw[e];intro x n y l;obtain l|l:=mAq.mp l;.show m.ub x (by rw[c];show ai _ n) y l
  .show z x n y<|bB.mp l
def Aj{l:List kT}(h:l[i]?=aB x):(l.take<|i+1).drop i=[x]:=by
 rw[eV,h,List.drop_append];have hl:de (l.take i)=i:=by have:=(gSq.mp h).1;rw[lTq];lia
 rw[gP<|by rfl',hl,cZ];rfl
def MH.pushA(m:MH lt a b out (na+1) nb)(sa:As lt<|b9 a)(s:a[na]?=aB x)(h:∀y∈b.toList.take nb,lt x y=f_):MH lt a b (m7 out x) na nb:=by
 have l:(b9 a)[na]?=aB x:=by rw[aG];show s
 show(m.moreA sa (cO _) λz t y n=>?_).congr ?_;.rw[Aj l,mSq]at n;rw[n];show h z t
 .simp only[fV,aM,dR,tm,Aj l];rfl
def MH.pushB(m:MH lt a b out na<|nb+1)(sb:As lt<|b9 b)(s:b[nb]?=aB x)(h:∀y∈a.toList.take na,lt x y=f_):MH lt a b (m7 out x) na nb:=by
 have l:(b9 b)[nb]?=aB x:=by rw[aG];show s
 show(m.moreB sb (cO _) λz t y n=>?_).congr ?_;.rw[Aj l,mSq]at n;rw[n];show h z t
 .simp only[fV,aM,dR,tm,Aj l];rfl
def MH.end(m:MH lt a b out na nb)(sa:As lt<|b9 a)(sb:As lt<|b9 b)(e:na=0∨nb=0):Wk lt a b<|c9 a 0 na++c9 b 0 nb++o6 out:=by
 have n:b9 (c9 a 0 na++c9 b 0 nb++o6 out)=(a.toList.take na++b.toList.take nb)++dw (b9 out):=by simp only[aM,aM,DD,DD,dR]
 show(by rw[n];show m.pm,?_);rw[n];show e9 aZ (?_,m.so,λx l y s=>?_)
 .obtain rfl|rfl:=e;.show sb.sublist<|bV _ _
  .rw[List.take_zero,aNq];show sa.sublist<|bV _ _
 .obtain l|l:=mAq.mp l;.show m.ua x l y<|bB.mp s
  .show m.ub x l y<|bB.mp s
def MH.firstB(m:MH lt a b out na nb)(sa:As lt<|b9 a)(sb:As lt<|b9 b)(h:∀x∈b.toList.take nb,∀y∈a.toList.take na,lt y x=f_):Wk lt a b<|c9 b 0 nb++c9 a 0 na++o6 out:=by
 have n:b9 (c9 b 0 nb++c9 a 0 na++o6 out)=(b.toList.take nb++a.toList.take na)++dw (b9 out):=by simp only[aM,aM,DD,DD,dR]
 show(?_,?_);.rw[n];show(m9 (aF.append_right _ ay)) m.pm
 .rw[n];show e9 aZ (e9 aZ (sb.sublist<|bV _ _,sa.sublist<|bV _ _,h),m.so,λx l y s=>?_);obtain l|l:=mAq.mp l;.show m.ub x l y<|bB.mp s
  .show m.ua x l y<|bB.mp s
noncomputable def G1:Array kT->Array kT->StateT SortSt Sem (Array kT):=sortPriv% PySem.Builtin.mergeHi
section
variable (a b:Array kT)
noncomputable abbrev dH(o:Array kT)(i j:Nat):=c9 a 0 i++c9 b 0 j++o6 o
noncomputable abbrev fH(o:Array kT)(i j:Nat):=c9 b 0 j++c9 a 0 i++o6 o
abbrev SH(α:Type):=ForInStep<|Option (Array kT)×Nat×Nat×Array kT×α
noncomputable def hiC(o:Array kT)(i j m k l:Nat):StateT SortSt Sem<|SH<|Nat×Nat×Nat:=do
 let x ←mh a (i-1)
 if i-1 == 0 then pure (ka %[aB<|dH a b (m7 o x) (i-1) j|%[i-1|%[j|%[m7 o x|%[m|%[k|l]]]]]])
 else if decide (k<7) && decide (l<7)then pure (ka %[n_|%[i-1|%[j|%[m7 o x|%[m|%[k|l]]]]]])
 else pure (k6 %[n_|%[i-1|%[j|%[m7 o x|%[m|%[k|l]]]]]])
def hiB(o:Array kT)(i j m k q:Nat):StateT SortSt Sem<|SH<|Nat×Nat×Nat:=do
 let x ←mh b (j-1)
 if j-1 == 1 then pure (ka %[aB<|fH a b (m7 o x) i<|j-1|%[i|%[j-1|%[m7 o x|%[m|%[k|q]]]]]])
 else do
  let y ←mh a (i-1)
  match ←yx t_ y b 0 (j-1) (j-1-1)with
  |aB l=>
   if j-1-l>0 then
    if l == 1 then pure (ka %[aB<|fH a b (m7 o x++o6 (c9 b l<|j-1)) i l|%[i|%[l|%[m7 o x++o6 (c9 b l<|j-1)|%[m|%[k|j-1-l]]]]]])
    else if l == 0 then pure (ka %[aB<|dH a b (m7 o x++o6 (c9 b l<|j-1)) i l|%[i|%[l|%[m7 o x++o6 (c9 b l<|j-1)|%[m|%[k|j-1-l]]]]]])
    else hiC a b (m7 o x++o6 (c9 b l<|j-1)) i l m k (j-1-l)
   else hiC a b (m7 o x) i (j-1) m k (j-1-l)
  |_=>pure (ka %[aB<|dH a b (m7 o x) i<|j-1|%[i|%[j-1|%[m7 o x|%[m|%[k|q]]]]]])
def hiA(o:Array kT)(i j m p q:Nat):StateT SortSt Sem<|SH<|Nat×Nat×Nat:=do
 vi m
 let x ←mh b (j-1)
 match ←yx f_ x a 0 i (i-1)with
 |aB k=>
  if i-k>0 then
   if k == 0 then pure (ka %[aB<|dH a b (o++o6 (c9 a k i)) k j|%[k|%[j|%[o++o6 (c9 a k i)|%[m|%[i-k|q]]]]]])
   else hiB a b (o++o6 (c9 a k i)) k j m (i-k) q
  else hiB a b o i j m (i-k) q
 |_=>pure (ka %[aB<|dH a b o i j|%[i|%[j|%[o|%[m|%[p|q]]]]]])
noncomputable def Wp(m:Nat)(o:Array kT)(i j p q:Nat):StateT SortSt Sem<|SH<|Nat×Nat:=do
 let y ←mh b (j-1)
 let x ←mh a (i-1)
 match ←lt' y x with
 |aB c=>
  if c then do
   let z ←mh a (i-1)
   if i-1 == 0 then pure (ka %[aB<|dH a b (m7 o z) (i-1) j|%[i-1|%[j|%[m7 o z|%[p+1|0]]]]])
   else if p+1 ≥ m then pure (ka %[n_|%[i-1|%[j|%[m7 o z|%[p+1|0]]]]])
   else pure (k6 %[n_|%[i-1|%[j|%[m7 o z|%[p+1|0]]]]])
  else do
   let z ←mh b (j-1)
   if j-1 == 1 then pure (ka %[aB<|fH a b (m7 o z) i<|j-1|%[i|%[j-1|%[m7 o z|%[0|q+1]]]]])
   else if q+1 ≥ m then pure (ka %[n_|%[i|%[j-1|%[m7 o z|%[0|q+1]]]]])
   else pure (k6 %[n_|%[i|%[j-1|%[m7 o z|%[0|q+1]]]]])
 |_=>pure (ka %[aB<|dH a b o i j|%[i|%[j|%[o|%[p|q]]]]])
def hi0(o:Array kT)(i j m:Nat):StateT SortSt Sem<|SH Nat:=do
 let r ←forIn [0:a.size+b.size] %[n_|%[i|%[j|%[o|%[0|0]]]]] λQ s=>Wp a b m s.2.2.2.1 s.2.1 s.2.2.1 s.2.2.2.2.1 s.2.2.2.2.2
 i9 (λQ=>StateT SortSt Sem<|SH Nat) r.1 (λv=>pure<|ka %[aB v|%[r.2.1|%[r.2.2.1|%[r.2.2.2.1|m]]]]) λQ=>do
  rule "list.sort.gallop"
  let r ←forIn [0:a.size+b.size] %[n_|%[r.2.1|%[r.2.2.1|%[r.2.2.2.1|%[m+1|%[r.2.2.2.2.1|r.2.2.2.2.2]]]]]] λQ s=>if s.2.2.2.2.1>1 then hiA a b s.2.2.2.1 s.2.1 s.2.2.1 (s.2.2.2.2.1-1) s.2.2.2.2.2.1 s.2.2.2.2.2.2 else hiA a b s.2.2.2.1 s.2.1 s.2.2.1 s.2.2.2.2.1 s.2.2.2.2.2.1 s.2.2.2.2.2.2
  i9 (λQ=>StateT SortSt Sem<|SH Nat) r.1 (λv=>pure<|ka %[aB v|%[r.2.1|%[r.2.2.1|%[r.2.2.2.1|r.2.2.2.2.1]]]]) λQ=>do
   vi (r.2.2.2.2.1+1)
   pure (k6 %[n_|%[r.2.1|%[r.2.2.1|%[r.2.2.2.1|r.2.2.2.2.1+1]]]])
def KR:G1 a b=(do
 rule "list.sort.merge-hi"
 let x ←mh a (a.size-1)
 if a.size-1 == 0 then pure (dH a b #[x] (a.size-1) b.size)
 else if b.size == 1 then pure (fH a b #[x] (a.size-1) b.size)
 else do
  let st ←get
  let r ←forIn [0:a.size+b.size] %[n_|%[a.size-1|%[b.size|%[#[x]|nJ st]]]] λQ s=>hi0 a b s.2.2.2.1 s.2.1 s.2.2.1 s.2.2.2.2
  i9 (λQ=>StateT SortSt Sem<|Array kT) r.1 (λv=>pure v) λQ=>nX "internal:list.sort.merge-bound"):=rfl
end
section
def Fb(C:BQ prog w A s κ P lt){a:Array kT}(ha:∀x,x∈a->P x)(sa:As lt<|b9 a)(t:a[i]?=aB x):∀y∈a.toList.take (i+1),lt x y=f_:=by
 have(hi,e):=bJ.mp t;have n:(b9 a)[i]?=aB x:=by rw[aG];show t
 have sd:As lt<|a.toList.take<|i+1:=sa.sublist<|bV _ _;rw[eV,n]at sd ⊢;intro y l;obtain l|l:=mAq.mp l;.show(aZ.mp sd).2.2 y l x ⋯
 .have:y=x:=by simpa using l
  rw[this];show C.refl<|ha _<|by rw[←e];show bq hi
def yn{a:Array kT}(h:y∈a.toList.take i):y∈a:=by simpa using cj h
def Bh{a:Array kT}(h:x∈a.toList.take n):∃j,j<n/\a[0+j]?=aB x:=by
 have l:=by show h
 show yT l
def yg{a:Array kT}(h:x∈(a.toList.take n).drop k):∃j,k<=j/\j<n/\a[0+j]?=aB x:=by have(j,l,e):=cX.mp h;rw[aR,lTq,aJ]at l;show(k+j,by rfl',by lia,?_);rw[bJ];show(by lia,by simpa using e)
structure MG (lt:kT->kT->Bool)(a b:Array kT)(n:Nat)(x:Ls):Prop where
 m:MH lt a b x.o x.i x.j
 p:0<x.i
 q:1<x.j
 r:x.i+x.j+n<=a.size+b.size
noncomputable abbrev H6(x:Ls):=%[x.i|%[x.j|%[x.o|%[x.m|%[x.p|x.q]]]]]
noncomputable abbrev H5(x:Ls):=%[x.i|%[x.j|%[x.o|%[x.p|x.q]]]]
noncomputable abbrev H4(x:Ls):=%[x.i|%[x.j|%[x.o|x.m]]]
variable {st:SortSt}
abbrev Hf(lt:kT->kT->Bool)(a b:Array kT):=∀x∈b.toList.take 1,∀y∈b9 a,lt y x=f_
def hiF(H:Lo prog w A s κ P lt a b st Q)(hf:Hf lt a b)(m:MH lt a b o i 1):Q (c9 b 0 1++c9 a 0 i++o6 o)<|sg st g:=H.h _ _<|m.firstB H.sa H.sb λx t y z=>hf x t y<|cj z
def Um(H:Lo prog w A s κ P lt a b st Q)(q:MG lt a b n (o,u+1,j,m,k,l,g))(hi:∀z,a[u]?=aB z->∀y∈b.toList.take j,lt z y=f_) :
  wpS (kZ prog w) A E s (hiC a b o (u+1) j m k l) (Lp H6 (λx=>sg st x.g) (MG lt a b n) (MG lt a b n) Q)<|sg st g:=by
 have B:=aj q.m.la;show kX<|qG B ?_;have G:=q.m.pushA H.sa B<|hi _ B;by_cases t:u=0;.rw[pZ<|by simp[t]];show kY<|.r _ _ _<|H.h _ _<|G.end H.sa H.sb<|jE t
 rw[pW<|by simpa using t];have R:MG lt a b n (_,_,_,m,k,l,g):=(G,iF t,q.q,by have:=q.r;dsimp only at *;lia);split;.show kY<|.d _ R
 .show kY<|.y _ R
def U3(H:Lo prog w A s κ P lt a b st Q)(hf:Hf lt a b)(q:MG lt a b n (o,u+1,v+1,m,k,l,g))(hi:∀z,b[v]?=aB z->∀y∈a.toList.take (u+1),lt z y=f_) :
  wpS (kZ prog w) A E s (hiB a b o (u+1) (v+1) m k l) (Lp H6 (λx=>sg st x.g) (MG lt a b n) (MG lt a b n) Q)<|sg st g:=by
 dsimp only[hiB,iw];have la:u<a.size:=q.m.la;have lb:v<b.size:=q.m.lb;have p2:1<v+1:=q.q;have p3:u+1+(v+1)+n<=a.size+b.size:=q.r;have I:b[v]?=aB b[v]:=aj lb;show kX<|qG I ?_;have J:=q.m.pushB H.sb I<|hi _ I;by_cases L:v=1;.rw[pZ<|by simp[L]];subst L;show kY<|.r _ _ _<|hiF H hf J
 rw[pW<|by simpa using L];have M:a[u]?=aB a[u]:=aj la;have G:=H.ha _<|bq la;show kX<|qG M<|kX<|wA H.C (base:=0) (n:=v) ∅ ∅ H.hb G H.hk (DC H.C ∅ H.hb G<|by rw[iC];show H.sb) λl l1 l2 l3=>?_;have hB:∀z,a[u]?=aB z->∀y∈b.toList.take l,lt z y=f_:=λz hz y B=>by have(O,t,R):=Bh B;have q:=l2 O t;rw[vQ R,pZ rfl]at q;rw[M]at hz;cases hz;show H.C.asym _ _ (H.hb _<|yn B) G q
 dsimp only;by_cases cl:v-l>0
 .rw[pZ cl];have S:=J.moreB H.sb (k:=l) l1 λx hx y B=>by have(O,U,t,R):=yg B;have q:=l3 O U t;rw[vQ R,pZ rfl]at q;show pG H.C _ _ _ (H.ha _<|yn hx) G (H.hb y<|bN B |> yn) (Fb H.C H.ha H.sa M x hx) q
  by_cases X:l=1;.rw[pZ<|by simp[X]];subst X;show kY<|.r _ _ _<|hiF H hf S
  rw[pW<|by simpa using X];by_cases Y:l=0;.rw[pZ<|by simp[Y]];show kY<|.r _ _ _<|H.h _ _<|S.end H.sa H.sb<|iq Y
  rw[pW<|by simpa using Y];show Um H (S,q.p,by lia,by lia) hB
 .rw[pW cl];have:l=v:=by lia
  cases this;show Um H (J,q.p,by lia,by lia) hB
def SZ(H:Lo prog w A s κ P lt a b st Q)(hf:Hf lt a b)(q:MG lt a b n x) :
  wpS (kZ prog w) A E s (hiA a b x.o x.i x.j x.m x.p x.q) (Lp H6 (λx=>sg st x.g) (MG lt a b n) (MG lt a b n) Q)<|sg st x.g:=by
 have(o,i,j,m,p,q',g):=x;have la:i<=a.size:=q.m.la;have p1:0<i:=q.p;have R:1<j:=q.q;have p3:i+j+n<=a.size+b.size:=q.r;obtain⟨v,rfl⟩:∃v,j=v+1:=(j-1,by lia);have lb:v<b.size:=q.m.lb;dsimp only[hiA,iw];have I:b[v]?=aB b[v]:=aj lb;have B:=H.hb _<|bq lb;show kX<|AH<|kX<|qG I<|kX<|wA H.C (base:=0) (n:=i) ∅ ∅ H.ha B H.hk (DC H.C ∅ H.ha B<|by rw[iC];show H.sa) λk k1 k2 k3=>?_;have S:∀z,b[v]?=aB z->∀y∈a.toList.take k,lt z y=f_:=λz U y G=>by have(J,t,L):=Bh G;have q:=k2 J t;rw[vQ L,pW ⋯]at q;rw[I]at U;cases U;simpa using q
 dsimp only;by_cases ck:i-k>0
 .rw[pZ ck];have X:=q.m.moreA H.sa (k:=k) k1 λx Y y G=>by have(J,M,t,L):=yg G;have q:=k3 J M t;rw[vQ L,pW ⋯]at q;have py:=H.ha y<|bN G |> yn;show pG H.C _ _ _ (H.hb _<|yn Y) B py (Fb H.C H.hb H.sb I x Y)<|H.C.asym _ _ B py<|by simpa using q
  by_cases O:k=0;.rw[pZ<|by simp[O]];show kY<|.r _ _ _<|H.h _ m<|X.end H.sa H.sb<|jE O
  rw[pW<|by simpa using O];obtain⟨u,rfl⟩:∃u,k=u+1:=(k-1,by lia);show U3 H hf (g:=m) (X,kB _,R,by dsimp only;lia) S
 .rw[pW ck];have:k=i:=by lia
  subst this;obtain⟨u,rfl⟩:∃u,k=u+1:=(k-1,by lia);show U3 H hf (q.m,p1,R,p3) S
def abI(H:Lo prog w A s κ P lt a b st Q)(hf:Hf lt a b)(q:MG lt a b (n+j) x) :
  wpS (kZ prog w) A E s (Wp a b m x.o x.i x.j x.p x.q) (Lp H5 (λx=>sg st x.g) (MG lt a b<|n+(j+1)) (MG lt a b<|n+1) Q)<|sg st x.g:=by have(o,i,k,U,p,M,g):=x;have O:0<i:=q.p;have S:1<k:=q.q;have X:i+k+(n+j)<=a.size+b.size:=q.r;obtain⟨u,rfl⟩:∃u,i=u+1:=(i-1,by lia);obtain⟨v,rfl⟩:∃v,k=v+1:=(k-1,by lia);have la:u<a.size:=q.m.la;have lb:v<b.size:=q.m.lb;dsimp only[Wp,iw];have G:a[u]?=aB a[u]:=aj la;have I:b[v]?=aB b[v]:=aj lb;have J:=H.ha _<|bq la;have L:=H.hb _<|bq lb;show kX<|qG I<|kX<|qG G<|kX<|H.C.cmp L J H.hk ?_;cases e:lt b[v] a[u]with
 |true=>
  dsimp only;rw[pZ rfl];show kX<|qG G ?_;have z:=q.m.pushA H.sa G λy B=>pG H.C _ _ _ (H.hb _<|yn B) L J (Fb H.C H.hb H.sb I y B)<|H.C.asym _ _ L J e;by_cases t:u=0;.rw[pZ<|by simp[t]];show kY<|.r _ _ _<|H.h _ _<|z.end H.sa H.sb<|jE t
  rw[pW<|by simpa using t];have R:∀n,u+(v+1)+n<=a.size+b.size->MG lt a b n (_,_,_,0,p+1,0,g):=λn hn=>(z,iF t,S,hn);split;.show kY<|.d _<|R _ ∅
  .show kY<|.y _<|R _ ∅
 |false=>
  show kX<|qG I ?_;have z:=q.m.pushB H.sb I λy B=>pG H.C _ _ _ (H.ha _<|yn B) J L (Fb H.C H.ha H.sa G y B) e;by_cases t:v=1;.subst t;show kY<|.r _ _ _<|hiF H hf z
  rw[pW<|by simpa using t];have R:∀n,u+1+v+n<=a.size+b.size->MG lt a b n (_,_,_,0,0,M+1,g):=λn hn=>(z,O,by lia,hn);split;.show kY<|.d _<|R _ ∅
  .show kY<|.y _<|R _ ∅
def aaQ(H:Lo prog w A s κ P lt a b st Q)(hf:Hf lt a b)(q:MG lt a b n x) :
  wpS (kZ prog w) A E s (hi0 a b x.o x.i x.j x.m) (Lp H4 (λx=>sg st x.g) (MG lt a b<|n+1) (λZ=>False) Q)<|sg st x.g:=by
 show zj H5 (λx=>sg st x.g) (λj=>MG lt a b<|n+j) (MG lt a b<|n+1) Q (x.o,x.i,x.j,0,0,0,x.g) (q.m,q.p,q.q,q.r) (λj x q=>abI H hf q) (λy h=>(h.m,h.p,h.q,by have:=h.r;have:=h.p;have:=h.q;lia)) (λy q=>?_) λr y B hr=>kY<|.r _ _ _ hr;show kX<|zQ ?_;show zj H6 (λx=>sg st x.g) (λZ=>MG lt a b<|n+1) (MG lt a b<|n+1) Q (y.o,y.i,y.j,x.m+1,y.p,y.q,y.g) (q.m,q.p,q.q,q.r) (λj z q=>?_) (λZ h=>h) (λz q=>?_) λr y B hr=>kY<|.r _ _ _ hr
 .skip;split;.show SZ H hf (x:=(_,_,_,z.m-1,_,_,z.g)) (q.m,q.p,q.q,q.r)
  .show SZ H hf q
 .show kX<|AH<|kY ?_;show Lp.y (t:=H4) (_,_,_,z.m+1,0,0,z.m+1) (q.m,q.p,q.q,q.r)
def KM(C:BQ prog w A s κ P lt)(ha:∀x,x∈a->P x)(hb:∀x,x∈b->P x)(hk:kindOf st=κ)(sa:As lt<|b9 a)(sb:As lt<|b9 b)
  (L:0<a.size) (M:0<b.size) (J:∀x∈b.toList.take 1,∀y∈b9 a,lt y x=f_) (hl:∀x,a[a.size-1]?=aB x->∀y∈b9 b,lt x y=f_)
  (h:∀r g,Wk lt a b r->Q r (sg st g)):wpS (kZ prog w) A E s (G1 a b) Q st:=by
 have H:Lo prog w A s κ P lt a b st Q:=(C,ha,hb,hk,sa,sb,h);rw[KR];show kX<|zQ ?_;have t:a[a.size-1]?=aB (a[a.size-1]'∅):=aj ∅;show kX<|qG t ?_;have O:MH lt a b #[] (a.size-1+1) b.size:=(by lia,ag _,by rw[show a.size-1+1=de (b9 a) by simp;rfl',bC,←aJ,bC];simp,by simp[As],by simp,by simp);have G:MH lt a b #[a[a.size-1]'∅] (a.size-1) b.size:=O.pushA sa t λy R=>hl _ t y<|cj R;by_cases B:a.size-1=0;.rw[pZ<|by simp[B]];show kY<|h _ (nJ st)<|G.end sa sb<|jE B
 rw[pW<|by simpa using B];by_cases I:b.size=1;.rw[pZ<|by simp[I]];have z:=G;rw[I]at z ⊢;show kY<|hiF H J z
 rw[pW<|by simpa using I];show kX<|mN ?_;show zj H4 (λx=>sg st x.g) (λi=>MG lt a b<|i+1) (λZ=>False) Q (_,a.size-1,b.size,_,0,0,nJ st) (G,iF B,by lia,by lia) (λi x q=>aaQ H J q) (λx h=>by have:=h.q;have:=h.r;lia) (λx h=>j5 h) λr y S hr=>kY hr
end
def Cg(lt:kT->kT->Bool)(xs:Array kT)(i j:Nat):Prop:=∀p q x y,i<=p->p<=q->q<j->xs[p]?=aB x->xs[q]?=aB y->lt y x=f_
def Wr(lt:kT->kT->Bool)(xs:Array kT)(i j:Nat):Prop:=∀p q x y,i<=p->p<=q->q<j->xs[p]?=aB x->xs[q]?=aB y->lt x y=f_
def Eqv(lt:kT->kT->Bool)(xs:Array kT)(i j:Nat):Prop:=∀p q x y,i<=p->p<j->i<=q->q<j->xs[p]?=aB x->xs[q]?=aB y->lt x y=f_
section
variable {lo:Nat}
def NR(l:j<=xs.size)(h:Wr lt xs i j):Cg lt (mirror xs i j<|(j-i) / 2) i j:=by intro p q x y t z u ex s;rw[mP l,pZ (t,by lia)]at ex;rw[mP l,pZ (by lia,u)]at s;show h _ _ _ _ ∅ ∅ ∅ s ex
def CK(z:j<=xs.size)(hi:lo<=i)(hn:j<=n)(e:Eqv lt xs i j)(h:Wr lt xs lo n):Wr lt (mirror xs i j<|(j-i) / 2) lo n:=by
 intro p q x y t B u ex l;rw[mP z]at ex l;by_cases cp:i<=p/\p<j
 .rw[pZ cp]at ex;by_cases s:i<=q/\q<j;.rw[pZ s]at l;show e _ _ _ _ ∅ ∅ ∅ ∅ ex l
  .rw[pW s]at l;show h _ _ _ _ ∅ ∅ u ex l
 .rw[pW cp]at ex;by_cases s:i<=q/\q<j;.simp only[pZ s]at l;show h _ _ _ _ t ∅ ∅ ex l
  .rw[pW s]at l;show h _ _ _ _ t B u ex l
end
section
variable (lo:Nat)
noncomputable def crA(n:Nat):StateT SortSt Sem<|ForInStep<|Option (Option Nat)×Nat:=do
 match ←ltAt' (lo+n) (lo+n-1)with
 |aB c=>if c then pure (ka %[n_|n])else pure (k6 %[n_|n+1])
 |_=>pure (ka %[aB n_|n])
noncomputable def crB(n q:Nat):StateT SortSt Sem<|ForInStep<|Option (Option Nat)×Nat×Nat:=do
 match ←ltAt' (lo+n) (lo+n-1)with
 |aB c=>
  if c then
   if q>0 then do
    let _ ←mZ (lo+n-(q+1)) (lo+n)
    pure (k6 %[n_|%[n+1|0]])
   else pure (k6 %[n_|%[n+1|0]])
  else do
   match ←ltAt' (lo+n-1) (lo+n)with
   |aB c=>if c then pure (ka %[n_|%[n|q]])else pure (k6 %[n_|%[n+1|q+1]])
   |_=>pure (ka %[aB n_|%[n|q]])
 |_=>pure (ka %[aB n_|%[n|q]])
noncomputable def crZ(l n:Nat):StateT SortSt Sem<|Option Nat:=do
 mZ lo (lo+n)
 let r ←forIn [n:l] %[n_|n] λQ s=>crA lo s.2
 i9 (λQ=>StateT SortSt Sem<|Option Nat) r.1 (λv=>pure v) λQ=>pure<|aB r.2
def crD(l n:Nat):StateT SortSt Sem<|Option Nat:=do
 rule "list.sort.descending-run"
 let r ←forIn [n+1:l] %[n_|%[n+1|0]] λQ s=>crB lo s.2.1 s.2.2
 i9 (λQ=>StateT SortSt Sem<|Option Nat) r.1 (λv=>pure v) λQ=>if r.2.2>0 then do
   let _ ←mZ (lo+r.2.1-(r.2.2+1)) (lo+r.2.1)
   crZ lo l r.2.1
  else crZ lo l r.2.1
def ad5 l:countRun' lo l=(do
 let r ←forIn [1:l] %[n_|1] λQ s=>crA lo s.2
 i9 (λQ=>StateT SortSt Sem<|Option Nat) r.1 (λv=>pure v) λQ=>if r.2 == l then pure<|aB r.2
  else if r.2>1 then do
   match ←ltAt' lo (lo+r.2-1)with
   |aB c=>
    if c then pure (aB r.2)
    else do
     let _ ←mZ lo (lo+r.2)
     crD lo l r.2
   |_=>pure n_
  else crD lo l r.2):=countRun'_eq lo l
end
section
variable {P:kT->Prop}
def X1(C:BQ prog w A s κ P lt)(n:∀x,x∈xs->P x)lo:Cg lt xs lo<|lo+1:=by
 intro p q x y t u z ex l;have e:p=q:=by lia
 subst e;rw[ex]at l;cases l;show C.refl<|n _<|aQq ex
def UU(C:BQ prog w A s κ P lt)(t:∀x,x∈xs->P x){lo}(h:Cg lt xs lo<|lo+(n+1))(z:∀x y,xs[lo+(n+1)]?=aB x->xs[lo+n]?=aB y->lt x y=f_)(hz:lo+(n+1)<xs.size):Cg lt xs lo<|lo+(n+2):=by
 intro p q x y u B H ex l;by_cases c:q<lo+(n+1);.show h p q x y u B c ex l
 .have eq:q=lo+(n+1):=by lia
  subst eq;by_cases G:p=lo+(n+1);.subst G;rw[ex]at l;cases l;show C.refl<|t _<|aQq ex
  .have em:xs[lo+n]?=aB (xs[lo+n]'∅):=aj ∅;show pG C _ _ _ (t _<|aQq ex) (t _<|aQq em) (t _<|aQq l) (h p (lo+n) _ _ u ∅ (by rfl') ex em)<|z _ _ l em
def Lj(C:BQ prog w A s κ P lt)(t:∀x,x∈xs->P x){lo}(h:Wr lt xs lo<|lo+(n+1))(z:∀x y,xs[lo+(n+1)]?=aB x->xs[lo+n]?=aB y->lt y x=f_)(hz:lo+(n+1)<xs.size):Wr lt xs lo<|lo+(n+2):=by
 intro p q x y u B H ex l;by_cases c:q<lo+(n+1);.show h p q x y u B c ex l
 .have eq:q=lo+(n+1):=by lia
  subst eq;by_cases G:p=lo+(n+1);.subst G;rw[ex]at l;cases l;show C.refl<|t _<|aQq ex
  .have em:xs[lo+n]?=aB (xs[lo+n]'∅):=aj ∅;show pG C _ _ _ (t _<|aQq l) (t _<|aQq em) (t _<|aQq ex) (z _ _ l em)<|h p (lo+n) _ _ u ∅ (by rfl') ex em
def LV(C:BQ prog w A s κ P lt){lo}{st}(J:∀x,x∈lD st->P x)(hk:kindOf st=κ)(ha:1<=a)(u:a<=t)(hz:lo+t<=(lD st).size)(O:Cg lt (lD st) lo<|lo+a) :
  wpS (kZ prog w) A E s (forIn [a:t] (%[n_|a]:Option (Option Nat)×Nat) λZ s=>crA lo s.2)
   (λc l=>∃n,c=%[n_|n]/\l=st/\a<=n/\n<=t/\Cg lt (lD st) lo (lo+n)/\(n=t∨∃x y,(lD st)[lo+n]?=aB x/\(lD st)[lo+n-1]?=aB y/\lt x y=t_)) st:=by
 show lN (I:=λi c l=>c=%[n_|i]/\l=st/\a<=i/\i<=t/\Cg lt (lD st) lo (lo+i)) ?step ?fin (rfl,rfl,ag _,u,O);case step=>rintro i c l S Q ⟨rfl,rfl,G,L,z⟩;obtain⟨k,rfl⟩:∃k,i=k+1:=(i-1,by lia);have ex:(lD l)[lo+(k+1)]?=aB ((lD l)[lo+(k+1)]'∅):=aj ∅;have H:(lD l)[lo+(k+1)-1]?=aB ((lD l)[lo+k]'∅):=aj ∅;show kX<|C.at ex H (J _<|aQq ex) (J _<|aQq H) hk ?_;cases e:lt ((lD l)[lo+(k+1)]'∅)<|(lD l)[lo+k]'∅with
  |true=>show kY (_,rfl,rfl,G,L,z,iq (_,_,ex,H,e))
  |false=>show kY (rfl,rfl,by rfl',Q,UU C J z (λx y M R=>?_) ∅);have B:(lD l)[lo+(k+1)-1]?=aB y:=R;rw[ex]at M;rw[H]at B;cases M;cases B;show e
 case fin=>rintro c l ⟨rfl,rfl,G,L,z⟩;have e:=Nat.max_eq_right u;rw[e]at G L z ⊢;show(t,rfl,rfl,G,ag _,z,jE rfl)
def Fh{st}(h:Q ()<|md st<|mirror (lD st) i j<|(j-i) / 2):wpS (kZ prog w) A E s (mZ i j) Q st:=by show mJ h
structure AW (xs ys:Array kT)(lo hi:Nat):Prop where
 pm:ys.Perm xs
 out:∀k,(k<lo∨hi<=k)->ys[k]?=xs[k]?
def AW.refl(xs)lo hi:AW xs xs lo hi:=(jY.refl _,λQ Q=>rfl)
def AW.trans{lo}(a:AW xs l lo hi)(b:AW l n lo hi):AW xs n lo hi:=(b.pm.trans a.pm,λk h=>fq (b.out k h)<|a.out k h)
def AW.mono{lo}(a:AW xs n lo hi)(h:hi<=l):AW xs n lo l:=(a.pm,λk q=>a.out k ∅)
def AW.size{lo}(a:AW xs l lo hi):l.size=xs.size:=aAm a.pm
def AW.mem{lo}(a:AW xs l lo hi)(h:∀x,x∈xs->P x):∀x,x∈l->P x:=λx n=>h x<|a.pm.mem_iff.mp n
def AA{lo}(l:j<=xs.size)(n:lo<=i)(t:j<=hi):AW xs (mirror xs i j<|(j-i) / 2) lo hi:=(mirror_perm _ _ _ _,λk hk=>by rw[mP l,pW ∅])
structure CR (lt:kT->kT->Bool)(as:Array kT)(lo i q:Nat)(ys:Array kT):Prop where
 b:AW as ys lo<|lo+i
 d:Wr lt ys lo<|lo+i
 e:Eqv lt ys (lo+i-(q+1))<|lo+i
 p:q+1<=i
def E4(C:BQ prog w A s κ P lt)(u:∀x,x∈l->P x)(h:j<=i+1):Eqv lt l i j:=by
 intro p q x y z g2 B G n t;have e:p=q:=by lia
 subst e;rw[n]at t;cases t;show C.refl<|u _<|aQq n
def ZS(C:BQ prog w A s κ P lt){lo}{st}(R:∀x,x∈lD st->P x)(hk:kindOf st=κ)(hz:lo+u<=(lD st).size)(hi:k+1<u)(g:CR lt (lD st) lo (k+1) n l) :
  wpS (kZ prog w) A E s (crB lo (k+1) n) (λr Et=>∃m q S,Et=md st S/\m<=u/\CR lt (lD st) lo m q S/\(r = ka %[n_|%[m|q]]∨r = k6 %[n_|%[m|q]]/\m=k+1+1))<|md st l:=by have H:=g.b;have g2:=g.d;have O:=g.e;have g4:=g.p;have t:=H.mem R;have hsz:=H.size;have ex:l[lo+(k+1)]?=aB (l[lo+(k+1)]'∅):=aj ∅;have B:l[lo+(k+1)-1]?=aB (l[lo+k]'∅):=aj ∅;have G:=t _<|aQq ex;have py:=t _<|aQq B;have I:lt (l[lo+k]'∅) (l[lo+(k+1)]'∅)=f_->Wr lt l lo (lo+(k+1+1)):=λe=>Lj C t g2 (λx y U hy=>by have J:l[lo+(k+1)-1]?=aB y:=hy;rw[ex]at U;rw[B]at J;cases U;cases J;show e) ∅;show kX<|C.at (st:=md st l) ex B G py hk ?_;cases e:lt (l[lo+(k+1)]'∅)<|l[lo+k]'∅with
 |true=>
  have L:=I<|C.asym _ _ G py e;dsimp only;rw[pZ rfl];by_cases X:n>0;.rw[pZ X];show kX<|Fh<|kY ?_;have Y:AW (lD st) (mirror l (lo+(k+1)-(n+1)) (lo+(k+1))<|(lo+(k+1)-(lo+(k+1)-(n+1))) / 2) lo<|lo+(k+1):=H.trans<|AA ∅ ∅<|ag _;show(_,0,_,rfl,hi,(Y.mono ∅,CK ∅ ∅ ∅ O L,E4 C (Y.mem R) ∅,by lia),iq (rfl,rfl))
  .rw[pW X];show kY (_,0,l,rfl,hi,(H.mono ∅,L,E4 C t ∅,by lia),iq (rfl,rfl))
 |false=>dsimp only;rw[pW ⋯];show kX<|C.at (st:=md st l) B ex py G hk ?_;cases e':lt (l[lo+k]'∅)<|l[lo+(k+1)]'∅with
  |true=>show kY (_,n,l,rfl,cY hi,g,jE rfl)
  |false=>
   show kY (_,n+1,l,rfl,hi,(H.mono ∅,I e',?_,by rfl'),iq (rfl,rfl));intro p q x y h1 h2 h3 h4 M z;have qx:=t _<|aQq M;have qy:=t _<|aQq z;by_cases cp:p=lo+(k+1)
   .subst cp;rw[ex]at M;cases M;by_cases Q:q=lo+(k+1);.subst Q;rw[ex]at z;cases z;show C.refl G
    .show pG C _ _ _ qy py G (O (lo+(k+1)-1) q _ _ (by simp +arith[*]) ∅ ∅ ∅ B z) e
   .by_cases Q:q=lo+(k+1);.subst Q;rw[ex]at z;cases z;show pG C _ _ _ G py qx e'<|O p (lo+(k+1)-1) _ _ ∅ ∅ (by simp +arith[*]) ∅ M B
    .show O p q x y ∅ ∅ ∅ ∅ M z
abbrev acx(lt:kT->kT->Bool)(st:SortSt)(lo l:Nat)(Q:Option Nat->SortSt->Prop):=∀n xs,1<=n->n<=l->AW (lD st) xs lo (lo+n)->Cg lt xs lo (lo+n)->Q (aB n) (md st xs)
def SJ(C:BQ prog w A s κ P lt){lo}{st}(B:∀x,x∈lD st->P x)(hk:kindOf st=κ)(hz:lo+l<=(lD st).size)(h:acx lt st lo l Q)
  (G:1<=m) (H:m<=l) (b:AW (lD st) n lo<|lo+m) (d:Wr lt n lo<|lo+m):wpS (kZ prog w) A E s (crZ lo l m) Q<|md st n:=by show kX<|Fh ?_;have I:=b.size;have J:=NR ∅ d;have t:=b.trans<|AA ∅ (ag _)<|ag _;show kX<|lV (LV C (t.mem B) hk G H (bI hz<|fM<|fx t.size) J) ?_;rintro c Et ⟨L,rfl,rfl,M,u,z,_⟩;show kY<|h L _ ∅ u (t.mono<|by simp +arith[*]) z
def UG(C:BQ prog w A s κ P lt){lo}{st}(z:∀x,x∈lD st->P x)(hk:kindOf st=κ)(hz:lo+l<=(lD st).size)(h:acx lt st lo l Q)
  (hn:n<l) (b:AW (lD st) xs lo<|lo+n) (d:Wr lt xs lo<|lo+(n+1)):wpS (kZ prog w) A E s (crD lo l n) Q<|md st xs:=by
 show kX (zQ (kX (lV (lN
  (I:=λi c Et=>∃q t,c=%[n_|%[i|q]]/\Et=md st t/\i<=l/\CR lt (lD st) lo i q t)
  (Q:=λc Et=>∃m q t,c=%[n_|%[m|q]]/\Et=md st t/\m<=l/\CR lt (lD st) lo m q t)
  ?_ ?_ (0,xs,rfl,rfl,hn,b.mono<|by rfl',d,E4 C (b.mem z)<|by rfl',by rfl')) ?_)))
 .rintro i c Et _ hi ⟨q,t,rfl,rfl,_,g⟩;obtain⟨k,rfl⟩:∃k,i=k+1:=(i-1,by lia);show lV (ZS C z hk hz hi g) λr Et hr=>?_;obtain⟨m,q,B,rfl,u,G,rfl|⟨rfl,rfl⟩⟩:=hr;.show(m,q,B,rfl,rfl,u,G)
  .show(q,B,rfl,rfl,u,G)
 .rintro c Et ⟨q,t,rfl,rfl,u,g⟩;show(_,q,t,rfl,rfl,u,g)
 .rintro c Et ⟨m,q,t,rfl,rfl,u,g⟩;have J:=g.b.size;have L:=g.p;by_cases H:q>0;.simp only[pZ H];show kX<|Fh<|SJ (st:=st) C z hk hz h ∅ u (g.b.trans<|AA ∅ ∅<|ag _)<|CK ∅ ∅ (ag _) g.e g.d
  .rw[pW H];show SJ C z hk hz h ∅ u g.b g.d
def J7(C:BQ prog w A s κ P lt){lo}{st}(u:∀x,x∈lD st->P x)(hk:kindOf st=κ)(h1:1<=t)(hz:lo+t<=(lD st).size)
  (h:∀n xs,1<=n->n<=t->AW (lD st) xs lo (lo+n)->Cg lt xs lo (lo+n)->Q (aB n) (md st xs)):wpS (kZ prog w) A E s (countRun' lo t) Q st:=by
 rw[ad5];show kX<|lV (LV C u hk (ag 1) h1 hz<|X1 C u lo) ?_;rintro c l ⟨n,rfl,rfl,n1,n2,G,O⟩;dsimp only;have B:Q (aB n) l:=h n (lD l) n1 n2 (AW.refl _ _ _) G;by_cases R:n=t;.rw[pZ<|by simp[R]];show kY B
 rw[pW<|by simpa using R];have(xb,yb,J,z,eb):=pX O R;obtain⟨m,rfl⟩:∃m,n=m+1:=(n-1,by simp +arith[*]);have S:=u _<|aQq J;have H:=u _<|aQq z;have go:Eqv lt (lD l) lo (lo+(m+1))->Wr lt (lD l) lo (lo+(m+1+1)):=λe1=>Lj C u (λp q x y U g2 X ex ey=>e1 p q x y U ∅ ∅ X ex ey) (λx y Y hy=>by have L:(lD l)[lo+(m+1)-1]?=aB y:=hy;rw[J]at Y;rw[z]at L;cases Y;cases L;show C.asym _ _ S H eb) ∅;by_cases c2:m+1>1;.rw[pZ c2];have ex:(lD l)[lo]?=aB ((lD l)[lo]'∅):=aj ∅;have I:=u _<|aQq ex;show kX<|C.at ex z I H hk ?_;cases e:lt ((lD l)[lo]'∅) yb with
  |true=>show kY B
  |false=>
   have M:Eqv lt (lD l) lo<|lo+(m+1):=by intro p q x y U g2 X g4 gx gy;have px:=u _<|aQq gx;have py:=u _<|aQq gy;have q1:=G q (lo+(m+1)-1) _ _ X (by rfl') (by rfl') gy z;have q2:=G lo p _ _ (ag _) U g2 ex gx;show pG C _ _ _ py I px (pG C _ _ _ py H I q1 e) q2
   show kX<|Fh<|UG C u hk hz h ∅ (AA ∅ (ag _)<|ag _)<|CK ∅ (ag _) (by rfl') M<|go M
 .rw[pW c2];show UG C u hk hz h ∅ (AW.refl _ _ _)<|go<|E4 C u ∅
end
def XE(C:BQ prog w A s κ P lt)(H:∀x,x∈xs->P x){lo}(hz:lo+k<xs.size)(hl:l<=k)(G:Cg lt xs lo<|lo+k)(I:xs[lo+k]?=aB x)
  (M:∀j y,j<l->xs[lo+j]?=aB y->lt x y=f_) (O:∀j y,l<=j->j<k->xs[lo+j]?=aB y->lt x y=t_):Cg lt (bubble xs (lo+k)<|k-l) lo<|lo+(k+1):=by
 have J:=H _<|aQq I;have g:∀p,(bubble xs (lo+k)<|k-l)[p]?=if p=lo+l then aB x else if lo+l<p/\p<=lo+k then xs[p-1]? else xs[p]?:=λp=>by rw[getElem?_bubble hz (k-l) (by simp +arith[*]) p,show lo+k-(k-l)=lo+l by lia,I]
 intro p q u v L Q R eu n;rw[g]at eu n;by_cases cp:p=lo+l
 .rw[pZ cp]at eu;cases eu;by_cases t:q=lo+l;.rw[pZ t]at n;cases n;show C.refl J
  .rw[pW t,pZ (by lia,by lia)]at n;have pv:=H _<|aQq n;show C.asym _ _ J pv<|O (q-1-lo) v ∅ ∅<|by rw[show lo+(q-1-lo)=q-1 by lia];show n
 .rw[pW cp]at eu;by_cases z:lo+l<p/\p<=lo+k;.rw[pZ z]at eu;rw[pW ∅,pZ (by lia,by lia)]at n;show G (p-1) (q-1) _ _ ∅ ∅ ∅ eu n
  .rw[pW z]at eu;by_cases t:q=lo+l;.rw[pZ t]at n;cases n;show M (p-lo) u ∅<|by rw[show lo+(p-lo)=p by rfl'];show eu
   .rw[pW t]at n;by_cases B:lo+l<q/\q<=lo+k;.rw[pZ B]at n;show G p (q-1) _ _ L ∅ ∅ eu n
    .rw[pW B]at n;show G p q _ _ L Q ∅ eu n
def Oo{lo}(hz:lo+k<xs.size)(hl:l<=k)(hn:k<n):AW xs (bubble xs (lo+k)<|k-l) lo<|lo+n:=(bubble_perm _ _ _,λp t=>by rw[getElem?_bubble hz (k-l) (by simp +arith[*]) p,pW ∅,pW ∅])
def Wc{st}(h:Q ()<|md st<|bubble (lD st) l<|l-n):wpS (kZ prog w) A E s (moveDown' l n) Q st:=by show mJ h
def MJ(C:BQ prog w A s κ P lt){lo}{st}(X:∀x,x∈lD st->P x)(hk:kindOf st=κ)(Y:1<=ok)(h2:ok<=n)(hz:lo+n<=(lD st).size)(hs:Cg lt (lD st) lo<|lo+ok)
  (h:∀xs,AW (lD st) xs lo (lo+n)->Cg lt xs lo (lo+n)->Q t_ (md st xs)):wpS (kZ prog w) A E s (binarySort' lo n ok) Q st:=by
 rw[binarySort'_eq];skip;rw[Nat.max_eq_left Y];show kX (lV (lN (I:=λk c u=>∃t,c=%[n_|()]/\u=md st t/\AW (lD st) t lo (lo+n)/\Cg lt t lo (lo+k)/\k<=n)
  (Q:=λc u=>∃t,c=%[n_|()]/\u=md st t/\AW (lD st) t lo (lo+n)/\Cg lt t lo (lo+n)) ?step ?fin (lD st,rfl,rfl,AW.refl _ _ _,hs,h2)) ?post);case fin=>
  rintro c u ⟨t,rfl,rfl,b1,B,q⟩;have e:max ok n=n:=by simp +arith[*]
  rw[e]at B;show(t,rfl,rfl,b1,B)
 case post=>rintro c u ⟨t,rfl,rfl,b1,B⟩;show kY<|h t b1 B
 case step=>
  rintro k c u hk1 L ⟨t,rfl,rfl,b1,B,q⟩;have z:=b1.mem X;have hsz:=b1.size;have ex:t[lo+k]?=aB (t[lo+k]'∅):=aj ∅;have O:=z _<|aQq ex;show kX (lV (lN (I:=λi c u=>∃l r,c=%[n_|%[l|r]]/\u=md st t/\l<=r/\r<=k/\(∀j y,j<l->t[lo+j]?=aB y->lt (t[lo+k]'∅) y=f_)/\(∀j y,r<=j->j<k->t[lo+j]?=aB y->lt (t[lo+k]'∅) y=t_)/\(r-l)+i<=k)
   (Q:=λc u=>∃l r,c=%[n_|%[l|r]]/\u=md st t/\l=r/\r<=k/\(∀j y,j<l->t[lo+j]?=aB y->lt (t[lo+k]'∅) y=f_)/\(∀j y,r<=j->j<k->t[lo+j]?=aB y->lt (t[lo+k]'∅) y=t_))
   ?step1 ?fin1 (0,k,rfl,rfl,aY _,ag _,λj y hj=>absurd hj<|dg _,λj y R g2=>absurd g2 ∅,by rfl')) ?post1);case fin1=>rintro c u ⟨l,r,rfl,rfl,a1,G,H,J,a5⟩;show(l,r,rfl,rfl,by lia,G,H,J)
  case step1=>
   rintro i c u _ hi ⟨l,r,rfl,rfl,a1,G,H,J,a5⟩;dsimp only;by_cases S:l ≥ r;.rw[pZ S];show kY (l,r,rfl,rfl,by rfl',G,H,J)
   rw[pW S];have em:t[lo+(l+r) / 2]?=aB (t[lo+(l+r) / 2]'∅):=aj ∅;have pm:=z _<|aQq em;show kX<|C.at (st:=md st t) ex em O pm hk ?_;cases e:lt (t[lo+k]'∅)<|t[lo+(l+r) / 2]'∅with
   |true=>dsimp only;rw[pZ rfl];show kY (l,_,rfl,rfl,by lia,by lia,H,λj y R g2 M=>?_,by lia);have py:=z _<|aQq M;cases e':lt (t[lo+k]'∅) y with
    |true=>rfl
    |false=>have q1:=B (lo+(l+r) / 2) (lo+j) _ _ (by rfl') (by simp +arith[*]) (by simp +arith[*]) em M;have U:=pG C _ _ _ pm py O q1 e';rw[e]at U;cases U
   |false=>dsimp only;rw[pW ⋯];show kY (_,r,rfl,rfl,by lia,G,λj y R M=>?_,J,by lia);have py:=z _<|aQq M;show pG C _ _ _ py pm O (B (lo+j) (lo+(l+r) / 2) _ _ (by rfl') ∅ ∅ M em) e
  case post1=>
   rintro c u ⟨l,r,rfl,rfl,rfl,G,H,J⟩;show kX<|Wc<|kY ?_;have e:lo+k-(lo+l)=k-l:=by lia
   rw[e];show(_,rfl,rfl,b1.trans<|Oo ∅ G L,XE C z ∅ G B ex H J,L)
def uI(lt:kT->kT->Bool)(xs:Array kT):Nat->List (Nat×Nat×Nat)->Nat->Prop
 |s,[],e=>s=e
 |s,p::r,e=>p.1=s/\0<p.2.1/\Cg lt xs s (s+p.2.1)/\uI lt xs (s+p.2.1) r e
theorem vK:∀{q r}{s e},uI lt xs s (q++r) e↔∃m,uI lt xs s q m/\uI lt xs m r e
 | [],r,s,e=>by
  constructor;.intro h;show(s,rfl,h)
  .rintro⟨m,rfl,h⟩;show h
 |p::q,r,s,e=>by
  constructor;.rintro⟨l,n,t,u⟩;have(m,a,b):=vK.mp u;show(m,(l,n,t,a),b)
  .rintro⟨m,⟨l,n,t,a⟩,b⟩;show(l,n,t,e9 vK (m,a,b))
theorem Bf:∀{q}{s e},uI lt xs s q e->s+de q<=e
 | [],s,e,h=>by have:s=e:=h;simp[this]
 |p::q,s,e,hz=>by have(_,n,_,l):=hz;have:=Bf l;rw[lCq];lia
theorem yP:∀{q}{s e},(∀k,s<=k->k<e->n[k]?=xs[k]?)->uI lt xs s q e->uI lt n s q e
 | [],s,e,_,h=>h
 |p::q,s,e,g,hz=>by
  have(z,B,E,t):=hz;have l:=Bf t;show(z,B,λa b x y u G H ex I=>E a b x y u G H ?_ ?_,yP (λk L J=>g k ∅ J) t);.rw[←g a u ∅];show ex
  .rw[←g b ∅ ∅];show I
theorem Dz:∀{q l}{s e},l.map (λp=>%[p.1|p.2.1])=q.map (λp=>%[p.1|p.2.1])->uI lt xs s q e->uI lt xs s l e
 | [],l,s,e,g,h=>by
  have:l=[]:=by simpa using g
  subst this;show h
 |p::q,[],s,e,g,h=>by simp at g
 |p::q,p'::l,s,e,g,hz=>by have(x,n,t,u):=hz;simp only[aq,jN.injEq,m8]at g;have((z,g2),B):=g;rw[←g2]at n t u;show(fq z x,n,t,Dz B u)
theorem IA o:∀M n (xs:Array kT),o+n+de M<=xs.size ->
  b9 ((M.zipIdx n).foldl (λa x=>lO a (o+x.2) x.1) xs)=xs.toList.take (o+n)++M++xs.toList.drop (o+n+de M)
 | [],n,xs,h=>by simp
 |y::r,n,xs,h=>by
  simp only[List.zipIdx_cons,dr];rw[lCq]at h;rw[IA o r (n+1) _<|by rw[Array.size_setIfInBounds];lia,iH];have hl:o+n<de (b9 xs):=by rw[aJ];lia
  have l:(fb (b9 xs) (o+n) y).take (o+(n+1))=xs.toList.take (o+n)++[y]:=by rw[←gV,eV,aA hl,List.take_set_of_le<|ag _];rfl
  have s:(fb (b9 xs) (o+n) y).drop (o+(n+1)+de r)=xs.toList.drop (o+n+(de r+1)):=by rw[List.drop_set_of_lt<|by rfl'];rfl'
  simp only[l,s,af,af,af];rfl
def Qs(C:BQ prog w A s κ P lt)(hb:base+n<=arr.size)(ha:∀x,x∈arr->P x)(l:P key)(so:Cg lt arr base<|base+n) :
  ∀i j,i<=j->j<n->Ag lt left key arr base j=t_->Ag lt left key arr base i=t_:=by intro i j G I h;have t:arr[base+i]?=aB (arr[base+i]'∅):=aj ∅;have u:arr[base+j]?=aB (arr[base+j]'∅):=aj ∅;have z:=ha _<|aQq t;have B:=ha _<|aQq u;have le:=so (base+i) (base+j) _ _ (by rfl') (by simp +arith[*]) (by simp +arith[*]) t u;rw[vQ u]at h;rw[vQ t];cases left with
 |true=>rw[pZ rfl]at h ⊢;cases q:lt (arr[base+i]'∅) key with
  |true=>rfl
  |false=>have:=pG C _ _ _ l z B q le;rw[h]at this;cases this
 |false=>
  have H:=by simpa using h
  have:=pG C _ _ _ z B l le H;simp[this]
def vD{a:Array kT}(h:x∈b9 (c9 a i j)):∃k,i<=k/\k<j/\a[k]?=aB x:=by rw[tm]at h;have(k,l,n,e):=yg h;rw[bD]at e;show(k,l,n,e)
def EK(h:Cg lt a i j):As lt<|b9 (c9 a i j):=by
 rw[tm];show e9 dE λp q l n t=>?_;simp only[aR,lTq]at l n;have e:∀k hk,a[i+k]?=aB ((a.toList.take j).drop i)[k]:=λk hk=>by rw[aR,lTq,aJ]at hk;rw[bJ];show(by lia,by simp)
 show h (i+p) (i+q) _ _ (by rfl') ∅ ∅ (e p _)<|e q _
def Lg i:mergeAt' i=(do
 let s ←get
 let %[aB %[sa|%[l|n]]|aB %[sb|%[nb|_]]]:=%[(mG s)[i]?|(mG s)[i+1]?]|nX "internal:list.sort.pending"
 set (setPending s<|h9 (lO (mG s) i %[sa|%[l+nb|n]])<|i+1)
 let aB k ←yx f_ (←mh (lD s) sb) (lD s) sa l 0|return f_
 let %[sa|l]:=%[sa+k|l-k]
 if l == 0 then return t_
 let aB nb ←yx t_ (←mh (lD s) (sa+l-1)) (lD s) sb nb (nb-1)|return f_
 if nb == 0 then return t_
 let x:=c9 (lD s) sa sb
 let y:=c9 (lD s) sb<|sb+nb
 let merged ←if l<=nb then Kt x y else G1 x y
 modify λs=>md s<|merged.toList.zipIdx.foldl (λa %[p|j]=>lO a (sa+j) p)<|lD s
 return (failedOf<|←get).isNone):=rfl
def Rx{st}(h:Q ⟨⟩ l):wpS (kZ prog w) A E s (set l:StateT SortSt Sem PUnit) Q st:=by show lz (rfl,h)
def V8(C:BQ prog w A s κ P lt)(B:∀x,x∈xs->P x)(hz:sa+n+nb<=xs.size)(hk:k<=n)(hl:l<=nb)(X:Cg lt xs sa<|sa+n)(R:Cg lt xs (sa+n)<|sa+n+nb)
  (Y:xs[sa+n]?=aB key) (el:xs[sa+n-1]?=aB last)
  (k2:∀j y,j<k->xs[sa+j]?=aB y->lt key y=f_) (l3:∀j y,l<=j->j<nb->xs[sa+n+j]?=aB y->lt y last=f_) (hna:0<n) (hnb:0<nb)
  (m:Wk lt (c9 xs (sa+k)<|sa+n) (c9 xs (sa+n)<|sa+n+l) M)
  (I:b9 Q=xs.toList.take (sa+k)++b9 M++xs.toList.drop (sa+k+de (b9 M))):AW xs Q sa (sa+n+nb)/\Cg lt Q sa (sa+n+nb):=by
 have lM:de (b9 M)=(n-k)+l:=by have:=d9 m.pm;simp only[lAq,aJ,gE]at this ⊢;lia
 have hlx:de (b9 xs)=xs.size:=aJ;have gz:∀p,Q[p]?=if p<sa+k then xs[p]? else if p<sa+n+l then M[p-(sa+k)]? else xs[p]?:=λp=>by
  rw[←aG,I];by_cases H:p<sa+k;.rw[pZ H,af,gZq<|by rw[lTq];lia,fj H,aG]
  .rw[pW H,af,gYq<|by rw[lTq];lia,lTq,show min (sa+k) (de (b9 xs))=sa+k by lia];by_cases c2:p<sa+n+l;.rw[pZ c2,gZq ∅,aG]
   .rw[pW c2,gYq ∅,eE,aG];congr 1;lia
 have pk:=B _<|aQq Y;have pl:=B _<|aQq el;have z:∀q v,M[q]?=aB v->(∃j,k<=j/\j<n/\xs[sa+j]?=aB v)∨∃j,j<l/\xs[sa+n+j]?=aB v:=λq v e=>by
  have J:v∈b9 M:=by simpa using aQq e
  obtain J|J:=mAq.mp<|m.pm.mem_iff.mp J;.have(j,G,S,u):=vD J;show jE (j-sa,by lia,by lia,by rw[show sa+(j-sa)=j by lia];show u)
  .have(j,G,S,u):=vD J;show iq (j-(sa+n),by lia,by rw[show sa+n+(j-(sa+n))=j by rfl'];show u)
 show((?_,λp hp'=>?_),?_)
 .rw[Array.perm_iff_toList_perm,I];have c:b9 xs=xs.toList.take (sa+k)++(b9 (c9 xs (sa+k)<|sa+n)++b9 (c9 xs (sa+n)<|sa+n+l))++xs.toList.drop (sa+k+de (b9 M)):=by
   rw[tm,tm,lM];have U:=Dl (b9 xs) (sa+k) (sa+n)<|by simp +arith[*]
   have L:=Dl (b9 xs) (sa+n) (sa+n+l) ∅;have a3:sa+k+(n-k+l)=sa+n+l:=by simp +arith[*]
   rw[a3,←af,←U,←L,aV]
  conv=>rhs;rw[c]
  show aF.append_right _<|aF.append_left _ m.pm
 .rw[gz];by_cases H:p<sa+k;.rw[pZ H]
  .rw[pW H,pW ∅]
 .intro p q x y U L a3 ex t;rw[gz]at ex t;by_cases p1:p<sa+k
  .rw[pZ p1]at ex;have px:=B _<|aQq ex;have lx:lt key x=f_:=k2 (p-sa) x ∅<|by rw[show sa+(p-sa)=p by rfl'];show ex
   by_cases q1:q<sa+k;.rw[pZ q1]at t;show X p q _ _ U L ∅ ex t
   .rw[pW q1]at t;by_cases O:q<sa+n+l
    .rw[pZ O]at t;obtain⟨j,G,S,u⟩|⟨j,G,u⟩:=z _ _ t;.show X p (sa+j) _ _ U ∅ (by simp +arith[*]) ex u
     .show pG C _ _ _ px pk (B _<|aQq u) lx<|R (sa+n) (sa+n+j) _ _ (ag _) ∅ ∅ Y u
    .rw[pW O]at t;show pG C _ _ _ px pk (B _<|aQq t) lx<|R (sa+n) q _ _ (ag _) ∅ ∅ Y t
  .rw[pW p1]at ex;rw[pW ∅]at t;by_cases p2:p<sa+n+l
   .simp only[pZ p2]at ex;by_cases O:q<sa+n+l
    .rw[pZ O]at t;obtain c|c:=gC L
     .have ex':(b9 M)[p-(sa+k)]?=aB x:=by rw[aG];show ex
      have ey':(b9 M)[q-(sa+k)]?=aB y:=by rw[aG];show t
      have(hx,e1):=gSq.mp ex';have(hy,e2):=gSq.mp ey';have:=dE.mp m.so (p-(sa+k)) (q-(sa+k)) hx hy ∅;rw[e1,e2]at this;show this
     .subst c;rw[ex]at t;cases t;obtain⟨j,G,S,u⟩|⟨j,G,u⟩:=z _ _ ex;.show C.refl<|B _<|aQq u
      .show C.refl<|B _<|aQq u
    .rw[pW O]at t;have py:=B _<|aQq t;obtain⟨j,G,S,u⟩|⟨j,G,u⟩:=z _ _ ex;.show pG C _ _ _ (B _<|aQq u) pl py (X (sa+j) (sa+n-1) _ _ (by rfl') ∅ ∅ u el)<|l3 (q-(sa+n)) y ∅ ∅<|by rw[show sa+n+(q-(sa+n))=q by lia];show t
     .show R (sa+n+j) q _ _ ∅ ∅ ∅ u t
   .rw[pW p2]at ex;rw[pW ∅]at t;show R p q _ _ ∅ L ∅ ex t
def T9{α:Type}{l:List α}{a b}(n:l[i]?=aB a)(t:l[i+1]?=aB b):l=l.take i++a::b::l.drop (i+2):=by
 have(u,x):=gSq.mp n;have(z,B):=gSq.mp t;conv=>lhs;rw[←aV i l]
 simp only[az u,az z,x,B]
def QU{α:Type}{q r:List α}{a b c}:ef (fb (q++a::b::r) (de q) c) (de q+1)=q++c::r:=by rw[fZ _ _<|ag _,cZ,eZ<|by rfl',gH];rfl
def Er(C:BQ prog w A s κ P lt){lo}{st}(G:∀x,x∈lD st->P x)(hk:kindOf st=κ)(hf:failedOf st=n_)(hlo:lo<=(lD st).size)(L:uI lt (lD st) 0 (b9 (mG st)) lo)
  (hi:i+1<(mG st).size) (h:∀xs p g,AW (lD st) xs 0 lo->p.size+1=(mG st).size->uI lt xs 0 (b9 p) lo->Q t_ (tM κ xs p g n_)):wpS (kZ prog w) A E s (mergeAt' i) Q st:=by
 have(J,n,z,g0,fl):=st;have hk:J=κ:=hk;have hf:fl=n_:=hf;subst hk hf;have G:∀x,x∈n->P x:=G;have hlo:lo<=n.size:=hlo;have L:uI lt n 0 (b9 z) lo:=L;have hi:i+1<z.size:=hi;have e1:z[i]?=aB (z[i]'∅):=aj ∅;have e2:z[i+1]?=aB (z[i+1]'∅):=aj ∅;generalize z[i]'∅=a at e1;generalize z[i+1]'∅=b at e2;have(sa,u,pa):=a;have(sb,nb,pb):=b;have e1':(b9 z)[i]?=aB %[sa|%[u|pa]]:=by rw[aG];show e1
 have e2':(b9 z)[i+1]?=aB %[sb|%[nb|pb]]:=by rw[aG];show e2
 have ep:=T9 e1' e2';have lq:de (z.toList.take i)=i:=by rw[lTq,aJ];lia
 generalize z.toList.take i=q at ep lq;generalize z.toList.drop (i+2)=r at ep;rw[ep]at L;have(S,c1,c2):=vK.mp L;have(x1,x2,x3,x4,x5,x6,x7):=c2;have d1:sa=S:=x1;have d2:0<u:=x2;have d3:Cg lt n S<|S+u:=x3;have f1:sb=S+u:=x4;have f2:0<nb:=x5;have f3:Cg lt n (S+u)<|S+u+nb:=x6;have f4:uI lt n (S+u+nb) r lo:=x7;clear x1 x2 x3 x4 x5 x6 x7;subst d1 f1;have hrl:sa+u+nb+de r<=lo:=Bf f4;have hql:0+de q<=sa:=Bf c1;have hz:sa+u+nb<=n.size:=by lia
 have np:b9 (h9 (lO z i %[sa|%[u+nb|pa]])<|i+1)=q++%[sa|%[u+nb|pa]]::r:=by rw[Array.toList_eraseIdxIfInBounds,iH,ep,←lq];show QU
 have ns:(h9 (lO z i %[sa|%[u+nb|pa]])<|i+1).size+1=z.size:=by rw[←aJ,np,←aJ,ep];simp only[lAq,lCq];lia
 have fin:∀U g,AW n U sa (sa+u+nb)->Cg lt U sa (sa+u+nb)->Q t_ (tM J U (h9 (lO z i %[sa|%[u+nb|pa]])<|i+1) g n_):=λU g b1 s1=>by
  show h U _ g (b1.pm,λk hk=>b1.out k ∅) ns ?_;rw[np];show e9 vK (sa,yP (λk Z k2=>b1.out k<|jE k2) c1,rfl,by change 0<u+nb;lia,?_,?_);.change Cg lt U sa (sa+(u+nb));rw[←gV];show s1
  .change uI lt U (sa+(u+nb)) r lo;rw[←gV];show yP (λk k1 Z=>b1.out k<|iq k1) f4
 rw[Lg];show kX<|mN ?_;skip;rw[e1,e2];skip;show kX<|Rx ?_;have ek:n[sa+u]?=aB (n[sa+u]'∅):=aj ∅;have el:n[sa+u-1]?=aB (n[sa+u-1]'∅):=aj ∅;have pk:=G _<|aQq ek;have pl:=G _<|aQq el;show kX<|qG ek ?_;show kX<|wA C d2 ∅ G pk rfl (Qs C ∅ G pk d3) λk k1 k2 k3=>?_;dsimp only;have kl:∀j y,j<k->n[sa+j]?=aB y->lt (n[sa+u]'∅) y=f_:=λj y hj B=>by have:=k2 j hj;rw[vQ B,pW ⋯]at this;simpa using this
 have kh:∀j y,k<=j->j<u->n[sa+j]?=aB y->lt (n[sa+u]'∅) y=t_:=λj y h1 h2 B=>by have:=k3 j h1 h2;rw[vQ B,pW ⋯]at this;simpa using this
 by_cases c1':u-k=0
 .rw[pZ<|by simp[c1']];show kY<|fin n g0 (AW.refl _ _ _) λp q x y X O Y ex B=>?_;have px:=G _<|aQq ex;have py:=G _<|aQq B;by_cases q1:q<sa+u;.show d3 p q _ _ X O q1 ex B
  .by_cases p1:p<sa+u;.show pG C _ _ _ px pk py (kl (p-sa) x ∅<|by rw[show sa+(p-sa)=p by lia];show ex)<|f3 (sa+u) q _ _ (ag _) ∅ Y ek B
   .show f3 p q _ _ ∅ O Y ex B
 rw[pW<|by simpa using c1'];have ea:sa+k+(u-k)-1=sa+u-1:=by lia
 rw[ea];show kX<|qG el ?_;show kX<|wA C ∅ ∅ G pl rfl (Qs C ∅ G pl f3) λl l1 l2 l3=>?_;dsimp only;have ll:∀j y,j<l->n[sa+u+j]?=aB y->lt y (n[sa+u-1]'∅)=t_:=λj y hj B=>by have:=l2 j hj;rw[vQ B,pZ rfl]at this;show this
 have lh:∀j y,l<=j->j<nb->n[sa+u+j]?=aB y->lt y (n[sa+u-1]'∅)=f_:=λj y h1 h2 B=>by have:=l3 j h1 h2;rw[vQ B,pZ rfl]at this;show this
 by_cases c2':l=0
 .rw[pZ<|by simp[c2']];show kY<|fin n g0 (AW.refl _ _ _) λp q x y X O Y ex B=>?_;have px:=G _<|aQq ex;have py:=G _<|aQq B;by_cases q1:q<sa+u;.show d3 p q _ _ X O q1 ex B
  .by_cases p1:p<sa+u;.show pG C _ _ _ px pl py (d3 p (sa+u-1) _ _ X ∅ ∅ ex el)<|lh (q-(sa+u)) y ∅ ∅<|by rw[show sa+u+(q-(sa+u))=q by lia];show B
   .show f3 p q _ _ ∅ O Y ex B
 rw[pW<|by simpa using c2'];have sx:As lt<|b9 (c9 n (sa+k)<|sa+u):=EK λp q x y X O Y ex B=>d3 p q x y ∅ O Y ex B;have sy:As lt<|b9 (c9 n (sa+u)<|sa+u+l):=EK λp q x y X O Y ex B=>f3 p q x y X O ∅ ex B;have H:∀x,x∈c9 n (sa+k) (sa+u)->P x:=λx H=>by have(j,_,_,e):=vD<|e9 jv H;show G _<|aQq e
 have I:∀x,x∈c9 n (sa+u) (sa+u+l)->P x:=λx H=>by have(j,_,_,e):=vD<|e9 jv H;show G _<|aQq e
 have zx:(c9 n (sa+k)<|sa+u).size=u-k:=by rw[gE];lia
 have zy:(c9 n (sa+u)<|sa+u+l).size=l:=by rw[gE];lia
 have g0':(c9 n (sa+u)<|sa+u+l)[0]?=aB (n[sa+u]'∅):=by rw[jh,pZ ∅,iY];show ek
 have gl':(c9 n (sa+k)<|sa+u)[u-k-1]?=aB (n[sa+u-1]'∅):=by rw[jh,pZ ∅,show sa+k+(u-k-1)=sa+u-1 by lia];show el
 have low:∀y∈b9 (c9 n (sa+k)<|sa+u),lt y (n[sa+u]'∅)=f_:=λy I=>by have(j,j1,j2,ej):=vD I;show C.asym _ _ pk (G _<|aQq ej)<|kh (j-sa) y ∅ ∅<|by rw[show sa+(j-sa)=j by lia];show ej
 have R:∀x∈b9 (c9 n (sa+u)<|sa+u+l),lt (n[sa+u-1]'∅) x=f_:=λx H=>by have(j,j1,j2,ej):=vD H;show C.asym _ _ (G _<|aQq ej) pl<|ll (j-(sa+u)) x ∅<|by rw[show sa+u+(j-(sa+u))=j by lia];show ej
 have done:∀M g,Wk lt (c9 n (sa+k)<|sa+u) (c9 n (sa+u)<|sa+u+l) M ->
   Q t_ (tM J (M.toList.zipIdx.foldl (λa x=>lO a (sa+k+x.snd) x.fst) n) (h9 (lO z i %[sa|%[u+nb|pa]])<|i+1) g n_):=λM g mg=>by
  have lM:de (b9 M)=(u-k)+l:=by have:=d9 mg.pm;simp only[lAq,aJ,gE]at this ⊢;lia
  have wb:=IA (sa+k) (b9 M) 0 n ∅;have(b1,s1):=V8 C G hz k1 l1 d3 f3 ek el kl lh d2 f2 mg wb;show fin _ g b1 s1
 by_cases c3:u-k<=l
 .rw[pZ c3];show kX<|Kn (κ:=J) (a:=c9 n (sa+k)<|sa+u) (b:=c9 n (sa+u)<|sa+u+l) C H I rfl sx sy (by rw[zx];lia) (by rw[zy];lia) (λx ex y I=>?_) (λj hj x H y I=>?_) λM g mg=>?_;.rw[g0']at ex;cases ex;show low y I
  .have hj':j=u-k-1:=by lia
   subst hj';have:y=n[sa+u-1]'∅:=by
    have(t,t1,t2):=By I;rw[zx]at t1;have t0:t=0:=by lia
    subst t0;rw[iY,gl']at t2;show(aB.inj t2).symm
   rw[this];show R x H
  .show kX<|mJ ?_;show kX<|mN ?_;show kY<|done M g mg
 .rw[pW c3];show kX<|KM (κ:=J) (a:=c9 n (sa+k)<|sa+u) (b:=c9 n (sa+u)<|sa+u+l) C H I rfl sx sy (by rw[zx];lia) (by rw[zy];lia) (λx H y I=>?_) (λx ex y I=>?_) λM g mg=>?_
  .have:x=n[sa+u]'∅:=by
    have(t,t1,t2):=Bh H;have t0:t=0:=by lia
    subst t0;rw[bD,g0']at t2;show(aB.inj t2).symm
   rw[this];show low y I
  .rw[zx,gl']at ex;cases ex;show R y I
  .show kX<|mJ ?_;show kX<|mN ?_;show kY<|done M g mg
noncomputable abbrev AF(κ:lY)(xs:Array kT)(p:Array<|Nat×Nat×Nat)(g:Nat):SortSt:=tM κ xs p g n_
def FK{p:Array<|Nat×Nat×Nat}{lo}(h:uI lt xs 0 (b9 p) lo)(hn:0<n)(l:Cg lt xs lo<|lo+n):uI lt xs 0 (b9 (m7 p %[lo|%[n|0]]))<|lo+n:=by rw[fV];show e9 vK (lo,h,rfl,hn,l,rfl)
def Hs(p:Array<|Nat×Nat×Nat)i pw:(p.modify i λx=>%[x.fst|%[x.2.fst|pw]]).toList.map (λp=>%[p.1|p.2.1])=p.toList.map (λp=>%[p.1|p.2.1]):=by
 apply df;intro k;simp only[gMq,gMq,aG,aG,Array.getElem?_modify];split;.cases p[k]? <;> rfl
 .rfl
def JL(C:BQ prog w A s κ P lt)(hp:∀x,x∈arr->P x)(h2:2<=arr.size)
    (h:∀xs p g',jY xs arr->Cg lt xs 0 arr.size->Q () (AF κ xs p g')):wpS (kZ prog w) A E s sortRuns' Q<|AF κ arr #[] g:=by
  rw[sortRuns'_eq];show kX<|mN ?_;dsimp only;have e0:lD (AF κ arr #[] g)=arr:=rfl;rw[e0];generalize minRun' arr.size arr.size 0=O;show kX (lV (lN
    (I:=λi c l=>∃lo xs p g',c=%[n_|lo]/\l=AF κ xs p g'/\jY xs arr/\lo<=arr.size/\uI lt xs 0 (b9 p) lo/\i<=lo)
    (Q:=λc l=>∃xs p g',c=%[n_|arr.size]/\l=AF κ xs p g'/\jY xs arr/\uI lt xs 0 (b9 p) arr.size)
    ?step ?fin (0,arr,#[],g,rfl,rfl,jY.refl _,aY _,rfl,ag _)) ?post);case fin=>
    rintro c l ⟨lo,xs,p,g',rfl,rfl,L,q2,R,q4⟩;have e:lo=arr.size:=by rfl'
    subst e;show(xs,p,g',rfl,rfl,L,R)
  case step=>
    rintro i c l _ hi ⟨lo,xs,p,g',rfl,rfl,L,q2,R,q4⟩;dsimp only;have S:∀x,x∈xs->P x:=λx hx=>hp x<|L.mem_iff.mp hx;have hzx:xs.size=arr.size:=aAm L;by_cases c1:lo ≥ arr.size
    . rw[pZ c1];have e:lo=arr.size:=by rfl'
      subst e;show kY (xs,p,g',rfl,rfl,L,R)
    rw[pW c1];show kX<|J7 (st:=AF κ xs p g') C S rfl ∅ (by change lo+(arr.size-lo)<=xs.size;simp +arith[*]) λn u n1 n2 b1 s1=>?_;dsimp only;have hb:AW xs u lo<|lo+n:=b1;change wpS _ _ _ _ _ _ (AF κ u p g');by_cases c2:n<O;all_goals
      first
        | (rw[pZ c2];show kX<|zQ ?_;show kX<|MJ (st:=AF κ u p g') (n:=min (arr.size-lo) O) C (hb.mem S) rfl n1 ∅ (by change lo+min (arr.size-lo) O<=u.size;have:=hb.size;lia) s1 λH b2 Y=>?_;rw[pW ⋯];have z:AW xs H lo<|lo+min (arr.size-lo) O:=(hb.mono ∅).trans b2;have nn:1<=min (arr.size-lo) O:=by lia
           have nl:lo+min (arr.size-lo) O<=arr.size:=by lia
           change wpS _ _ _ _ _ _ (AF κ H p g');clear b1 s1 hb b2;generalize min (arr.size-lo) O=nN at z nn nl Y ⊢)
        | (rw[pW c2];have z:=hb;have Y:=s1;have nn:=n1;have nl:lo+n<=arr.size:=by lia
           clear b1 s1 hb;generalize hnN:n=nN at z nn nl Y ⊢;generalize hzs:u=H at z Y ⊢)
      have hpz:=z.mem S;have hzz:=z.size;have hcz:uI lt H 0 (b9 p) lo:=yP (λk Z k2=>z.out k<|jE k2) R;have pz:jY H arr:=z.pm.trans L;show kX<|mN ?_;have ep:mG (AF κ H p g')=p:=rfl;rw[ep];cases eb:p.back? with
      |none=>skip;show kX<|mJ<|kY ?_;show(lo+nN,H,m7 p %[lo|%[nN|0]],g',rfl,rfl,pz,nl,FK hcz nn Y,by lia)
      |some t=>
        have(s1',n1',pw0):=t;skip;show kX (lV (lN
          (I:=λi c l=>∃u q g2,c=%[n_|()]/\l=AF κ u q g2/\AW H u 0 lo/\uI lt u 0 (b9 q) lo)
          (Q:=λc l=>∃u q g2,c=%[n_|()]/\l=AF κ u q g2/\AW H u 0 lo/\uI lt u 0 (b9 q) lo)
          ?step1 (λc l hh=>hh) (H,p,g',rfl,rfl,AW.refl _ _ _,hcz)) ?post1);case step1=>
          rintro j c l _ hj ⟨B,q,g2,rfl,rfl,b3,G⟩;show kX<|mN ?_;have eq:mG (AF κ B q g2)=q:=rfl;rw[eq];by_cases d1:q.size>1
          . rw[pZ d1];have eo:q[q.size-2]?=aB (q[q.size-2]'∅):=aj ∅;rw[eo];generalize q[q.size-2]'∅=o;have(o1,o2,older):=o;dsimp only;split;. show kY (B,q,g2,rfl,rfl,b3,G)
            . show kX<|Er (st:=AF κ B q g2) C (b3.mem hpz) rfl rfl (by change lo<=B.size;have:=b3.size;simp +arith[*]) G (by change q.size-2+1<q.size;lia) λU p3 g3 b4 Z X=>?_;rw[pW ⋯];show kY (U,p3,g3,rfl,rfl,b3.trans b4,X)
          . rw[pW d1];show kY (B,q,g2,rfl,rfl,b3,G)
        case post1=>
          rintro c l ⟨B,q,g2,rfl,rfl,b3,G⟩;skip;show kX<|mJ<|kX<|mJ<|kY ?_;have s3:Cg lt B lo<|lo+nN:=λa b x y a1 a2 a3 ex ey=>Y a b x y a1 a2 a3 (by rw[←b3.out a<|iq a1];show ex)<|by rw[←b3.out b<|iq ∅];show ey
          show(lo+nN,B,_,g2,rfl,rfl,b3.pm.trans pz,nl,FK (Dz (Hs q _ _) G) nn s3,by lia)
  case post=>
    rintro c l ⟨xs,p,g',rfl,rfl,L,R⟩;skip;show kX (lV (lN
      (I:=λi c l=>∃u q g2,c=%[n_|()]/\l=AF κ u q g2/\jY u arr/\uI lt u 0 (b9 q) arr.size/\q.size+i<=arr.size)
      (Q:=λc l=>∃u q g2,c=%[n_|()]/\l=AF κ u q g2/\jY u arr/\uI lt u 0 (b9 q) arr.size/\q.size<=1)
      ?step2 ?fin2 (xs,p,g',rfl,rfl,L,R,by have:=Bf R;rw[aJ]at this;lia)) ?post2);case fin2=>rintro c l ⟨u,q,g2,rfl,rfl,M,J,r3⟩;show(u,q,g2,rfl,rfl,M,J,by lia)
    case step2=>
      rintro j c l _ hj ⟨u,q,g2,rfl,rfl,M,J,r3⟩;show kX<|mN ?_;have eq:mG (AF κ u q g2)=q:=rfl;rw[eq];by_cases d1:q.size<=1;. rw[pZ d1];show kY (u,q,g2,rfl,rfl,M,J,d1)
      rw[pW d1];have hi':∀(b:Prop) [Decidable b],(if b then q.size-2-1 else q.size-2)+1<q.size:=λb Z=>by split <;> lia
      show kX<|Er (st:=AF κ u q g2) C (λx hx=>hp x<|M.mem_iff.mp hx) rfl rfl (by change arr.size<=u.size;have:=aAm M;simp +arith[*]) J (hi' _) λU p3 g3 b4 ns X=>?_;rw[pW ⋯];have ns':p3.size+1=q.size:=ns;show kY (U,p3,g3,rfl,rfl,b4.pm.trans M,X,by lia)
    case post2=>rintro c l ⟨u,q,g2,rfl,rfl,M,J,r3⟩;show kY<|h u q g2 M ?_;rw[←aJ]at r3;cases eq:b9 q with
      |nil=>rw[eq]at J;have r2':0=arr.size:=J;lia
      |cons a r=>
        rw[eq]at J r3;have er:r=[]:=by rw[lCq]at r3;show cK.mp ∅
        subst er;have(_,_,s3,e3):=J;have e3':=e3;rw[e3']at s3;show s3
end MrS
namespace Xe
open PySem
noncomputable abbrev VEm:Ξ:=[iU "ValueError", iU "Exception", iU "BaseException", iU "object"]
abbrev Lk{α:Type}(M:Model)(h:Heap)(x:Sem α)(r:α):Prop:=∀(A:Around) (Q:α->kS->Prop) (E:Value->kS->Prop) (s:kS),(∀b o,eL h b=aB o->eL (d7 s) b=aB o)->Q r s->lg M A x Q E s
end Xe
namespace Mr
abbrev St:=L2.St
open PySem PySem.Spec PyProof.Rows L2
def LS{fp:Δ}{T:Addr}(I:Inv X oO σ H s)(k:∀b u,b∉fp->eL (d7 s) b=aB u->eL h' b=aB u)
  (hf:∀b∈fp,yu X oO H b) (x:s.heap.objs.size<=T) (new:uf X.prog X.w (rG H T o) h' T o):Inv X oO σ (rG H T o) { s with heap:=h',toks:=t' }:=by
 have hn:=p5 (L0 I) x;have B:∀b u,H b=aB u->b∉fp:=λb u e z=>by rw[(hf b z).1]at e;cases e
 show I.step (λb hb=>?_) (λb u Z Z l e Z=>k b u l e) (λb u Z Z l e Z=>(u.slots,k b u l e))
  (λb u Z e n=>by rw[pK<|aS<|bg (aw e) x];show n) (λb u l e=>(u,k b u l e))
  (λb t e=>by rw[pK<|rp e hn];show e) (λb u t e=>by rw[pK<|rp e hn];show e) (λb Z e=>by rw[pK<|rp e hn];show e) (λm E=>?_) (λb u e=>?_) I.bare;.have(_,G,_,J,L,M):=hf b hb;show(J,G,L,M)
 .have(u,O,P,Q,r):=E;show(u,O,P,k _ u (λz=>(hf _ z).2.1 rfl) Q,r)
 .by_cases hb:b=T;.subst hb;rw[pS]at e;cases e;show new
  .rw[pK hb]at e;show(L0 I b u e).stay (λc v l q=>k c v ?_ q) (λc q=>by rw[pK<|rp q hn];show q) (λc t q=>by rw[pK<|rp q hn];show q) λc t q=>by rw[pK<|rp q hn];show q
   obtain rfl|l:=l;.show B _ u e
   .show B c _ l
def xA{fp:Δ}(I:Inv X oO σ H s)(k:∀b u,b∉fp->eL (d7 s) b=aB u->eL h' b=aB u)
  (hf:∀b∈fp,yu X oO H b):Inv X oO σ H { s with heap:=h',toks:=t' }:=by
 have t:∀b u,H b=aB u->b∉fp:=λb u e z=>by rw[(hf b z).1]at e;cases e
 show I.step (λb hb=>?_) (λb u Q Q l e Q=>k b u l e) (λb u Q Q l e Q=>(u.slots,k b u l e))
  (λQ Q Q Q n=>n) (λb u l e=>(u,k b u l e)) (λQ Q e=>e) (λQ Q Q e=>e) (λQ Q e=>e) (λm x=>?_) (λb u e=>?_) I.bare;.have(_,B,_,E,G,J):=hf b hb;show(E,B,G,J)
 .have(u,L,M,O,r):=x;show(u,L,M,k _ u (λz=>(hf _ z).2.1 rfl) O,r)
 .show(L0 I b u e).stay (λc v l q=>k c v ?_ q) (λQ q=>q) (λQ Q q=>q) λQ Q q=>q;obtain rfl|l:=l;.show t _ u e
  .show t c _ l
def Ja(I:Inv X oO σ H s)(h:tJ X.K H a xs)(f:yu X oO H b):a≠b:=by
 intro e;subst e;have(l,_,_,t,_):=f;obtain(h|⟨o,h⟩)|⟨o,u,n,hk,_⟩:=h;.rw[l]at h;cases h
 .rw[l]at h;cases h
 .have hb:=I.mod.kin a o hk;obtain z|z:=t;.show I.ok.noex a o hb z
  .show absurd (bg (aw (I.ok.bs a o hb).1) z)<|dY _
noncomputable def Ite(K:Ζ)(a:Addr):It:=(λi H=>∃xs x,tJ K H a xs/\xs[i]?=aB x,
   λi H v l=>∃T x,H T=n_/\v = c6 T/\l=rG H T (vu [c7 i,x])/\∀xs,tJ K H a xs->xs[i]?=aB x,
   λi H=>∃xs,tJ K H a xs/\de xs<=i)
def Sb{K}a e B(L:e≠B) :
  JI P w K (vb J k pos) (Ite K a) [e,B] e<|λi h=>(∃l,IsEnum h e B i l)/\t9 h B a i where
 mem:=by simp
 obj:=λi h st b hb=>by
  have((l,G),o,ho,_,d):=st;obtain rfl|hb:=ae.mp hb;.show(_,G,λv z=>by have z':j7 _=p8 v:=z;cases z')
  .have e:b=B:=by simpa using hb
   subst e;show(o,ho,λv z=>by rw[d]at z;cases z)
 keep:=λi h h' st kp=>by have((l,G),n):=st;show((l,kp e ⋯ _ G),n.at λo q=>kp B ⋯ o q)
 item:=by
  intro X hP hw R hc i oO s σ H E I hf st S;subst hP hw R;have(xs,x,Q,U):=S;have(Y,rv,p,hz):=tu I Q;have(u,hu,ru):=rv.get U;have((l,G),n):=st;have hil:B<s.heap.objs.size:=by have(_,q,_):=n;show aw q
  have M:e<s.heap.objs.size:=aw G;show wpAny_pyNext_enum_item G n (j6 p) (x:=u) (by simpa using hu) L λh1 he1 O ht1 hz1 hk1=>(_,rfl,?_);show wpAny_letOwnedTupleGo_enum he1 λh2 he2 t=>?_;replace t:fL e h1 h2:=t;have hn:H s.heap.objs.size=n_:=p5 (L0 I)<|ag _;show(c6 s.heap.objs.size,rG H s.heap.objs.size<|vu [c7 i,x],?_,rfl,(_,x,hn,rfl,rfl,λys hy=>by rw[I.list_inj hy Q];show U),((_,by show he2),O.extBut (wh t)<|mr L),λb hb=>?_)
  .change L2.Inv X oO σ _ { s with heap:=h2,toks:=sq s+1 };show LS (s:=s) (fp:=[e,B]) I (λb o hb q=>?_) hf (ag _) (by simp only[lCq,cw];rw[mB];decide,[jK i<|sq s,u],iL (_,rfl)<|iL ru lX,_,wh t _ _ (gG M) ht1,rfl,_,rfl);have b1:b≠e:=λz=>hb<|by simp[z]
   show wh t b o b1<|hk1 b o b1 (λz=>hb<|by simp[z]) q
  .have hb2:b<s.heap.objs.size:=by
    obtain rfl|hb:=ae.mp hb;.show M
    .have e:b=B:=by simpa using hb
     cases e;show hil
   rw[pK<|aS hb2];show(hf b hb).1
 done:=by intro X hP hw R hc i oO s σ H E I hf st S;subst hP hw R;have(xs,Q,U):=S;have(Y,rv,p,hz):=tu I Q;have((l,G),n):=st;have hl:=n7 rv;show wpAny_pyNext_enum_end (I.ok.hd hc) G n (j6 p) (by simp;lia) λh1 eb=>(rfl,xA (t':=sq s) (fp:=[e,B]) I (λb o hb q=>eb b o (λz=>hb<|by simp[z]) q) hf)
 self:=λZ Z Z Z Z st h=>by have((l,G),_):=st;show wpAny_pyIter_enum G h
noncomputable def Itz(K:Ζ)(a b:Addr):It:=(λi H=>∃xs l x y,tJ K H a xs/\tJ K H b l/\xs[i]?=aB x/\l[i]?=aB y,
   λi H v n=>∃T x y,H T=n_/\v = c6 T/\n=rG H T (vu [x,y])/\(∀xs,tJ K H a xs->xs[i]?=aB x)/\∀l,tJ K H b l->l[i]?=aB y,
   λi H=>∃xs l,tJ K H a xs/\tJ K H b l/\(de xs<=i∨de l<=i))
structure Z5 (z TI TO i1 i2:Addr):Prop where
 a:TI≠z
 b:TO≠z
 c:i1≠z
 d:i2≠z
 e:TI≠TO
 f:TI≠i1
 g:TI≠i2
 h:TO≠i1
 i:TO≠i2
 j:i1≠i2
def ad4(n:Nat):Z5 (n+4) (n+2) (n+3) n<|n+1 where
 a:=λ(q)=>by lia
 b:=λ(q)=>by lia
 c:=λ(q)=>by lia
 d:=λ(q)=>by lia
 e:=λ(q)=>by lia
 f:=λ(q)=>by lia
 g:=λ(q)=>by lia
 h:=λ(q)=>by lia
 i:=λ(q)=>by lia
 j:=λ(q)=>by lia
def Ta{K}U Y z TI TO i1 i2(d:Z5 z TI TO i1 i2) :
  JI P w K (vb S k pos) (Itz K U Y) [z,TI,TO,i1,i2] z
   (λi h=>IsZip h z TI TO ly/\IsPair h TI (dS i1) (dS i2)/\(∃a b,IsPair h TO a b)/\t9 h i1 U i/\t9 h i2 Y i) where
 mem:=by simp
 obj:=λi h st b hb=>by
  have(hz,l,(a,c,n),(o1,q1,_,d1),(o2,q2,_,d2)):=st;simp only[ae,cP,or_false]at hb;obtain rfl|rfl|rfl|rfl|rfl:=hb;.show(_,hz,λv x=>by have x':j7 _=p8 v:=x;cases x')
  .show(_,l,λv x=>by have x':mY _ _=p8 v:=x;cases x')
  .show(_,n,λv x=>by have x':mY _ _=p8 v:=x;cases x')
  .show(o1,q1,λv x=>by rw[d1]at x;cases x)
  .show(o2,q2,λv x=>by rw[d2]at x;cases x)
 keep:=λi h h' st kp=>by have(hz,l,(a,c,n),O,Q):=st;show(kp z ⋯ _ hz,kp TI ⋯ _ l,(a,c,kp TO ⋯ _ n),O.at λo q=>kp i1 ⋯ o q,Q.at λo q=>kp i2 ⋯ o q)
 item:=by
  intro X hP hw hK hc i oO s σ H E I hf st hg;subst hP hw hK;have(xs,ys,x,y,u,B,R,hy):=hg;have(its1,L,p1,_):=tu I u;have(its2,M,p2,_):=tu I B;have(u1,hu1,ru1):=L.get R;have(u2,hu2,ru2):=M.get hy;have(hz,l,(a,c,n),O,Q):=st;have G:∀b∈[z,TI,TO,i1,i2],U≠b:=λb hb=>Ja I u<|hf b hb;have J:∀b∈[z,TI,TO,i1,i2],Y≠b:=λb hb=>Ja I B<|hf b hb;have D:ZipApart z TI TO i1 i2 U Y:=(d.a,d.b,d.c,d.d,d.e,d.f,d.g,d.h,d.i,d.j,G z ⋯,G TO ⋯,G i1 ⋯,G i2 ⋯,J z ⋯,J TO ⋯,J i1 ⋯,J i2 ⋯);have hzl:z<s.heap.objs.size:=aw hz;show wpAny_pyNext_zip_item D hz l n O Q (j6 p1) (j6 p2) (x:=u1) (y:=u2) (by simpa using hu1) (by simpa using hu2) λg1 hz1 hTO1 g11 g12 hT1 hsz1 hk1=>(_,rfl,?_);show wpAny_letOwnedTupleGo_zip hz1 λg2 hz2 t=>?_;replace t:fL z g1 g2:=t;have hn:H s.heap.objs.size=n_:=p5 (L0 I)<|ag _;show(c6 s.heap.objs.size,rG H s.heap.objs.size<|vu [x,y],?_,rfl,(_,x,y,hn,rfl,rfl,λws hw=>by rw[I.list_inj hw u];show R,λws hw=>by rw[I.list_inj hw B];show hy),
   (hz2,wh t _ _ d.a<|hk1 _ _ d.a d.e d.f d.g l,(_,_,wh t _ _ d.b hTO1),g11.extBut (wh t) d.c,g12.extBut (wh t) d.d),λb hb=>?_)
  .change L2.Inv X oO σ _ { s with heap:=g2,toks:=sq s };show LS (s:=s) (fp:=[z,TI,TO,i1,i2]) I (λb o hb q=>?_) hf (ag _) (by simp only[lCq,cw];rw[mB];decide,[u1,u2],iL ru1<|iL ru2 lX,_,wh t _ _ (gG hzl) hT1,rfl,_,rfl);have b1:b≠z:=λe=>hb<|by simp[e]
   show wh t b o b1<|hk1 b o b1 (λe=>hb<|by simp[e]) (λe=>hb<|by simp[e]) (λe=>hb<|by simp[e]) q
  .have hb2:b<s.heap.objs.size:=by
    have hb':=hb;simp only[ae,cP,or_false]at hb';obtain rfl|rfl|rfl|rfl|rfl:=hb';.show hzl
    .show aw l
    .show aw n
    .have(_,q,_):=O;show aw q
    .have(_,q,_):=Q;show aw q
   rw[pK<|aS hb2];show(hf b hb).1
 done:=by
  intro X hP hw hK hc i oO s σ H E I hf st hg;subst hP hw hK;have(xs,ys,u,B,R):=hg;have(its1,L,p1,_):=tu I u;have(its2,M,p2,_):=tu I B;have(hz,l,(a,c,n),O,Q):=st;have G:=λb hb=>Ja I u<|hf b hb;have J:=λb hb=>Ja I B<|hf b hb;have D:ZipApart z TI TO i1 i2 U Y:=(d.a,d.b,d.c,d.d,d.e,d.f,d.g,d.h,d.i,d.j,G z ⋯,G TO ⋯,G i1 ⋯,G i2 ⋯,J z ⋯,J TO ⋯,J i1 ⋯,J i2 ⋯);have e1:=n7 L;have e2:=n7 M;show wpAny_pyNext_zip_end (I.ok.hd hc) D hz l n O Q (j6 p1) (j6 p2) ?_ λg1 eb=>(rfl,xA I (λb o hb q=>eb b o (λe=>hb<|by simp[e]) (λe=>hb<|by simp[e]) (λe=>hb<|by simp[e]) (λe=>hb<|by simp[e]) q) hf);obtain R|R:=R;.show jE<|by simp;lia
  .show iq<|by simp;lia
 self:=λZ Z Z Z Z st h=>wpAny_pyIter_zip st.1 h
def UQ(K:Ζ)(n:TA):TI:=λσ H R=>n σ H λvs l=>∃a,vs=[c6 a]/\(∃xs,tJ K l a xs)/\R (Ite K a) l
def Qa(G:Gl X "enumerate")(J:X.mg "enumerate" = n_)(ha:PA X [e] B)(L:↑(lC [e] X.env=[%[f_|eval e<|k7 X]])) :
  PI X (vb elts kk tpos) (ri (fY "enumerate" p) [e] [] pos)<|UQ X.K B:=by
 intro M s σ H R I h;show Call_<|yV I G J boot_enumerate<|bR (thn (ha pos M s σ H _ I h) λus n x=>?_) L rfl;have(vs,O,t,P,Q):=x;have(a,S,(xs,U),q):=Q;subst S;have(u,rfl,Y):=xq P;cases Y;have(its,rv,p1,hz):=tu t U;show call_enumerate_list (j6 p1) λg E z hsz hk=>wpAny_pyIter_enum E ?_;show(n.heap.objs.size+1,[n.heap.objs.size+1,n.heap.objs.size],_,_,O,rfl,t.kept hk,Sb a _ _<|jT _,((_,E),z),λb hb=>?_,q);have l:n.heap.objs.size<=b:=by
  simp only[ae,cP,or_false]at hb;obtain rfl|rfl:=hb;.show cO _
  .show ag _
 show t.fpOk l<|p5 (L0 t) l
def adS(K:Ζ)(n:TA):TI:=λσ H R=>n σ H λvs l=>∃a b,vs=[c6 a,c6 b]/\(∃xs,tJ K l a xs)/\(∃s,tJ K l b s)/\R (Itz K a b) l
def aaS(Q:Gl X "zip")(S:X.mg "zip" = n_)(ha:PA X [e,f] J)(U:↑(lC [e,f] X.env=[%[f_|eval e<|k7 X],%[f_|eval f<|k7 X]]))(n:↑(lC [f] X.env=[%[f_|eval f<|k7 X]])) :
  PI X (vb elts kk tpos) (ri (fY "zip" p) [e,f] [] pos)<|adS X.K J:=by
 intro Y s σ H R I h;show Call_ (yV I Q S boot_zip<|bR (thn (ha pos Y s σ H _ I h) λus l o_=>?_) (by rw[U,n])<|by rw[n];rfl);have(vs,H1,t,r1,q1):=o_;have(a,b,e1,(xs,z),(ys,B),q):=q1;subst e1;have(u,v,rfl,ru,rv):=Y7 r1;cases ru;cases rv;have(L,_,p1,_):=tu t z;have(M,_,p2,_):=tu t B;show call_zip_2 (j6 p1) (j6 p2) λg O E G h1 h2 hsz hk=>wpAny_pyIter_zip O ?_;show(l.heap.objs.size+4,[l.heap.objs.size+4,l.heap.objs.size+2,l.heap.objs.size+3,l.heap.objs.size,l.heap.objs.size+1],_,_,H1,rfl,t.kept hk,
  Ta a b _ _ _ _ _<|ad4 l.heap.objs.size,(O,E,(_,_,G),h1,h2),λc P=>?_,q);have x:l.heap.objs.size<=c:=by
  simp only[ae,cP,or_false]at P;obtain rfl|rfl|rfl|rfl|rfl:=P;.show gW _ _
  .show gW _ _
  .show gW _ _
  .show ag _
  .show gW _ _
 show t.fpOk x<|p5 (L0 t) x
def Wh{K}{tb:TS}{D:AU}(l:Nat->St->Hp->Prop)(B:l 0 σ H)(hl:∀i σ H,i<=de xs->l i σ H->tJ K H a xs)
  (E:∀i x σ H T,xs[i]?=aB x->l i σ H->H T=n_->tb { D with nx:=l (i+1),ct:=l (i+1),bk:=D.nx } (fb (fb σ i1<|aB<|c7 i) i2<|aB x) (rG H T<|vu [c7 i,x])) (hd:∀σ H,l (de xs) σ H->D.nx σ H) :
  ∃W:Nat->Nat->St->Hp->Prop,(∃m,W 0 m σ H)/\∀i m σ H,W i m σ H ->
   ((Ite K a).stop i H/\D.nx σ H)∨((Ite K a).go i H/\∃N:St->Hp->Prop,(∀n s,N n s->∃z,z<m/\W (i+1) z n s)/\∀x s,(Ite K a).yld i H x s->NK K 2 (zi (sO i1)<|zi (sO i2) Ot) x σ s λu G=>tb { D with nx:=N,ct:=N,bk:=D.nx } u G):=by
 show(λi m σ H=>m=de xs-i/\i<=de xs/\l i σ H,(de xs,by simp,aY _,B),?_);rintro i m σ H ⟨rfl,hi,p⟩;have q:=hl i σ H hi p;by_cases t:i<de xs;.show iq ((xs,xs[i],q,by simp[t]),l<|i+1,λn s I=>(de xs-(i+1),by omega,rfl,t,I),λv s y=>?_);have(T,x,J,rfl,rfl,L):=y;show(T,_,rfl,aA1 pS,rfl,_,_,rfl,_,_,rfl,rfl,E i x σ H T (L xs q) p J)
 .have e:i=de xs:=by rfl'
  subst e;show jE ((xs,q,ag _),hd σ H p)
def Yw{K}{tb:TS}{D:AU}(l:Nat->St->Hp->Prop)(J:l 0 σ H)(z:de xs=de n)
  (hl:∀i σ H,i<=de xs->l i σ H->tJ K H a xs/\tJ K H b n)
  (L:∀i x y σ H T,xs[i]?=aB x->n[i]?=aB y->l i σ H->H T=n_->tb { D with nx:=l (i+1),ct:=l (i+1),bk:=D.nx } (fb (fb σ i1<|aB x) i2<|aB y) (rG H T<|vu [x,y])) (hd:∀σ H,l (de xs) σ H->D.nx σ H) :
  ∃W:Nat->Nat->St->Hp->Prop,(∃m,W 0 m σ H)/\∀i m σ H,W i m σ H ->
   ((Itz K a b).stop i H/\D.nx σ H)∨((Itz K a b).go i H/\∃N:St->Hp->Prop,(∀s t,N s t->∃I,I<m/\W (i+1) I s t)/\∀x t,(Itz K a b).yld i H x t->NK K 2 (zi (sO i1)<|zi (sO i2) Ot) x σ t λB M=>tb { D with nx:=N,ct:=N,bk:=D.nx } B M):=by
 show(λi m σ H=>m=de xs-i/\i<=de xs/\l i σ H,(de xs,by simp,aY _,J),?_);rintro i m σ H ⟨rfl,hi,p⟩;have(E,G):=hl i σ H hi p;by_cases u:i<de xs;.show iq ((xs,n,xs[i],n[i],E,G,by simp[u],by simp[z ▸ u]),l<|i+1,λs t O=>(de xs-(i+1),by lia,rfl,u,O),λv t y=>?_);have(T,x,y,P,rfl,rfl,Q,R):=y;show(T,_,rfl,aA1 pS,rfl,_,_,rfl,_,_,rfl,rfl,L i x y σ H T (Q xs E) (R n G) p P)
 .have e:i=de xs:=by rfl'
  subst e;show jE ((xs,n,E,G,jE<|ag _),hd σ H p)
def Tz{σ:St}{ns:Ϝ}(I:Inv X n σ H s)(h:tJ X.K H a<|ns.map c7) :
  ∃vs:Ξ,s.heap.IsList a (c5 vs)/\lL vs ns/\de ns<=sizeLine:=by have(l,r,p,z):=tu I h;rw[lMq]at z;show(l,j6 p,Cz r,z)
def acQ(K:Ζ)(x:V)(H:Hp)(T:String)(b:Bool):Prop:=match x with
 | c7 _=>(T = "int" /\ b=t_)∨(T = "bool" /\ b=f_)
 | pY _=>(T = "bool" /\ b=t_)∨(T = "int" /\ b=t_)
 | wy _=>T = "str" /\ b=t_
 | c6 p=>(T = "list" /\ b=t_/\∃xs,tJ K H p xs)∨(T = "dict" /\ b=t_/\∃kvs,H p=aB (wm kvs))∨(T = "tuple" /\ b=t_/\∃xs,Hh K H p xs)
 |_=>False
def Wj:zA X (gp "isinstance")<|λxs H Q=>∃x T b,xs=[x,.ty T]/\acQ X.K x H T b/\Q (pY b) H:=by intro B s σ H xs P Q I r h;have(x,T,b,rfl,e,q):=h;have(u,v,rfl,l,E):=Y7 r;cases E;cases x with
 |int i=>
  have(t,rfl):=l;obtain⟨rfl,rfl⟩|⟨rfl,rfl⟩:=e;.show lU (mj (Tx:= "int") aBe F.sub_int_int) ((show Qf s (jK i t) "int" from rfl),(pY t_,H,I,rfl,q))
  .show lU (isinstance_false_int (by trivial) aB0 F.sub_int_bool)<|show EP X B σ Q (kQ f_) { s with toks:=sq s+1 } from (pY f_,H,I.tok _,rfl,q)
 |bl i=>
  cases l;obtain⟨rfl,rfl⟩|⟨rfl,rfl⟩:=e;.show lU (mj (Tx:= "bool") aB0 F.sub_bool_bool) ((show Qf s (kQ i) "bool" from rfl),(pY t_,H,I,rfl,q))
  .show lU (mj (Tx:= "bool") aBe F.sub_bool_int) ((show Qf s (kQ i) "bool" from rfl),(pY t_,H,I,rfl,q))
 |str i=>have(t,rfl):=l;have(rfl,rfl):=e;show lU (mj (Tx:= "str") F.isi_meta_str F.sub_str_str) ((show Qf s (XP i t) "str" from rfl),(pY t_,H,I,rfl,q))
 |ref p=>
  cases l;obtain⟨rfl,rfl,xs,hS⟩|⟨rfl,rfl,n,G⟩|⟨rfl,rfl,xs,hS⟩:=e;.have(z,J,pl,L):=tu I hS;show lU (mj F.isi_meta_list<|by kernel_rfl) (pl.isList.typeIs,(pY t_,H,I,rfl,q))
  .have ty:=(ab1 I<|jE (n,jE G)).1;show lU (mj F.isi_meta_dict<|by kernel_rfl) (ty,(pY t_,H,I,rfl,q))
  .have(z,J,(o,M,O,_),L):=I.tuple hS;show lU (mj F.isi_meta_tuple<|by kernel_rfl) ((o,M,O),(pY t_,H,I,rfl,q))
 |_=>show(e).elim
end Mr
namespace Mr
open PySem L2
structure yO (K:Ζ)(mg:Str->Υ)(x:Str)(st:Stmt)(ps:List Str)(f:Addr)(fd:lH):Prop where
 F:Y3 K x x st f fd
 m:mg x=aB (.ref f)
 b:Bb K fd ps []
def xU(h:H p=n_):qi H<|rG H p o:=λb u e=>by rw[pK<|rp e h];show e
end Mr
namespace Mr
open PySem PySem.Spec PyProof.Rows L2
def Ld(I:Nat->kS->Prop)
  (turn:∀n s,I n s->lg (kZ prog w) A (oj Y) (λr t=>match r with
   |n_=>R (.ok aAk) t
   |aB v=>lg (kZ prog w) A (nO l Y v) (λZ B=>lg (kZ prog w) A (nK l env v) (λZ E=>lg (kZ prog w) A (forIn O t_ λc r=>if r=t_ then do let ok ←isTrue c env (eval c env);pure (k6 ok)else pure<|k6 r) (λok u=>if ok=t_ then lg (kZ prog w) A (eval M env) (λx G=>lg (kZ prog w) A (call (gp "list.append") [P,x]) (λZ H=>∃m,m<n/\I m H) (λZ Z=>False) G) (λZ Z=>False) u
      else ∃m,m<n/\I m u) (λZ Z=>False) E) (λZ Z=>False) B) (λZ Z=>False) t) (λZ Z=>False) s)
  n (h:I n s):mO (kZ prog w) A (.compLoop (o8 M [(l,iter,O,0)] scope pos) 0 Y P env) R s:=by show codeAny_loop rfl I (λn s hI=>?_) n h;show wpAny_noted ?_;show kU<|ox<|kU<|lF (turn n s hI) (λr t J=>?_) λZ Z z=>j5 z;cases r with
 |none=>show lz J
 |some v=>show kU<|lF J (λZ B Q=>?_) λZ Z z=>j5 z;show kU<|lF Q (λZ E S=>?_) λZ Z z=>j5 z;show kU<|lF S (λok u L=>?_) λZ Z z=>j5 z;cases ok with
  |false=>show lz (rfl,L)
  |true=>show kU<|kU<|lF L (λx G U=>kU<|lF U (λZ H X=>lz<|lz (rfl,X)) λZ Z z=>j5 z) λZ Z z=>j5 z
noncomputable abbrev tF(X:Cx)(scope:lJ)(cl:List<|Str×Addr)(N:List Str)(C:Addr)(s:kS)(H:Hp)(fp:Δ):Cx where
 prog:=g9 X
 w:=X.w
 K:=X.K
 mg:=X.mg
 base:=X.base
 A:=X.A
 N:=N
 s₀:=s
 H₀:=H
 env:=compEnvC scope cl C<|k7 X
 outer:=X.stack
 stack:=X.stack
 ex:=fp
 fn:=λQ=>f_
 calm:=X.calm
 pn:=[]
 xe:=λQ Q=>False
def PF(X:Cx)(l:List Expr)(t:TT):Prop:=∀n s (σ:St) H Q,Inv X n σ H s->t σ H Q ->
  lg (kZ X.prog X.w) X.A (forIn l t_ λc r=>if r=t_ then do let ok ←isTrue c X.env (eval c<|k7 X);pure (k6 ok)else pure<|k6 r) (TP X n σ Q) X.xe s
def adJ:TT:=λZ H Q=>Q t_ H
def xi:PF X [] adJ:=λQ Q Q H Q I h=>wpAny_tests_nil (H,I,h)
def CB(h:PT X c t):PF X [c] t:=λl s σ H Q I q=>wpAny_tests_one<|h l s σ H Q I q
structure tR (X:Cx)(scope:lJ)(cl:List<|Str×Addr)(x:Str)(N:List Str)(fr:Θ):Prop where
 names:N.Nodup
 own:N[0]?=aB x
 len:N.length=fr.length+1
 sub:∀y c,cl.lookup y=aB c->X.env.cells.lookup y=aB c
 has:∀y,((lQ scope X.env).names.lookup y=aB .cell∨(lQ scope X.env).names.lookup y=aB .free)->∃c,cl.lookup y=aB c
 get:∀(k j:Nat) (y:Str),fr[k]?=aB j->N[k+1]?=aB y->X.N[j]?=aB y/\X.env.scope.names.lookup y=aB .cell/\(lQ scope X.env).names.lookup y=aB .cell
structure S4 (X:Cx)(scope:lJ)(cl:List<|Str×Addr)(q:Nat)(N:List Str)(fr:Θ):Prop where
 len:N.length=fr.length+q
 sub:∀y c,cl.lookup y=aB c->X.env.cells.lookup y=aB c
 has:∀y,((lQ scope X.env).names.lookup y=aB .cell∨(lQ scope X.env).names.lookup y=aB .free)->∃c,cl.lookup y=aB c
 get:∀(k j:Nat) (y:Str),fr[k]?=aB j->N[k+q]?=aB y->X.N[j]?=aB y/\X.env.scope.names.lookup y=aB .cell/\(lQ scope X.env).names.lookup y=aB .cell
def tR.g(h:tR X scope cl x N fr):S4 X scope cl 1 N fr:=(h.len,h.sub,h.has,h.get)
def tR.none(h:∀p∈fX scope,p.2 ≠ n4/\p.2 ≠ sD):tR X scope [] x [x] [] where
 names:=by simp
 own:=rfl
 len:=rfl
 sub:=λy c e=>by cases e
 has:=λy e=>by
  exfalso;have key:∀p∈fX (lQ scope<|k7 X),p.2 ≠ n4/\p.2 ≠ sD:=by
   intro p s;have(q,t,rfl):=mMq.mp s;have(n,k):=q;have(u,l):=h _ t;have hk:(k == sD)=f_:=by simpa using l
   simp only[hk,kg];show(u,l)
  obtain e|e:=e;.show(key _<|eF e).1 rfl
  .show(key _<|eF e).2 rfl
 get:=λk j y e Q=>by cases e
noncomputable def slots(σ:St)(fr:Θ):St:=fr.map λj=>q9 (σ[j]?)
def Po(E:TI)(fr:Θ)(G:TT)(te:TE):TE:=λσ H Q=>E σ H λJ t=>∀l,t l=n_->∃W:Nat->Nat->Hp->Prop,(∃m,W 0 m<|rG t l<|eH [])/\∀i m H,W i m H ->
 (J.stop i H/\Q (c6 l) H) ∨
 (J.go i H/\∃N:Hp->Prop,(∀n,N n->∃u,u<m/\W (i+1) u n)/\∀x n,J.yld i H x n->G (aB x::slots σ fr) n λb z=>if b=t_ then te (aB x::slots σ fr) z λy B=>∃s,B l=aB (eH s)/\de s<sizeLine/\N (rG B l<|eH<|s++[y])else N z)
def EL{own:St->Prop}{RR:Value->Addr->Result->kS->Prop}{Q:VK}
  (hc:X.calm=t_) (hcell:∀y∈fX scope,y.2 ≠ n4) (hkind:scope.kind = o5) (hF:S4 X scope cl q N fr) (pg:∀C s H fp,PG (tF X scope cl N C s H fp) tg gq) (hw:∀Y,own Y->∃ws:St,de ws=q/\Y=ws++slots σ fr)
  (hf:∀C s H fp,PF (tF X scope cl N C s H fp) ifs tf) (he:∀C s H fp,PE (tF X scope cl N C s H fp) elt te)
  (I:Inv X oO σ H s) (T:JI X.prog X.w X.K tg J fp it tn) (st:tn 0<|d7 s) (O:∀b∈fp,yu X oO H b)
  (h:∀L,H L=n_->∃W:Nat->Nat->Hp->Prop,(∃m,W 0 m<|rG H L<|eH [])/\∀i m H,W i m H ->
   (J.stop i H/\Q (c6 L) H) ∨
   (J.go i H/\∃N:Hp->Prop,(∀R,N R->∃m',m'<m/\W (i+1) m' R)/\∀x R,J.yld i H x R->∀vs:St,de vs=q->gq x (vs++slots σ fr) R λY H1=>own Y/\tf Y H1 λb H2=>if b=t_ then te Y H2 λy H3=>∃ys,H3 L=aB (eH ys)/\de ys<sizeLine/\N (rG H3 L<|eH<|ys++[y])else N H2))
  (fin:∀L C s' Hf m,Inv X oO σ Hf s'->s'.heap.Ns C m->yu X oO Hf C->Q (c6 L) Hf->RR (dS L) C (.ok aAk) s') :
  lg (kZ X.prog X.w) X.A (newList []) (λL S=>lg (kZ X.prog X.w) X.A (oe scope X.env.globals cl [] X.env.qual n_ ly<|aB<|k7 X) (λcenv s₄=>mO (kZ X.prog X.w) X.A (aAr (o8 elt [(tg,iter,ifs,0)] scope pos) 0 (dS it) L { cenv with scope:=lQ scope<|k7 X }) (RR L<|oM cenv) s₄) E S) E s:=by
 show wpAny_newObj_type<|oq hcell (by intro y hy;simp at hy) (λM P B=>?_) hkind;skip;generalize hG:pF (d7 s) { cls:=iU "list", dict:=n_,data:=mY<|c5 ([]:Ξ) }=G at P B ⊢;have hC:G.objs.size=s.heap.objs.size+1:=by rw[←hG,Heap.size_push]
 have hCle:s.heap.objs.size<=G.objs.size:=by rw[hC];show cO _
 have hDC:s.heap.objs.size≠G.objs.size:=by rw[hC];show aS<|gU _
 have below:∀b,b<s.heap.objs.size->b≠G.objs.size:=λb hb=>by rw[hC];show aS<|dX hb
 have old:∀b o,eL (d7 s) b=aB o->eL M b=aB o:=λb o e=>wh B b o (below b<|aw e)<|ak _<|hG ▸ ak _ e;have hacc:eL M s.heap.objs.size=aB { cls:=iU "list", data:=mY<|c5 ([]:Ξ) }:=wh B _ _ hDC<|ak _<|hG ▸ bw _ rfl;have hn:H s.heap.objs.size=n_:=p5 (L0 I)<|ag _;have hnC:H G.objs.size=n_:=p5 (L0 I) hCle;have fpl:∀b∈fp,b<s.heap.objs.size:=λb hb=>by have(o,q,_):=T.obj 0 _ st b hb;show aw q
 have(W,(m0,w0),turn):=h _ hn;have ok':(tF X scope cl N G.objs.size s H fp).Ok:=by
  show(I.ok.mod,by change(lQ scope<|k7 X).kind = o5;show hkind,I.ok.glob,I.ok.blt,hCle,λy z c h1 h2=>I.ok.inj y z c (hF.sub y c h1)<|hF.sub z c h2,hF.has,λZ Z z Z=>(by cases z),I.ok.hd,I.ok.frames,jE rfl,
   λb hb=>(below b<|fpl b hb,λy c e=>(O b hb).2.2.2.2.1 y c<|hF.sub y c e),λb o e=>((I.bs b o e).1,(I.bs b o e).2),bI I.ok.bsz I.sz,λb o e hb=>?_,λb hb z=>?_,I.stack,I.stkFree,I.tb)
  .obtain q|q:=(O b hb).2.2.2.1;.show I.ok.noex b o e q
   .show absurd (bg (aw (I.ok.bs b o e).1) q)<|dY _
  .obtain q|q:=ae.mp<|I.stkSub b z;.show(O b hb).2.1 q
   .show(O b hb).2.2.1 q
 have I0:Inv (tF X scope cl N G.objs.size s H fp) [] (ao q n_++slots σ fr) (rG H s.heap.objs.size<|eH []) { s with heap:=M,toks:=sq s+de ([]:List<|Str×Value) }:=by
  have hok1:CQ X.prog X.w (rG H s.heap.objs.size<|eH []) M:=I.hok.laid old (ag _) (aY _,[],0,lX,hacc);show(ok',rfl,I.bare,Un.laid old (ag _) hn,(_,P,λk y v e1 e2 e3=>?_),λy c e=>?_,?_,λy c e=>?_,λp hp=>absurd (show p∈([]:Φ)from hp) ⋯,hok1,?_)
  .by_cases kq:k<q;.have e2:(ao q n_++slots σ fr)[k]?=aB (aB v):=e2;rw[gZq<|by rw[aU];show kq,bK,pZ kq]at e2;cases e2
   .obtain⟨k,rfl⟩:∃j,k=j+q:=(k-q,by lia);have U:(ao q n_++slots σ fr)[k+q]?=aB (aB v):=e2;rw[gYq<|by rw[aU];rfl',aU,dQ]at U;delta slots at U;rw[gMq]at U;cases ej:fr[k]? with
    |none=>rw[ej]at U;cases U
    |some j=>
     rw[ej]at U;have e2j:q9 (σ[j]?)=aB v:=aB.inj U;have e2s:σ[j]?=aB (aB v):=by cases q:σ[j]? with
      |none=>rw[q]at e2j;cases e2j
      |some z=>rw[q]at e2j;show congrArg aB e2j
     have(g1,g2,g3):=hF.get k j y ej e1;have(m,_,hl):=I.loc;have(u,r,l):=hl j y v g1 e2s<|iq<|jE g2;show(u,r,iq (jE g3,?_));have(c,e):=hF.has y<|jE g3;have e':=hF.sub y c e;obtain⟨l1,_⟩|⟨_,c',ec,hcell'⟩:=l;.have l1':X.env.scope.names.lookup y=aB j8:=l1;rw[g2]at l1';cases l1'
     .rw[e']at ec;cases ec;have(o,ho,hd):=hcell';show(c,e,o,old c o ho,hd)
  .have(v,o,ho,hd):=I.cell y c<|hF.sub y c e;show(v,o,old c o ho,hd)
  .change rG H s.heap.objs.size (eH []) G.objs.size=n_;rw[pK<|mr hDC];show hnC
  .have(v,o,ho,hd):=I.cell y c<|hF.sub y c e;rw[pK<|aS<|aw ho];show I.freeC y c<|hF.sub y c e
  .change(de (ao q n_++slots σ fr))=de N;delta slots;simp only[hF.len,lAq,aU,lMq,eN]
 have st1:tn 0 M:=T.keep 0 _ _ st λb Z o e=>old b o e;have nf0:∀b∈fp,rG H s.heap.objs.size (eH []) b=n_:=λb hb=>by rw[pK<|aS<|fpl b hb];show(O b hb).1
 have stat:∀{R:Hp},(∀b∈fp,R b=n_)->∀b∈fp,yu (tF X scope cl N G.objs.size s H fp) [] R b:=λhn' b hb=>(hn' b hb,below b<|fpl b hb,ok'.exfs b hb,jE hb,λy c e=>(ok'.exf b hb).2 y c e,λp hp=>absurd (show p∈([]:Φ)from hp) ⋯);have loop:∀S:kS,S={ s with heap:=M,toks:=sq s+de ([]:List<|Str×Value) } ->
   mO (kZ X.prog X.w) X.A (.compLoop (o8 elt [(tg,iter,ifs,0)] scope pos) 0 (dS it) (dS s.heap.objs.size)<|compEnvC scope cl G.objs.size<|k7 X) (RR (dS s.heap.objs.size) G.objs.size) S:=by
  rintro S rfl;show Ld (λn s'=>∃i vs R,de vs=q/\Inv (tF X scope cl N G.objs.size s H fp) [] (vs++slots σ fr) R s'/\tn i s'.heap/\(∀b∈fp,R b=n_)/\W i n R) ?_ m0 (0,_,_,aU,I0,st1,nf0,w0);rintro n s4 ⟨i,vs,H4,lv,I4,st4,nf4,w4⟩;obtain⟨stop,qq⟩|⟨go,Nx,hNx,step⟩:=turn i n H4 w4;.show thn (T.done (tF X scope cl N G.objs.size s H fp) rfl rfl rfl hc i [] s4 (vs++slots σ fr) H4 (λZ Z=>False) I4 (stat nf4) st4 stop) λr s5 t=>?_;have(hr,I5):=t;subst hr;have(m,hm,_):=I5.loc;have I6:Inv X oO σ H4 s5:=I.call' (ch:=fp) I5.os I5.base I5.hok I5.bare λb hb=>((O b hb).2.2.2.1,(O b hb).2.1,(O b hb).2.2.2.2.1,(O b hb).2.2.2.2.2);show fin _ _ s5 H4 m I6 hm (I.fpOk hCle I5.free) qq
  .show thn (T.item (tF X scope cl N G.objs.size s H fp) rfl rfl rfl hc i [] s4 (vs++slots σ fr) H4 (λZ Z=>False) I4 (stat nf4) st4 go) λr s5 t=>?_;have(u,hr,h5):=t;subst hr;show thn h5 λZ s6 t=>?_;have(y,H6,I6,r6,y6,st6,nf6):=t;have I6':=I6.pinned (stat nf6)<|T.obj _ _ st6;show thn (pg _ _ _ _ _ s6 (vs++slots σ fr) H6 y u _ I6' r6<|step y _ y6 vs lv) λZ s7 t=>?_;have(σ7,H7,I7,o7,q7):=t;have(ws,lw,e7):=hw _ o7;subst e7;show thn (hf _ _ _ _ _ s7 _ _ _ I7 q7) λb s8 t=>?_;have(H8,I8,q8):=t;have again:∀{s9:kS}{H9:Hp},Inv (tF X scope cl N G.objs.size s H fp) ([]++FJ fp s6.heap) (ws++slots σ fr) H9 s9->Nx H9->∃m,m<n/\∃i vs R,de vs=q/\Inv (tF X scope cl N G.objs.size s H fp) [] (vs++slots σ fr) R s9/\tn i s9.heap/\(∀b∈fp,R b=n_)/\W i m R:=λ{s9 H9} I9 n9=>by have(m',hm,w9):=hNx H9 n9;show(m',hm,i+1,ws,H9,lw,I9.unpinned,T.keep _ _ _ st6 λb hb o e=>(I9.pin %[b|o]<|ah _<|ah _<|Ay hb e).1,λb hb=>?_,w9);have(o,e,d):=T.obj _ _ st6 b hb;show(I9.pin %[b|o]<|ah _<|ah _<|Ay hb e).2.1
   cases b with
   |false=>show again I8 q8
   |true=>show thn (he _ _ _ _ _ s8 _ _ _ I8 q8) λz s9 t=>?_;have(zv,H9,I9,r9,ys,a9,l9,n9):=t;show thn (rM _ s9 _ H9 (c6 s.heap.objs.size) [zv] (dS s.heap.objs.size) [z] (λZ R=>R=rG H9 s.heap.objs.size (eH<|ys++[zv])) I9 rfl (iL r9 lX) (_,ys,zv,rfl,rfl,a9,l9,rfl)) λZ s10 t=>?_;have(_,H10,I10,_,e10):=t;subst e10;show again I10 n9
 show codeAny_compStart_list (loop _ rfl)<|T.self X.A 0 _ _ _ st1<|loop _ rfl
def FC{σ:St}{RR:Value->Addr->Result->kS->Prop}{Q:VK}
  (hc:X.calm=t_) (t:∀y∈fX scope,y.2 ≠ n4) (u:scope.kind = o5) (hx:scope.names.lookup x=aB j8) (O:tR X scope cl x N fr)
  (hf:∀C s H fp,PF (tF X scope cl N C s H fp) ifs tf) (he:∀C s H fp,PE (tF X scope cl N C s H fp) elt te)
  (I:Inv X M σ H s) (T:JI X.prog X.w X.K (fY x px) J fp U Y) (st:Y 0<|d7 s) (P:∀b∈fp,yu X M H b)
  (h:∀l,H l=n_->∃W:Nat->Nat->Hp->Prop,(∃m,W 0 m<|rG H l<|eH [])/\∀i m H,W i m H ->
   (J.stop i H/\Q (c6 l) H) ∨
   (J.go i H/\∃N:Hp->Prop,(∀z,N z->∃m',m'<m/\W (i+1) m' z)/\∀x z,J.yld i H x z->tf (aB x::slots σ fr) z λb H2=>if b=t_ then te (aB x::slots σ fr) H2 λy H3=>∃R,H3 l=aB (eH R)/\de R<sizeLine/\N (rG H3 l<|eH<|R++[y])else N H2))
  (fin:∀l C S Hf m,Inv X M σ Hf S->S.heap.Ns C m->yu X M Hf C->Q (c6 l) Hf->RR (dS l) C (.ok aAk) S) :
  lg (kZ X.prog X.w) X.A (newList []) (λl B=>lg (kZ X.prog X.w) X.A (oe scope X.env.globals cl [] X.env.qual n_ ly<|aB<|k7 X) (λn G=>mO (kZ X.prog X.w) X.A (aAr (o8 elt [(fY x px,iter,ifs,0)] scope pos) 0 (dS U) l { n with scope:=lQ scope<|k7 X }) (RR l<|oM n) G) E B) E s:=by
 show EL (own:=λL=>∃a,L=a::slots σ fr) hc t u O.g (λC s H fp=>DI O.names O.own (jE<|lS hx)<|iq<|lS hx) (λL e=>?_) hf he I T st P (λl ha=>?_) fin;.have(a,rfl):=e;show([a],rfl,rfl)
 .have(W,w0,turn):=h l ha;show(W,w0,λi m H w=>(turn i m H w).imp id λo_=>?_);have(go,N,hN,stp):=o_;show(go,N,hN,λx z y vs lv=>?_);match vs,lv with
  | [v],_=>show((aB x,rfl),stp x z y)
def wJ(G:X.calm=t_)(t:nF scope X.env=pure cl)(u:∀y∈fX scope,y.2 ≠ n4)(l:scope.kind = o5)(n:∀y∈fX scope,y.2 = j8->scope.names.lookup y.1=aB j8)
  (L:scope.names.lookup x=aB j8) (M:tR X scope cl x N fr) (hi:PI X (fY x px) iter E) (hf:∀C s H fp,PF (tF X scope cl N C s H fp) ifs tf) (O:∀C s H fp,PE (tF X scope cl N C s H fp) elt te)
  (P:autoParam (∀x,mV iter X.env x=pure x) d_._auto_1):PE X (o8 elt [(fY x px,iter,ifs,0)] scope pos)<|Po E fr tf te:=by intro R s σ H Q I h;show mR rfl P t l n<|thn (hi R s σ H _ I h) λv s1 S=>thn S λU s2 Y=>?_;have(it,fp,tn,J,H2,e,I2,T,Et,f2,q2):=Y;subst e;show FC G u l L M hf O I2 T Et f2 q2 ?_;intro B C s' Hf m I' hm z q;show(m,hm,λh' sb=>(c6 B,Hf,?_,rfl,q));show I'.turned (λb o hb e=>fq (sb.2 b hb) e) z.1 z.2.1 z.2.2.2.1 z.2.2.2.2.1 z.2.2.2.2.2
def yv(hc:X.calm=t_)(hN:c8 X.N)(hi0:X.N[i]?=aB y)(hy:Loc X.env.scope y)(E:nF scope X.env=pure cl)(G:∀y∈fX scope,y.2 ≠ n4)(l:scope.kind = o5)
  (n:∀y∈fX scope,y.2 = j8->scope.names.lookup y.1=aB j8)
  (hx:scope.names.lookup x=aB j8) (hF:tR X scope cl x N fr) (hi:PI X (fY x px) iter wi) (hf:∀C s H fp,PF (tF X scope cl N C s H fp) ifs tf) (he:∀C s H fp,PE (tF X scope cl N C s H fp) elt te)
  (R:↑(nS (o8 elt [(fY x px,iter,ifs,0)] scope pos) (aB<|fY y py) B.line X.env=pure t_)) (hs:autoParam (∀x,mV iter X.env x=pure x) d_._auto_1)
  (S:↥(X.fn y=t_∨X.env.scope.names.lookup y=aB j8)) :
  PS X (aA7 [fY y py] (o8 elt [(fY x px,iter,ifs,0)] scope pos) B)<|C0 (Po wi fr tf te)<|sO i:=by
 intro O s σ H D I h;rw[exec_Assign_Name_used _ _ _ _ R];show kU<|ox<|kU ?_;change lg _ X.A (do let _ ←comprehension (o8 elt [(fY x px,iter,ifs,0)] scope pos) scope X.env _ (newList []) f_ (eval iter<|k7 X) (aB<|nK (fY y py)<|k7 X)) _ _ s;show kU (lF (mR (use:=aB<|nK (fY y py)<|k7 X) (Q:=λZ L=>SP X O D aAk L) rfl hs E l n
  (thn (hi O s σ H _ I h) λv s1 h1=>thn h1 λitv s2 h2=>?_)) (λZ L hq=>lz<|lz hq) λZ Z e=>e);have(it,fp,tn,J,H2,e,P,T,Et,f2,U):=h2;subst e;show FC (RR:=λt C=>compPost (kZ X.prog X.w) X.A X.xe (aB<|nK (fY y py)<|k7 X) (λZ L=>SP X O D aAk L) t C) (Q:=λv H'=>D.nx (fb σ i<|aB v) H') hc G l hx hF hf he P T Et f2 U ?_;intro t C L Hf m I' hm M q;have(o,es,ep,ho,hd,r):=id hm;have I1:Inv X (O++[%[C|o]]) σ Hf L:=I'.pins_of λp hp=>t6 (mAq.mp hp) (λz=>I'.pin p<|ah _ z) λz=>by
  have e:p=%[C|o]:=by simpa using z
  subst e;show(ho,M.1,M.2.1,M.2.2.1,λv z=>by rw[hd]at z;cases z)
 show thn (DI (X:=X) (i:=i) (pos:=py) hN hi0 hy S _ L σ Hf (c6 t) (dS t) _ I1 rfl q) λZ s2 Y=>?_;have(σ2,H2,P,U):=Y;have pC:=P.pin %[C|o]<|ah _<|ah _ ⋯;show(m,(o,es,ep,pC.1,hd,r),λh' sb=>(σ2,H2,?_,U));show P.unpinned.turned (t':=sq s2) (λb u hb e=>fq (sb.2 b hb) e) pC.2.1 M.2.1 M.2.2.2.1 M.2.2.2.2.1 M.2.2.2.2.2
end Mr
namespace MrS
open PySem PyProof.Rows
section
variable {s:kS}
noncomputable abbrev wK(h:Heap)(a:Addr)(vs:Ξ):Heap:=pF (pF (oN h a<|fk λQ=>#[])<|lE "tuple" (c5 vs) 0)<|lE "list" #[] 0
def B9(B:eL (d7 s) a=aB (lE "list" (c5 vs) n))(R:de vs<=sizeLine)
  (I:2<=de vs->∀Q:lY->kS->Prop,Q mK { s with heap:=wK s.heap a vs }->lg (kZ prog w) A (keyKind'<|c5 vs) Q E { s with heap:=wK s.heap a vs })
  (C:BQ prog w A { s with heap:=wK s.heap a vs } mK Pk lt) (M:∀x,x∈mD vs->Pk x)
  (h:∀xs:Array kT,jY xs (mD vs)->Cg lt xs 0 (mD vs).size->P (.done<|.ret ly) { s with heap:=nE s.heap a vs (xs.map (·.2)) }) :
  lg (kZ prog w) A (Builtin.«list.sort» ([dS a],[])) P E s:=by
 rw[list_sort_plain];have ha:a<s.heap.objs.size:=aw B;show kU<|listItems_at B rfl ?_;show kU<|oy B rfl ?_ (hsz:=by show R);obtain⟨J,t⟩:∃J,eL (oN (d7 s) a<|fk λZ=>#[]) a=aB (lE "list" #[] J):=(_,mQ B<|λZ=>#[]);show kU<|oE t rfl ?_;show kU<|wpAny_newTuple ?_;show kU<|mW ?_;show lP ?_;have l:eL (wK s.heap a vs) a=aB (lE "list" #[] J):=by rw[gM _ _ _<|by rw[ot,gj];show aS<|dX ha,gM _ _ _<|by rw[gj];show aS ha];show t
 change lg (kZ prog w) A _ P E { s with heap:=wK s.heap a vs };dsimp only;have S:vs.toArray.size=de vs:=by rfl
 have U:sizeLine=16777216:=mB;by_cases G:vs.toArray.size<2
 .rw[pZ G,pZ G];show kU<|lz ?_;rw[StateT.run_pure];show kU<|lz ?_;dsimp only;show kU<|oE l rfl ?_;show kU<|oy l rfl ?_ (hsz2:=by rw[ki];change(mD vs).size<=_;rw[nq,mB];rfl');simp only[bne_self_eq_false,eG,if_false];show lz<|h _ (jY.refl _) ?_;intro i j x y _ X Y ex O;have:i=j:=by rw[nq]at Y;lia
  subst this;rw[ex]at O;cases O;show C.refl<|M x<|aQq ex
 .rw[pW G,pW G];show kU<|I ∅ _ ?_;show kU (lF (JL C (arr:=mD vs) (g:=7) (E:=E)
   (Q:=λZ u=>∃xs p H,u=AF mK xs p H/\jY xs (mD vs)/\Cg lt xs 0 (mD vs).size) M (by rw[nq];lia) λxs p H a1 a2=>(xs,p,H,rfl,a1,a2)) ?_ λZ Z e=>e);rintro⟨⟨⟩,u⟩ s' ⟨rfl,xs,p,H,rfl,z,L⟩;dsimp only;show kU<|oE l rfl ?_;show kU<|oy l rfl ?_ (hsz2:=by show bI (fM<|fq (ki ..)<|fq (aAm z)<|nq _) ?_;rfl');simp only[bne_self_eq_false,eG,if_false];show lz<|h xs z L
def Qv{xs:Ω}vs(u:eL h a=aB (lE "list" xs n)):∃l,eL (wK h a vs) a=aB (lE "list" #[] l):=by have ha:a<h.objs.size:=aw u;obtain⟨l,t⟩:∃l,eL (oN h a<|fk λQ=>#[]) a=aB (lE "list" #[] l):=(_,mQ u<|λQ=>#[]);show(l,?_);rw[gM _ _ _<|by rw[ot,gj];show aS<|dX ha,gM _ _ _<|by rw[gj];show aS ha];show t
def OS{h:Heap}{xs:Ω}(l:Ω)(t:eL h a=aB (lE "list" xs n)):∃u,eL (oN h a<|fk λQ=>l) a=aB (lE "list" l u):=(_,mQ t<|λQ=>l)
def yJ{vs:Ξ}(h:x∈mD vs):x.1∈vs/\x.2=x.1:=by
 have(i,hi,e):=Array.mem_iff_getElem.mp h;have l:i<de vs:=by rw[nq]at hi;show hi
 have:x=%[vs[i]|vs[i]]:=by rw[←e];simp[mD]
 rw[this];show(gRq l,rfl)
def EC{vs:Ξ}(t:jY xs<|mD vs)(B:Cg lt xs 0 (mD vs).size) :
  aF (xs.map (·.2)).toList vs/\(xs.map (·.2)).toList.Pairwise (λx y=>lt %[y|y] %[x|x]=f_):=by
 constructor
 .have:=t.toList.map (·.2);have e:(mD vs).toList.map (·.2)=vs:=by
   have:b9 (mD vs)=vs.zip vs:=by simp[mD]
   rw[this];apply jU;.simp
   .intro i M O;simp
  rw[e]at this;rw[Array.toList_map];show this
 .rw[dE];intro i j hi G u;have n:i<xs.size:=by simpa using hi
  have l:j<xs.size:=by simpa using G
  have z:=B i j xs[i] xs[j] (aY _) (cY u) (by rw[←aAm t];show l) (by simp[n])<|by simp[l]
  have H:=yJ<|t.mem_iff.mp<|bq n;have I:=yJ<|t.mem_iff.mp<|bq l;have J:xs[i]=%[xs[i].2|xs[i].2]:=jF H.2.symm rfl;have L:xs[j]=%[xs[j].2|xs[j].2]:=jF I.2.symm rfl;rw[J,L]at z;simpa using z
def FP{vs:Ξ}(hl:s.heap.IsList l<|c5 vs)(H:de vs<=sizeLine)
  (hC:∀u:kS,(∀b o,eL (d7 s) b=aB o->eL (d7 u) b=aB o)->(2<=de vs->∀Q:lY->kS->Prop,Q mK u->lg (kZ prog w) A.in1.in1 (keyKind'<|c5 vs) Q E u)/\BQ prog w A.in1.in1 u mK Pk lt)
  (J:∀v∈vs,Pk %[v|v])
  (h:∀(out:Ξ) h' L,aF out vs->out.Pairwise (λx y=>lt %[y|y] %[x|x]=f_)->(∀b o,eL (d7 s) b=aB o->eL h' b=aB o) ->
   eL h' (s.heap.objs.size+1)=aB (lE "list" (c5 out) L)->Q (dS<|s.heap.objs.size+1) { s with heap:=h' }) :
  lg (kZ prog w) A (call (gp "sorted") [dS l]) Q E s:=by
 show N4 kind_sorted plain_sorted entry_sorted (args_sorted1 _) ?_;skip;show kU (m:=checkCount "sorted" 1 1 _)<|lz ?_;show kU<|collect_list hl ?_ H;show kU<|mW ?_;have t:(oN (pF (d7 s)<|lE "list" #[] 0) s.heap.objs.size (fk (· ++ c5 vs))).objs.size=s.heap.objs.size+1:=by rw[gj,ot]
 have n:eL (pF (oN (pF (d7 s)<|lE "list" #[] 0) s.heap.objs.size (fk (· ++ c5 vs)))<|lE "list" (c5 vs) 0) (s.heap.objs.size+1)=aB (lE "list" (c5 vs) 0):=by rw[←t];show bw _ rfl
 change lg _ _ _ _ _ { s with heap:=pF (oN (pF (d7 s)<|lE "list" #[] 0) s.heap.objs.size (fk (· ++ c5 vs))) (lE "list" (c5 vs) 0) };rw[t];generalize M:pF (oN (pF (d7 s)<|lE "list" #[] 0) s.heap.objs.size (fk (· ++ c5 vs))) (lE "list" (c5 vs) 0)=G at n ⊢;have O:∀b o,eL (d7 s) b=aB o->eL G b=aB o:=λb o e=>by rw[←M];show ak _ ?_;rw[fB _ _ _ _<|aS<|aw e];show ak _ e
 have I:∀b o,eL (d7 s) b=aB o->eL (wK G (s.heap.objs.size+1) vs) b=aB o:=λb o e=>by show ak _<|ak _ ?_;rw[fB _ _ _ _<|aS<|dX<|aw e];show O b o e
 have(P,R):=hC { s with heap:=wK G (s.heap.objs.size+1) vs } I;show kU<|lP<|wpAny_call_entry slot_list_sort (_,n,rfl) entry_list_sort (B9 (Pk:=Pk) (lt:=lt) n H P R (λx S=>?_) λz U X=>(_,rfl,?_))<|args_list_sort _;.have(Y,m2):=yJ S;have:x=%[x.1|x.1]:=jF rfl m2;rw[this];show J _ Y
 .have(v1,v2):=EC U X;have(e1,B):=Qv vs n;have(n1,g1):=OS (z.map (·.2)) B;show lz (_,rfl,h _ (nE G (s.heap.objs.size+1) vs (z.map (·.2))) n1 v1 v2 (λb o e=>?_) ?_);.delta nE;rw[fB _ _ _ _<|aS<|dX<|aw e];show I b o e
  .rw[show(c5 (z.map (·.2)).toList)=z.map (·.2)from Array.toArray_toList];show g1
end
end MrS
namespace HT
open PySem PyProof.Rows
section
open PySem.SeqAt
open PySem.AutoSeq1 (wpAny_loadPart')
open PySem.MeetsSeq PySem.MeetsSeq2 PySem.MeetsSeq3 PySem.SeqRoads2
def KD{vs:Ξ}{ns:Ϝ}(h:lL vs ns):∀{i}hi,∃z t,vs[i] = jK z t/\ns.drop i=z::ns.drop (i+1):=by induction h with
 |nil=>intro i hi;show absurd hi<|dg _
 |cons a t _ l=>intro i hi;cases i with
  |zero=>show(a,t,rfl,rfl)
  |succ i=>show l (i:=i)<|by simpa using hi
def JH l b(B z:Ω)n U dd J(X L:Array Υ)(ns ms:Ϝ)(hi:lL (b9 B) ns)(Q:lL (b9 z) ms)k :
  ∀i:Nat,min B.size z.size-i=k->i<=B.size->i<=z.size->Meets (Builtin.«list.__eq__.loop» ([dS l,dS b,oi i,oi 0],[]))
   (λZ R s=>eL (d7 s) l=aB { cls:=iU "list", dict:=dd,data:=mY B n,slots:=X }/\eL (d7 s) b=aB { cls:=iU "list", dict:=J,data:=mY z U,slots:=L } /\
    R (.ok<|.ret<|kQ<|uz (ns.drop i)<|ms.drop i) s):=by
 have z1:de ns=B.size:=by rw[←hi.length];simp
 have z2:de ms=z.size:=by rw[←Q.length];simp
 induction k with
 |zero=>
  intro i hk Y h2 prog w A R s h;have(M,g,d,O,os):=s;have(hl,hb,h):=h;wp_walk using wpAny_loadPart' hl,wpAny_loadPart' hb;have fin:uz (ns.drop i) (ms.drop i)=decide (B.size<z.size):=by
   by_cases c:i=B.size
   .have e1:ns.drop i=[]:=cQ ∅;rw[e1];by_cases S:i<z.size;.rw[az (by lia:i<ms.length),G4];show(d5 ∅).symm
    .rw[cQ (by lia:ms.length<=i),Hr];show(d6 ∅).symm
   .have S:i=z.size:=by lia
    rw[az (by lia:i<ns.length),cQ (by lia:ms.length<=i),FT];show(d6 ∅).symm
  rw[fin]at h;by_cases c:i=B.size
  .have Wp:B[cC ((i:Nat):Int)]?=n_:=by simp;lia
   rw[Wp];wp_walk using wpAny_loadPart' hl,wpAny_loadPart' hb;show h
  .have S:i=z.size:=by lia
   have Wp:B[cC ((i:Nat):Int)]?=aB (B[i]'∅):=by simp
   have E:z[cC ((i:Nat):Int)]?=n_:=by simp;lia
   rw[Wp,E];wp_walk using wpAny_loadPart' hl,wpAny_loadPart' hb;show h
 |succ k ih=>
  intro i hk Y h2 prog w A R s h;have(M,g,d,O,os):=s;have(hl,hb,h):=h;wp_walk using wpAny_loadPart' hl,wpAny_loadPart' hb;have I:i<B.size:=by lia
  have G:i<z.size:=by lia
  have(x,t,ex,dx):=KD hi (i:=i)<|by simpa using I
  have(y,u,ey,dy):=KD Q (i:=i)<|by simpa using G
  have Wp:B[cC ((i:Nat):Int)]?=aB (jK x t):=by rw[←ex];simp[I]
  have E:z[cC ((i:Nat):Int)]?=aB (jK y u):=by rw[←ey];simp[G]
  have hc:((i:Int)+1)=((i+1:Nat):Int):=by push_cast;rfl
  rw[dx,dy,Af]at h;rw[Wp,E];have(e,he,H):=U4 A.in1 (M,g,d,O,os) x t y u;show kU<|he prog w _ _ ?_;cases e with
  |true=>rw[pZ<|H.mp rfl]at h;wp_walk;rw[hc];show(mn plain_eq_loop _,lI entry_eq_loop (by rw[hQ plain_eq_loop _];show ih (i+1) ∅ ∅ ∅ prog w A R _ (hl,hb,h)))
  |false=>rw[pW<|λq=>absurd (e9 H q) aT]at h;have P:=UH A.in1 (M,g,d,O,os) x t y u prog w;wp_walk using wpAny_loadPart' hl,wpAny_loadPart' hb;rw[Wp,E];wp_walk using P;show h
def IV l b(u t:Ω)n B dd x(E z:Array Υ)(ns ms:Ϝ)(hi:lL (b9 u) ns)(G:lL (b9 t) ms) :
  Meets (Builtin.«list.__lt__» ([dS l,dS b],[]))
   (λQ R s=>eL (d7 s) l=aB { cls:=iU "list", dict:=dd,data:=mY u n,slots:=E }/\eL (d7 s) b=aB { cls:=iU "list", dict:=x,data:=mY t B,slots:=z } /\
    R (.ok<|.ret<|kQ<|uz ns ms) s):=by intro prog w A R s h;have(H,g,d,I,os):=s;have(hl,hb,h):=h;have J:=AutoSeq1.sub_list_list;wp_walk using wpAny_loadPart' hl,wpAny_loadPart' hb;show(mn plain_eq_loop _,lI entry_eq_loop (by rw[hQ plain_eq_loop _];show JH l b u t n B dd x E z ns ms hi G _ 0 rfl (aY _) (aY _) prog w A R _ (hl,hb,h)))
end
end HT
namespace Mr
open PySem PySem.Spec PyProof.Rows L2
section
open HT
theorem He:∀xs l:Ϝ,uz xs l=t_->uz l xs=f_
 | [],[],_=>rfl
 | [],_::_,_=>rfl
 |_::_,[],h=>by cases h
 |x::xs,y::l,h=>by
  simp only[Af]at h ⊢;by_cases e:x=y;.rw[pZ e]at h;rw[pZ<|fx e];show He xs l h
  .rw[pW e]at h;rw[pW<|mr e];have n:=of_decide_eq_true h;show d6 ∅
theorem Ec:∀xs l n:Ϝ,uz l xs=f_->uz n l=f_->uz n xs=f_
 | [],[],[],_,_=>rfl
 | [],[],_::_,_,h=>by show h
 | [],_::_,[],_,h=>by cases h
 | [],_::_,_::_,_,_=>rfl
 |_::_,[],_,h,_=>by cases h
 |_::_,_::_,[],_,h=>by cases h
 |x::xs,y::l,z::n,h1,h2=>by
  simp only[Af]at h1 h2 ⊢;by_cases t:y=x
  .rw[pZ t]at h1;subst t;by_cases s:z=y;.rw[pZ s]at h2 ⊢;show Ec xs l n h1 h2
   .rw[pW s]at h2 ⊢;show h2
  .rw[pW t]at h1;have u:=of_decide_eq_false h1;by_cases s:z=y;.rw[pW<|by simp +arith[*]];show d6<|by simp +arith[*]
   .rw[pW s]at h2;have B:=of_decide_eq_false h2;rw[pW ∅];show d6<|by omega
theorem Mg:∀xs l:Ϝ,uz xs l=f_->uz l xs=f_->xs=l
 | [],[],_,_=>rfl
 | [],_::_,h,_=>by cases h
 |_::_,[],_,h=>by cases h
 |x::xs,y::l,h1,h2=>by
  simp only[Af]at h1 h2;by_cases e:x=y;.rw[pZ e]at h1;rw[pZ<|fx e]at h2;rw[e,Mg xs l h1 h2]
  .rw[pW e]at h1;rw[pW<|mr e]at h2;have n:=of_decide_eq_false h1;have s:=of_decide_eq_false h2;lia
def WQ(x y:Ϝ):Bool:=!HT.uz y x
def QX x y z(l:WQ x y=t_)(n:WQ y z=t_):WQ x z=t_:=by delta WQ at *;simp only[jO]at *;show Ec x y z l n
def QY x y:(WQ x y || WQ y x)=t_:=by delta WQ;cases h:HT.uz y x with
 |false=>rfl
 |true=>rw[He y x h];rfl
def CD(l:Λ):Λ:=l.mergeSort WQ
def ue l:aF (CD l) l:=jA _ _
def GO l:(CD l).Pairwise<|λx y=>HT.uz y x=f_:=by show(iZ QX QY l).imp λ{a b} h=>?_;unfold WQ at h;simpa using h
def Hk:∀{xs l:Λ},aF xs l->xs.Pairwise (λx y=>HT.uz y x=f_)->l.Pairwise (λx y=>HT.uz y x=f_)->xs=l
 |xs,l,n,s,t=>aF.eq_of_pairwise (λa b Q Q u z=>fx (Mg b a u z)) s t n
def T3(n:aF xs l)(h:xs.Pairwise<|λx y=>HT.uz y x=f_):xs=CD l:=Hk (m9 n (ue l).symm) h<|GO l
def Rc(n:aF l ts):CD l=CD ts:=T3 (m9 (ue l) n)<|GO l
def Cj l:de (CD l)=de l:=d9 (ue l)
noncomputable def vH(ns:Ϝ):Ϝ:=ns.mergeSort<|λx y=>decide<|x<=y
def xJ ns:aF (vH ns) ns:=jA _ _
def EA ns:(vH ns).Pairwise (·<=·):=by
 show(iZ (λa b c l n=>?_) (λa b=>?_) ns).imp λ{a b} h=>by simpa using h
 .simp only[decide_eq_true_eq]at *;rfl'
 .skip;lia
def OM(l:aF xs ns)(h:xs.Pairwise (·<=·)):xs=vH ns:=aF.eq_of_pairwise (λa b Q Q n s=>Int.le_antisymm n s) h (EA ns)<|m9 l (xJ ns).symm
end
def tS(H:Hp)(ps:Δ)(l:Λ):Prop:=ps.map H=l.map (λr=>aB<|eH<|r.map c7)
def tS.nil:tS H [] []:=rfl
def tS.length(h:tS H ps l):de ps=de l:=by have:=congrArg de h;simpa using this
def tS.cons_iff{ps:Δ}{l:Λ}{r:Ϝ}:tS H (p::ps) (r::l)↔H p=aB (eH<|r.map c7)/\tS H ps l:=by delta tS;rw[aq,aq,jN.injEq]
def tS.get(h:tS H ps n){i:Nat}(e:ps[i]?=aB p):∃r,n[i]?=aB r/\H p=aB (eH<|r.map c7):=by have:=congrArg (λl=>l[i]?) h;simp only[gMq,e,dt]at this;cases s:n[i]? with
 |none=>rw[s]at this;cases this
 |some r=>rw[s]at this;show(r,rfl,aB.inj this)
def tS.mem(h:tS H ps l)(n:p∈ps):∃r,r∈l/\H p=aB (eH<|r.map c7):=by have(i,hi):=List.getElem?_of_mem n;have(r,s,e):=h.get hi;show(r,mGq s,e)
def tS.keep(h:tS H ps n)(k:∀p∈ps,l p=H p):tS l ps n:=by delta tS at *;rw[←h];show mCq k
def tS.same(h:tS H ps n)(s:qi H l):tS l ps n:=h.keep λp t=>by have(r,_,e):=h.mem t;rw[s _ _ e,e]
noncomputable def toI:V->Int
 | c7 i=>i
 |_=>0
def Cd(H:Hp)(p:Addr):Ϝ:=match H p with
 |aB (eH xs)=>xs.map toI
 |_=>[]
def LP(h:H p=aB (eH<|r.map c7)):Cd H p=r:=by delta Cd;rw[h];simp only[mPq];show List.map_id'' (λQ=>rfl) r
def tS.fn(h:tS H ps l):l=ps.map (Cd H):=by induction l generalizing ps with
 |nil=>have:=h.length;have:=cK.mp this;rw[this];rfl
 |cons r l n=>cases ps with
  |nil=>have:=h.length;simp at this
  |cons p ps=>have(s,t):=tS.cons_iff.mp h;rw[aq,←n t,LP s]
def tS.fn_row(h:tS H ps l)(n:p∈ps):H p=aB (eH<|(Cd H p).map c7):=by have(r,_,e):=h.mem n;rw[LP e];show e
def tS.of_fn(h:∀p∈ps,H p=aB (eH<|(Cd H p).map c7)):tS H ps<|ps.map<|Cd H:=by delta tS;rw[mPq];show mCq h
def tS.perm(h:tS H ps n)(s:aF l ps):∃ts,tS H l ts/\aF ts n/\ts=l.map (Cd H):=(_,tS.of_fn λp m=>h.fn_row<|s.mem_iff.mp m,by rw[h.fn];show s.map _,rfl)
theorem HX:∀{ps:Δ}{vs},qB (ps.map c6) vs->vs=ps.map dS
 | [],vs,r=>by cases r;rfl
 |p::ps,vs,r=>by cases r with
  |cons l n=>have e:=l;rw[e,HX n];rfl
theorem HS:∀(ps:Δ),qB (ps.map c6)<|ps.map dS
 | []=>lX
 |p::ps=>iL rfl<|HS ps
noncomputable def Ej:Value->Addr
 | dS p=>p
 |_=>0
noncomputable def intOf:Value->Int
 | jK i _=>i
 |_=>0
def JQ{vs:Ξ}{ns:Ϝ}(h:lL vs ns):ns=vs.map intOf/\∀v∈vs,∃a t,v = jK a t:=by induction h with
 |nil=>show(rfl,λv l=>by cases l)
 |cons a t _ n=>
  show(by rw[aq,←n.1];rfl,λv l=>?_);obtain rfl|l:=ae.mp l;.show(a,t,rfl)
  .show n.2 v l
theorem vals_ints:∀{vs},(∀v∈vs,∃a t,v = jK a t)->qB ((vs.map intOf).map c7) vs
 | [],_=>lX
 |v::vs,h=>by have(a,t,rfl):=h _<|aa ..;show iL (t,rfl)<|vals_ints λv l=>h v<|mCo _ l
def YX{vs:Ξ}(t:2<=de vs)(u:∀v∈vs,W.Looks M s.heap (typeOf v) (iU T))(l:(iU T != iU "tuple")=t_)(n:(iU T == iU T)=t_)(h:Q mK s) :
  lg M A (keyKind'<|c5 vs) Q E s:=W.kas_kind t u l n h
noncomputable def ltI(x y:kT):Bool:=match x.1,y.1 with
 | jK a _,jK b _=>decide<|a<b
 |_,_=>f_
def ada(prog)w A s:MrS.BQ prog w A s mK (λx=>∃a t,x.1 = jK a t) ltI where
 ask:=by rintro⟨_,x⟩ ⟨_,y⟩ ⟨a,t,l⟩ ⟨b,u,n⟩ E Q q;subst l n;show oneLt_int q
 asym:=by rintro⟨_,x⟩ ⟨_,y⟩ ⟨a,t,l⟩ ⟨b,u,n⟩ h;subst l n;have h':=of_decide_eq_true h;show d6 ∅
 trans:=by rintro⟨_,x⟩ ⟨_,y⟩ ⟨_,z⟩ ⟨a,t,l⟩ ⟨b,u,n⟩ ⟨c,v,B⟩ G H;subst l n B;have I:=of_decide_eq_false G;have J:=of_decide_eq_false H;show d6<|by omega
def ltR(r:Addr->Ϝ)(x y:kT):Bool:=match x.1,y.1 with
 | dS p,dS q=>HT.uz (r p)<|r q
 |_,_=>f_
def afh{ps:Δ}(O:ph A<lZ)
  (h:∀p∈ps,∃vs:Ξ,PlainL s.heap p (c5 vs)/\lL vs (r p)):MrS.BQ prog w A s mK (λx=>∃p,x.1 = dS p/\p∈ps)<|ltR r where
 ask:=by rintro⟨_,x⟩ ⟨_,y⟩ ⟨p,l,P⟩ ⟨q,t,R⟩ E Q k;subst l t;have(vs,(o,n,B,S,G,hd),hi):=h p P;have(ws,(U,X,H,I,u,J),Y):=h q R;have(cls,dd,data,sl):=o;have(M,dd2,data2,L):=U;subst S G hd I u J;show kU<|wpAny_cRoomFor O ?_;show kU (wpAny_callSpecialIfBound?_slot (_,B,rfl) aBf (mU aBf (_,B,rfl) F.entry_list_lt (F.args_list_lt_2 _ _)
   (HT.IV p q (c5 vs) (c5 ws) n X n_ n_ sl L (r p) (r q) (by show hi)<|by show Y) (B,H,?_)));show mq k
 asym:=by rintro⟨_,x⟩ ⟨_,y⟩ ⟨a,l,_⟩ ⟨b,t,_⟩ h;subst l t;show He _ _ h
 trans:=by rintro⟨_,x⟩ ⟨_,y⟩ ⟨_,z⟩ ⟨a,l,_⟩ ⟨b,t,_⟩ ⟨c,e3,_⟩ h1 h2;subst l t e3;show Ec _ _ _ h1 h2
def JB:zA X (gp "sorted")<|λxs H Q=>∃a ns,xs=[c6 a]/\tJ X.K H a (ns.map c7)/\∀p,H p=n_->Q (c6 p) (rG H p<|eH<|(vH ns).map c7):=by
 intro oO s σ H xs us Q I r h;have(a,ns,rfl,hS,q):=h;have(u,rfl,J):=xq r;cases J;have(L,hl,hi,M):=Tz I hS;have(O,z):=JQ hi;have B:=hi.length;show MrS.FP hl ∅ (λs' Z=>(λl Q q=>?_,ada _ _ _ _)) (λv m=>z v m) λout E P G R S U=>?_;.match L,hi,l with
  | [],_,l=>simp at l
  | [_],_,l=>simp at l
  |v₁::v₂::rest,hi,_=>rw[keyKind_ints hi];show lz q
 .have n:=λv m=>z v<|G.mem_iff.mp m;have e:out.map intOf=vH ns:=by show OM (by rw[O];show G.map _) ?_;rw[bO];show R.imp_of_mem λ{x y} mx my h=>?_;have(a,t,rfl):=n x mx;have(b,u,rfl):=n y my;have E:=of_decide_eq_false h;change a<=b;rfl'
  have Y:=p5 (L0 I)<|cO _;show(c6<|s.heap.objs.size+1,_,I.laid S (cO _)<|show uf X.prog X.w _ E _ (eH<|(vH ns).map c7)from (?_,out,P,?_,U),rfl,q _ Y);.rw[lMq,d9 (xJ ns)];show M
  .rw[←e];show vals_ints n
def IY(hu:ph X.A+64<lZ):zA X (gp "sorted") (λxs H Q=>∃a ps P,xs=[c6 a]/\tJ X.K H a (ps.map c6)/\tS H ps P /\
  ∀p B,H p=n_->aF B ps->tS (rG H p<|eH<|B.map c6) B (CD P)->Q (c6 p) (rG H p<|eH<|B.map c6)):=by
 intro oO s σ H xs us Q I r h;have(a,ps,P,rfl,hS,hE,q):=h;have(u,rfl,ru):=xq r;cases ru;have(L,S,hl,hz):=tu I hS;have ei:=HX S;subst ei;have M:∀p∈ps,∃G:Ξ,PlainL s.heap p (c5 G)/\lL G (Cd H p):=λp t=>by have(L,S,pl,_):=tu I<|l6<|hE.fn_row t;show(L,pl,Cz S)
 have z:∀(J:kS),(∀b o,eL (d7 s) b=aB o->eL (d7 J) b=aB o)->∀p∈ps,∃G:Ξ,PlainL J.heap p (c5 G)/\lL G (Cd H p):=λJ k p t=>by have(G,(o,n,O,rest),hi):=M p t;show(G,(o,n,k _ _ O,rest),hi)
 show MrS.FP (Pk:=λx=>∃p,x.1 = dS p/\p∈ps) (lt:=ltR<|Cd H) (j6 hl) (by simpa using hz) (λJ k=>(λh2 Q q=>?_,afh (by change ph X.A+1+1<lZ;lia)<|z J k)) (λv m=>?_) λout h' n' o1 o2 o3 o4=>?_;.show YX (T:= "list") h2 (λv U=>?_) (by rfl) (by rfl) q;have(p,t,rfl):=mMq.mp U;have(G,pl,_):=z J k p t;intro A Q E s2 k2 q2;have(o,O,hc,_):=j6 pl;show wpAny_typeOf (T:= "list") (o,k2 _ _ O,hc) q2
 .have(p,t,rfl):=mMq.mp m;show(p,rfl,t)
 .have O:∀v∈out,∃p∈ps,v = dS p:=λv m=>by have(p,t,rfl):=mMq.mp<|o1.mem_iff.mp m;show(p,t,rfl)
  have Y:out=(out.map Ej).map dS:=by
   rw[mPq];have e:=mCq (l:=out) (f:=id) (g:=dS∘Ej) λv U=>by have(p,_,rfl):=O v U;rfl
   rw[←e,eK]
  have R:aF (out.map Ej) ps:=by have:=o1.map Ej;rw[mPq,show Ej∘dS=id from rfl,eK]at this;show this
  have t:H (s.heap.objs.size+1)=n_:=p5 (L0 I)<|cO _;generalize out.map Ej=B at Y R;have(ts,e1,e2,e3):=hE.perm R;have es:ts=CD P:=by show T3 e2 ?_;rw[e3,bO];rw[Y,bO]at o2;show o2
  show(c6<|s.heap.objs.size+1,_,I.laid (t':=sq s) o3 (cO _)<|show uf X.prog X.w _ h' _ (eH<|B.map c6)from (?_,out,n',?_,o4),rfl,q _ B t R<|by rw[←es];show e1.same<|xU t);.rw[lMq,d9 R];simpa using hz
  .rw[Y];show HS B
noncomputable def AC(r:Ϝ):PyData:=.list<|r.map aB1
def GW(l:Λ):PyData:=.list<|l.map AC
theorem EE:∀l:Λ,qc (l.map AC)=t_
 | []=>by rfl
 |r::l=>by simp[qc,AC,mA,aAs r,EE l]
theorem Gg:∀l:Λ,nR (l.map AC)<=3
 | []=>by simp[nR]
 |r::l=>by have n:=Gg l;have s:=aB2 r;simp only[aq,nR,AC,j9];lia
def EH l:om (GW l)=t_:=by
 have s:=Gg l;have n:j9 (GW l)<=64:=by simp only[GW,j9];lia
 change(mA (GW l) && decide (j9 (GW l)<=64))=t_;rw[fu];show(by show EE l,d5 n)
theorem Gf:∀l ts:Λ,sI (l.map AC) (ts.map AC)=t_
 | [],[]=>by rfl
 | [],_::_=>by rfl
 |_::_,[]=>by rfl
 |r::l,t::ts=>by simp[sI,AC,pq,W.noMix_ints r t,Gf l ts]
theorem IK:∀l ts:Λ,S3 (l.map AC) (ts.map AC)=decide (l=ts)
 | [],[]=>by rfl
 | [],_::_=>by rfl
 |_::_,[]=>by rfl
 |r::l,t::ts=>by simp only[aq,S3,AC,mX,W.same_ints r t];rw[IK l ts];by_cases h:r=t <;> simp[h]
end Mr
namespace Mr
open PySem L2
structure Bt (mg:Str->Υ):Prop where
 len:mg "len" = n_
 min:mg "min" = n_
 max:mg "max" = n_
 abs:mg "abs" = n_
 all:mg "all" = n_
 sorted:mg "sorted" = n_
 isi:mg "isinstance" = n_
 list:mg "list" = n_
 int:mg "int" = n_
 bool:mg "bool" = n_
 str:mg "str" = n_
 dict:mg "dict" = n_
 zip:mg "zip" = n_
 enum:mg "enumerate" = n_
 range:mg "range" = n_
 reversed:mg "reversed" = n_
structure Fn (P:lu)(w:lB)(K:Ζ)(mg:Str->Υ)(base:Heap)(k:Nat)(x:Str)(st:Stmt)(ps:List Str)(sp:Sp)(f:Addr)(fd:lH):Prop where
 D:yO K mg x st ps f fd
 ok:Dj P w K mg base UN k f fd ps sp
def uw.units65(r:uw k A):ph A+65<lZ:=by have:=r.un;lia
def adk(G:Fn X.prog X.w X.K X.mg X.base k x st ps sp f fd)(hr:uw k X.A)(ha:PA X (e::es) t)(s:↑(Gl X x))(l:⇑((x == ("__debug__" : Str))=f_))
  (u:↑(lC (e::es) X.env=%[f_|eval e<|k7 X]::lC es X.env)) (n:↑((mH pos<|lC es<|k7 X).any (·.1)=f_)) :
  PE X (ri (fY x p) (e::es) [] pos)<|En sp [] E0 t:=WW G.ok hr s G.D.m G.D.F.kp G.D.b lX acF ha l u n
section
variable (K:Ζ)
def Pi:Sp:=λvs H Q Z=>∃(a:Addr) (ns:Ϝ),vs=[c6 a]/\tJ K H a (ns.map c7)/\de ns<=63/\∀l,Q (pY t_) l
end
def sU{α:Type}{l:List α}{x}(h:l[i]?=aB x):l.take (i+1)=l.take i++[x]:=by rw[eV,h];rfl
end Mr
open Mr.uw renaming units65->aAx
namespace Xe
open PySem PySem.Spec PySem.W PyProof.Rows L2 Mr
noncomputable abbrev lk0(K:Frag)(C:Addr):Bool:=findIn K (dS C) "__setattr__" == aB (aB<|gp "object.__setattr__") && findIn K (dS C) "__getattribute__" == aB (aB<|gp "BaseException.__getattribute__") &&
 findIn K (dS C) "__getattr__" == aB n_ && findIn K (dS C) "__class__" == aB (aB<|gp "object.__class__")
def aaf(K:Frag)(c:Str)(C:Addr)(l:Ξ):Bool:=match K.lookup C with
 |aB ⟨iU "type", _,.cls cd,s⟩=>(match b9 s with
  | [_,_,_,_,aB (gp n),_]=>cd.name == c && cd.mro == dS C::l && n == "ValueError.__new__" && !cd.hasDel && cd.hasDict && tailIn K VEm l
  |_=>f_)
 |_=>f_
structure Ref (K:Frag)(c:Str)(C M:Addr):Prop where
 nm:nsIn K lj c=aB (aB<|.ref C)
 nmM:nsIn K lj "MapError" = aB (aB<|.ref M)
 xc:aaf K c C (.ref M::VEm)=t_
 xm:aaf K "MapError" M VEm=t_
 lk:lk0 K C=t_
def IsC(K:Frag)(c:Str)(C:Addr):Prop:=nsIn K lj c=aB (aB<|dS C)/\((∃M,Ref K c C M)∨(c = "MapError" /\ aaf K "MapError" C VEm=t_))
noncomputable def ExA(e C:Addr)(l:Option Addr):HO:=.ext λh=>∃o vs,eL h e=aB o/\o.cls = dS C/\o.dict=l/\x9 o = j7 vs
end Xe
namespace Mr
open PySem PyProof.Rows L2
section
variable {X:Cx}
def Vj(_ j:Int):Prop:=0<j/\j.natAbs.log2<9000
def VG:EV X (mT .FloorDiv)<|rI Vj λi j=>c7<|i / j:=opI λi j Q Q Q Q Q l q=>by have n:=l.1;show floordiv_int ∅ (by rw[iG i<|by rfl'];show q)<|jE<|PyProof.noPylong_of_log2 l.2
end
end Mr
namespace Mr
open PySem L2
noncomputable def wI:Expr->Bool
 | .Starred _ _=>f_
 |_=>t_
def acI(h:wI e=t_):lC (e::l) env=%[f_|eval e env]::lC l env:=by cases e <;> first|(show nomatch (h:f_=t_))|(rw[lC];done)|(rfl)
def wW(ha:PE X e te)(hr:PA X l t)(n:wI e=t_):PA X (e::l)<|qR te t:=oP ha hr<|acI n
end Mr
namespace MrS
open PySem PySem.W PyProof.Rows
def Lw{Q:Ξ->kS->Prop}(K:KdlSrc prog w T r d n P OK)(hh:aA2 A=n_)(hok:OK<|d7 s)(hn:n<=sizeLine)
  (h:∀h' tk (l:Ω),(∀b o,eL (d7 s) b=aB o->eL h' b=aB o)->s.heap.objs.size<h'.objs.size->ItemsOf P l n->Q (b9 l) { s with heap:=h',toks:=tk }) :
  lg (kZ prog w) A (collect<|dS r) Q E s:=by
 skip;show kU<|wpAny_runValue<|lI entry_proto_collect' ?_;show kU<|mW<|lz (Code.quiet_builtin _<|by trivial,lI entry_list_iadd' ?_);have t:=K.there _ hok;have u:eL (pF (d7 s)<|lE "list" #[] 0) s.heap.objs.size=aB (lE "list" #[] 0):=bw _ rfl;show kdl_extend (R:=λr x=>match r with
   | .ok (.ret v)=>lg (kZ prog w) A (match v with
    | dS a=>do
     let o ←load a
     match x9 o with
     | mY z _=>pure<|b9 z
     |_=>nX "internal:collect"
    |_=>nX "internal:collect") Q E x
   | .ok _=>False
   | .error e=>E e x) K hh (K.keep _ _ hok λb Z o e=>ak _ e) s.heap.objs.size (gG t.1) (gG t.2) (dS s.heap.objs.size) 0 u (λh' tk l c hk hS hi=>?_) hn;show kU<|wpAny_load hS ?_;show lz<|h h' tk l (λb o e=>hk b o (aS<|aw e)<|ak _ e) (aw hS) hi
def NP(K:KdlSrc prog w T r d n P OK)(hh:aA2 A=n_)(hok:OK<|d7 s)(hn:n<=sizeLine)
  (hC:∀(vs:Ξ),de vs=n->(∀j v,vs[j]?=aB v->P j v)->∀J:kS,(2<=de vs->∀Q:lY->kS->Prop,Q mK J->lg (kZ prog w) A.in1.in1 (keyKind'<|c5 vs) Q E J)/\BQ prog w A.in1.in1 J mK Pk lt/\∀v∈vs,Pk %[v|v])
  (h:∀(vs out:Ξ) h' (p:Addr) tk S,de vs=n->(∀j v,vs[j]?=aB v->P j v)->aF out vs->out.Pairwise (λx y=>lt %[y|y] %[x|x]=f_)->(∀b o,eL (d7 s) b=aB o->eL h' b=aB o)->s.heap.objs.size<=p ->
   eL h' p=aB (lE "list" (c5 out) S)->Q (dS p) { s with heap:=h',toks:=tk }) :
  lg (kZ prog w) A (call (gp "sorted") [dS r]) Q E s:=by
 show N4 kind_sorted plain_sorted entry_sorted (args_sorted1 _) ?_;skip;show kU (m:=checkCount "sorted" 1 1 _)<|lz ?_;show kU<|Lw K hh hok hn λu tk t H z hi=>?_;have hl:de (b9 t)=n:=by rw[aJ];show hi.1
 have hP:∀j v,(b9 t)[j]?=aB v->P j v:=λj v e=>hi.2 j v<|by rw[←aG];show e
 have L:de (b9 t)<=sizeLine:=by rw[hl];show hn
 generalize b9 t=vs at hl hP L;show kU<|mW ?_ L;have l:eL (pF u<|lE "list" (c5 vs) 0) u.objs.size=aB (lE "list" (c5 vs) 0):=bw _ rfl;change lg _ _ _ _ _ { s with heap:=pF u (lE "list" (c5 vs) 0),toks:=tk };have I:s.heap.objs.size<=u.objs.size:=cY z;have O:∀b o,eL (d7 s) b=aB o->eL (pF u<|lE "list" (c5 vs) 0) b=aB o:=λb o e=>ak _<|H b o e;have B:∀b o,eL (d7 s) b=aB o->b≠u.objs.size:=λb o e=>aS<|aw<|H b o e;generalize pF u (lE "list" (c5 vs) 0)=G at l O ⊢;clear z;generalize u.objs.size=p at l I B ⊢;have U:∀b o,eL (d7 s) b=aB o->eL (wK G p vs) b=aB o:=λb o e=>by show ak _<|ak _ ?_;rw[fB _ _ _ _<|B b o e];show O b o e
 have(X,Y,q3):=hC vs hl hP { s with heap:=wK G p vs,toks:=tk };show kU<|lP<|wpAny_call_entry slot_list_sort (_,l,rfl) entry_list_sort (B9 (s:={ s with heap:=G,toks:=tk }) (Pk:=Pk) (lt:=lt) l L X Y (λx hx=>?_) λR a1 a2=>(_,rfl,?_))<|args_list_sort _;.have(m1,m2):=yJ hx;have:x=%[x.1|x.1]:=jF rfl m2;rw[this];show q3 _ m1
 .have(v1,v2):=EC a1 a2;have(e1,M):=Qv vs l;have(n1,g1):=OS (R.map (·.2)) M;show lz (_,rfl,h vs _ (nE G p vs (R.map (·.2))) p tk n1 hl hP v1 v2 (λb o e=>?_) I ?_);.delta nE;rw[fB _ _ _ _<|B b o e];show U b o e
  .show g1
end MrS
namespace Mr
open PySem PySem.W PySem.Spec PyProof.Rows L2
theorem JN:∀{l:Ξ}{ns:Ϝ},de l=de ns->(∀(j:Nat) v n,l[j]?=aB v->ns[j]?=aB n->∃t,v=jK n t)->lL l ns
 | [],[],_,_=>.nil
 | [],_::_,h,_=>by simp at h
 |_::_,[],h,_=>by simp at h
 |u::l,n::ns,h,g=>by have(t,rfl):=g 0 u n rfl rfl;show .cons n t<|JN (by simpa using h) λj v m s x=>g (j+1) v m (by show s)<|by show x
def Yy:∀{kvs:List<|qk×V}{ws},KV kvs ws->kvs.map (·.1)=ws.map (·.1):=λ{kvs ws} r=>by induction r with
 |nil=>rfl
 |cons a b l=>simp only[aq,aq,l,a.1]
def JS(hc:X.calm=t_):zA X (gp "sorted") (λxs H Q=>∃(a:Addr) (kvs:List (qk×V)) (ns:Ϝ),xs=[c6 a]/\H a=aB (wm kvs)/\kvs.map (·.1)=ns.map aO/\∀p,H p=n_->Q (c6 p) (rG H p<|eH<|(vH ns).map c7)):=by
 intro oO s σ H xs l Q I r h;have(a,kvs,ns,rfl,ha,hk,q):=h;have(u,rfl,ru):=xq r;cases ru;have(P,sa,B,kv,d):=(show uf X.prog X.w H s.heap a (wm kvs)from L0 I a _ ha);have(ep,da):=d.dictAt;have hl:=q0 kv;have n:de ns=de B:=by have:=congrArg de hk;rw[lMq,lMq]at this;rw[←this,hl]
 have L:B.map (·.1)=ns.map aO:=by rw[←Yy kv,hk]
 have hI:∀l:Ξ,de l=de B->(∀(j:Nat) (v:Value),l[j]?=aB v->∃k x,B[j]?=aB %[k|x]/\(rY X.prog X.w).is k v=t_)->lL l ns:=λl E G=>JN (by rw[E,n]) λj v m e1 e2=>by
  have(k,x,g1,g2):=G j v e1;have R:(B.map (·.1))[j]?=aB k:=by rw[gMq,g1];rfl
  rw[L,gMq,e2]at R;have e4:(aO m:qk)=k:=by simpa using R
  subst e4;obtain⟨i,t,M,e6⟩|⟨z,t,M,_⟩:=rK (k:=aO m) (v:=v) g2;.cases M;show(t,e6)
  .cases M
 show MrS.NP (kdl_dict (knd:=rY X.prog X.w) (d:=a) (kvs:=B) (ep:=ep) sa) (I.ok.hd hc) da (by rw[←hl];show P) (Pk:=λx:kT=>∃a t,x.1=jK a t) (lt:=ltI) (λl E G s'=>(λJ Q q=>?_,ada _ _ _ _,λv m=>(JQ<|hI l E G).2 v m)) λl out S p tk n' E G U o2 o3 Y o4=>?_;.have hi:=hI l E G;match l,hi,J with
  | [],_,J=>simp at J
  | [_],_,J=>simp at J
  |v₁::v₂::rest,hi,_=>rw[keyKind_ints hi];show lz q
 .have(en,hv):=JQ<|hI l E G;have O:∀v∈out,∃a t,v = jK a t:=λv m=>hv v<|U.mem_iff.mp m;have e:out.map intOf=vH ns:=by show OM (by rw[en];show U.map _) ?_;rw[bO];show o2.imp_of_mem λ{x y} mx my h=>?_;have(a,t,rfl):=O x mx;have(b,u,rfl):=O y my;have S:¬ b<a:=of_decide_eq_false h;change a<=b;rfl'
  have hp:H p=n_:=p5 (L0 I) Y;show(c6 p,_,I.laid (t':=tk) o3 Y<|show uf X.prog X.w _ S _ (eH<|(vH ns).map c7)from (?_,out,n',?_,o4),rfl,q _ hp);.rw[lMq,d9 (xJ ns),n,←hl];show P
  .rw[←e];show vals_ints O
def Nd(P:X.calm=t_):zA X (iU "list")<|λxs H Q=>∃a kvs,xs=[c6 a]/\H a=aB (wm kvs)/\∀l,H l=n_->Q (c6 l) (rG H l<|eH<|kvs.map λp=>kV p.1):=by
 intro oO s σ H xs us Q I r h;have(a,kvs,rfl,ha,q):=h;have(u,rfl,R):=xq r;cases R;have(J,sa,L,kv,d):=(show uf X.prog X.w H s.heap a (wm kvs)from L0 I a _ ha);have(S,U):=d.dictAt;have hl:=q0 kv;show kdl_call (kdl_dict (knd:=rY X.prog X.w) (d:=a) (kvs:=L) (ep:=S) sa) (I.ok.hd P) U (by rw[←hl];show J) λh' Y n c hk hs hi=>?_;show(c6 s.heap.objs.size,rG H s.heap.objs.size<|eH<|kvs.map λp=>kV p.1,I.laid (t':=Y) hk (ag _) (by simpa using J,b9 n,c,?_,by show hs),rfl,q _<|p5 (L0 I)<|ag _);have key:∀(l:List<|qk×V) (B:List<|qk×Value) (n:Ξ),KV l B->de n=de B->(∀(j:Nat) (x:Value),n[j]?=aB x->∃(k:qk) (y:Value),B[j]?=aB %[k|y]/\(rY X.prog X.w).is k x=t_)->qB (l.map λp=>kV p.1) n:=by intro l B n r;induction r generalizing n with
  |nil=>intro E _;cases n with|nil=>show lX|cons _ _=>simp at E
  |cons r t ih=>intro E M;cases n with
   |nil=>simp at E
   |cons x n=>
    show iL ?_<|ih n (by simpa using E) λj y G=>by have:=M (j+1) y (by show G);show this
    have(k,y,O,g2):=M 0 x rfl;simp at O;have e1:_=k:=fq r.1<|by rw[O]
    change qH (kV _) x;rw[e1];obtain⟨i,t,rfl,rfl⟩|⟨z,t,rfl,rfl⟩:=rK g2;.show(t,rfl)
    .show(t,rfl)
 show key kvs L (b9 n) kv (by rw[aJ];show hi.1) λj x G=>hi.2 j x<|by rw[←aG];show G
end Mr
namespace Z
open PySem L2 Mr
abbrev St:=L2.St
set_option genInjectivity true in
inductive D where
 |non|bl (b:Bool)|int (i:Int)|str (x:Str)|ty (n:String)|list (xs:List D)|tup (xs:List D)|dict (kvs:List<|qk×D)|scr (ns:Ϝ)|exc (c:Str) (fs:List<|Str×Int)|cls (c:Str)|fd (kvs:List<|qk×D)|ins (c:Str) (fs:List<|Str×D)
open Z.D renaming int->b7,list->ew,non->j0,str->j3,bl->k9,tup->lG,dict->m6,scr->o9
inductive rN (K:Ζ)(H:Hp):D->V->Prop
 |non:rN K H .non .non
 |bl {b:Bool}:rN K H (.bl b)<|.bl b
 |int {i:Int}:rN K H (.int i)<|.int i
 |str {x:Str}:rN K H (.str x)<|.str x
 |ty {n:String}:rN K H (.ty n)<|.ty n
 |list {p:Addr}{vs:List V}{ds:List D}(h:H p=aB (.lst vs)) (l:ds.length=vs.length) (e:∀(i:Nat) (d:D) (v:V),ds[i]?=aB d->vs[i]?=aB v->rN K H d v):rN K H (.list ds)<|.ref p
 |tup {p:Addr}{vs:List V}{ds:List D}(h:H p=aB (.tup vs)) (l:ds.length=vs.length) (e:∀(i:Nat) (d:D) (v:V),ds[i]?=aB d->vs[i]?=aB v->rN K H d v):rN K H (.tup ds)<|.ref p
 |dict {p:Addr}{kvs:List<|qk×V}{ds:List<|qk×D}(h:H p=aB (.dK kvs)) (l:ds.map (·.1)=kvs.map (·.1)) (e:∀(i:Nat) (d:qk×D) (v:qk×V),ds[i]?=aB d->kvs[i]?=aB v->rN K H d.2 v.2):rN K H (.dict ds)<|.ref p
 |scr {p:Addr}{ns:Ϝ}(h:tJ K H p<|ns.map V.int):rN K H (.scr ns)<|.ref p
 |exc {c:Str}{fs:List<|Str×Int}{e C M dx:Addr}(rf:Xe.Ref K c C M) (nf:∀p∈fs,W.findIn K (.ref C) p.1=aB n_) (h:H e=aB (Xe.ExA e C<|aB dx)) (hx:H dx=aB (.xd<|fs.map λp=>%[p.1|V.int p.2])):rN K H (.exc c fs)<|.ref e
 |exc0 {c:Str}{e C M:Addr}(rf:Xe.Ref K c C M) (h:H e=aB (Xe.ExA e C n_)):rN K H (.exc c [])<|.ref e
 |cls {c:Str}{C:Addr}(h:Xe.IsC K c C):rN K H (.cls c)<|.ref C
 |fd {p:Addr}{o:Obj}{kvs:List<|qk×V}{ds:List<|qk×D}(h:H p=aB (.frz o<|.dK kvs)) (l:ds.map (·.1)=kvs.map (·.1)) (e:∀(i:Nat) (d:qk×D) (v:qk×V),ds[i]?=aB d->kvs[i]?=aB v->rN K H d.2 v.2):rN K H (.fd ds)<|.ref p
 |ins {c:Str}{a C dx:Addr}{gs:List<|Str×V}{fs:List<|Str×D}(rf:W.nsIn K lj c=aB (aB<|.ref C)) (h:H a=aB (.ins C dx gs)) (l:fs.map (·.1)=gs.map (·.1)) (e:∀(i:Nat) (d:Str×D) (v:Str×V),fs[i]?=aB d->gs[i]?=aB v->rN K H d.2 v.2):rN K H (.ins c fs)<|.ref a
open Z.rN renaming int->t8
def qD(K:Ζ)(H:Hp)(ds:List D)(vs:List V):Prop:=de ds=de vs/\∀(i:Nat) d v,ds[i]?=aB d->vs[i]?=aB v->rN K H d v
def xr(K:Ζ)(H:Hp)(ds:List<|qk×D)(kvs:List<|qk×V):Prop:=ds.map (·.1)=kvs.map (·.1)/\∀(i:Nat) d v,ds[i]?=aB d->kvs[i]?=aB v->rN K H d.2 v.2
def rN.mono(h:rN K H d v)(s:qi H H'):rN K H' d v:=by induction h with
 |non=>show .non
 |bl=>show .bl
 |int=>show t8
 |str=>show .str
 |ty=>show .ty
 |list h l _ n=>show .list (s _ _ h) l n
 |tup h l _ n=>show .tup (s _ _ h) l n
 |dict h l _ n=>show .dict (s _ _ h) l n
 |scr h=>show .scr<|s.seq h
 |exc t u h x=>show .exc t u (s _ _ h)<|s _ _ x
 |exc0 t h=>show .exc0 t<|s _ _ h
 |cls h=>show .cls h
 |fd h l _ n=>show .fd (s _ _ h) l n
 |ins t h l _ n=>show .ins t (s _ _ h) l n
open Z.rN renaming mono->y0
def qD.mono(h:qD K H ds vs)(s:qi H H'):qD K H' ds vs:=(h.1,λi d v a b=>y0 (h.2 i d v a b) s)
def xr.mono(h:xr K H ds vs)(s:qi H H'):xr K H' ds vs:=(h.1,λi d v a b=>y0 (h.2 i d v a b) s)
def qD.nil:qD K H [] []:=(rfl,λi d v a=>by simp at a)
def qD.cons(h:rN K H d v)(t:qD K H ds vs):qD K H (d::ds)<|v::vs:=(by simp[t.1],λi e w a b=>by cases i with
 |zero=>simp at a b;subst a b;show h
 |succ i=>show t.2 i e w (by show a)<|by show b)
def qD.cons_iff:qD K H (d::ds) (v::vs)↔rN K H d v/\qD K H ds vs:=(λh=>(h.2 0 d v rfl rfl,by have:=h.1;simpa using this,λi e w a b=>h.2 (i+1) e w (by show a)<|by show b),λh=>.cons h.1 h.2)
def qD.nil_inv(h:qD K H [] vs):vs=[]:=by have:=h.1;cases vs with
 |nil=>rfl
 |cons _ _=>simp at this
open Z.qD renaming nil_inv->n8
def qD.cons_inv(h:qD K H (d::ds) vs):∃v ws,vs=v::ws/\rN K H d v/\qD K H ds ws:=by cases vs with
 |nil=>have:=h.1;simp at this
 |cons v ws=>show(v,ws,rfl,qD.cons_iff.mp h)
open Z.qD renaming cons_inv->k8
theorem qD.append:∀{ds l}{vs ws},qD K H ds vs->qD K H l ws->qD K H (ds++l) (vs++ws)
 | [],l,vs,ws,h,g=>by rw[n8 h];show g
 |d::ds,l,vs,ws,h,g=>by have(v,t,rfl,n,s):=k8 h;show .cons n<|qD.append s g
def qD.take(h:qD K H ds vs)n:qD K H (ds.take n)<|vs.take n:=(by rw[lTq,lTq,h.1],λi d v a b=>by
 rw[List.getElem?_take]at a b;split at a;.rename_i hi;rw[pZ hi]at b;show h.2 i d v a b
 .cases a)
def qD.drop(h:qD K H ds vs)n:qD K H (ds.drop n)<|vs.drop n:=(by rw[aR,aR,h.1],λi d v a b=>by rw[eE]at a b;show h.2 _ d v a b)
def qD.get(h:qD K H ds vs){i:Nat}(e:ds[i]?=aB d):∃v,vs[i]?=aB v/\rN K H d v:=by have hi:=(gSq.mp e).1;have l:=h.1 ▸ hi;show(vs[i],gEg l,h.2 i d _ e<|gEg l)
def qD.get'(h:qD K H ds vs){i:Nat}(e:vs[i]?=aB v):∃d,ds[i]?=aB d/\rN K H d v:=by have hi:=(gSq.mp e).1;have l:=fx h.1 ▸ hi;show(ds[i],gEg l,h.2 i _ v (gEg l) e)
def qD.set(h:qD K H ds vs)(r:rN K H d v)j:qD K H (fb ds j d)<|fb vs j v:=(by simp[h.1],λi e w a b=>by
 rw[bE]at a b;by_cases l:j=i
 .subst l;rw[pZ rfl]at a b;split at a;.rename_i n;rw[pZ<|h.1 ▸ n]at b;cases a;cases b;show r
  .cases a
 .rw[pW l]at a b;show h.2 i e w a b)
theorem qD.reverse:∀{ds}{vs},qD K H ds vs->qD K H (dw ds) (dw vs)
 | [],vs,h=>by rw[n8 h];show .nil
 |d::ds,vs,h=>by have(v,s,rfl,l,n):=k8 h;rw[gc,gc];show n.reverse.append<|.cons l .nil
def rN.list_inv(h:rN K H (ew ds) v):∃p vs,v = c6 p/\H p=aB (eH vs)/\qD K H ds vs:=by cases h with
 |list h l e=>show(_,_,rfl,h,l,e)
open Z.rN renaming list_inv->ro
def rN.tup_inv(h:rN K H (lG ds) v):∃p vs,v = c6 p/\H p=aB (vu vs)/\qD K H ds vs:=by cases h with
 |tup h l e=>show(_,_,rfl,h,l,e)
def rN.dict_inv(h:rN K H (m6 ds) v):∃p kvs,v = c6 p/\H p=aB (wm kvs)/\xr K H ds kvs:=by cases h with
 |dict h l e=>show(_,_,rfl,h,l,e)
def rN.mk_list(h:H p=aB (eH vs))(r:qD K H ds vs):rN K H (ew ds)<|c6 p:=.list h r.1 r.2
def rN.mk_tup(h:H p=aB (vu vs))(r:qD K H ds vs):rN K H (lG ds)<|c6 p:=.tup h r.1 r.2
def rN.mk_dict(h:H p=aB (wm vs))(r:xr K H ds vs):rN K H (m6 ds)<|c6 p:=.dict h r.1 r.2
noncomputable def D.scal:D->Bool
 | j0=>t_
 | k9 _=>t_
 | b7 _=>t_
 | j3 _=>t_
 | .ty _=>t_
 |_=>f_
def rN.scal(h:rN K H d v)(s:d.scal=t_):rN K l d v:=by cases h with
 |non=>show .non
 |bl=>show .bl
 |int=>show t8
 |str=>show .str
 |ty=>show .ty
 |_=>cases s
set_option genInjectivity true in
inductive AV where
 |sh (d:D)|ow (avs:List AV)|owd (kvs:List<|qk×D)|owl (kvs:List<|qk×Ϝ)
open Z.AV renaming sh->b8,ow->d8,owd->eT
noncomputable abbrev i6(x:Int):Option AV:=aB<|b8<|b7 x
noncomputable abbrev i7(x:List D):Option AV:=aB<|b8<|ew x
noncomputable abbrev i8(x:Bool):Option AV:=aB<|b8<|k9 x
mutual
noncomputable def oY:AV->D
 | .sh d=>d
 | .ow avs=>.list<|Hc avs
 | .owd kvs=>.dict kvs
 | .owl kvs=>.dict<|kvs.map λx=>%[x.1|.list<|x.2.map .int]
noncomputable def Hc:List AV->List D
 | []=>[]
 |a::as=>oY a::Hc as
end
theorem Ii:∀avs:List AV,Hc avs=avs.map oY
 | []=>by rfl
 |a::as=>by simp[Hc,Ii as]
@[simp] theorem uc d:oY (b8 d)=d:=by rfl
@[simp] theorem qZ avs:oY (d8 avs) = ew (avs.map oY):=by simp[oY,Ii]
@[simp] theorem Q4 kvs:oY (eT kvs) = m6 kvs:=by rfl
inductive qp (K:Ζ)(Hf H:Hp):AV->V->Δ->Prop
 |sh {d:D}{v:V}(r:rN K Hf d v):qp K Hf H (.sh d) v []
 |ow {p:Addr}{vs:List V}{avs:List AV}{Fs:List Δ}(h:H p=aB (.lst vs)) (n:Hf p=n_) (l:avs.length=vs.length) (lf:avs.length=Fs.length)
   (e:∀(i:Nat) (a:AV) (v:V) (F:Δ),avs[i]?=aB a->vs[i]?=aB v->Fs[i]?=aB F->qp K Hf H a v F):qp K Hf H (.ow avs) (.ref p)<|p::Fs.flatten
 |owd {p:Addr}{kvs:List<|qk×V}{ds:List<|qk×D}(h:H p=aB (.dK kvs)) (n:Hf p=n_) (r:xr K Hf ds kvs):qp K Hf H (.owd ds) (.ref p) [p]
 |owl {p:Addr}{kvs:List<|qk×Ϝ}{qs:Δ}(h:H p=aB (.dK<|kC (λx q=>%[x.1|V.ref q]) kvs qs)) (n:Hf p=n_) (l:kvs.length=qs.length) (e:∀(i:Nat) (q:Addr) (x:qk×Ϝ),qs[i]?=aB q->kvs[i]?=aB x->H q=aB (.lst<|x.2.map V.int)/\Hf q=n_):qp K Hf H (.owl kvs) (.ref p)<|p::qs
def PQ{kvs:List<|qk×Ϝ}{u:Δ}(h:H p=aB (wm<|kC (λx q=>%[x.1|c6 q]) kvs u))(l:de kvs=de u)(e:∀(i:Nat) q x,u[i]?=aB q->kvs[i]?=aB x->H q=aB (eH<|x.2.map c7)):rN K H (m6<|kvs.map λx=>%[x.1|ew<|x.2.map b7])<|c6 p:=by
 show .dict h ?_ λi d v s n=>?_
 .show df λi=>?_;rw[gMq,gMq,gMq,jo];by_cases c:i<de kvs;.rw[gEg c,gEg<|l ▸ c];rfl
  .rw[bo<|iV c];rfl
 .rw[gMq]at s;rw[jo]at n;cases hk:kvs[i]? with
  |none=>rw[hk]at s;cases s
  |some x=>cases z:u[i]? with
   |none=>rw[hk,z]at n;cases n
   |some q=>rw[hk]at s n;rw[z]at n;cases s;cases n;show .list (e i q x z hk) (by rw[lMq,lMq]) λj d v t B=>?_;rw[gMq]at t B;cases E:x.2[j]? with
    |none=>rw[E]at t;cases t
    |some m=>rw[E]at t B;cases t;cases B;show t8
def aaR{kvs:List<|qk×Ϝ}{n:Δ}(l:de kvs=de n)(s:q∈n):∃(i:Nat) (x:qk×Ϝ),n[i]?=aB q/\kvs[i]?=aB x:=by have(i,hi):=aC.mp s;have hl:=(gSq.mp hi).1;show(i,_,hi,gEg<|l ▸ hl)
def qp.owned(h:qp K Hf H av v F):∀q∈F,H q≠n_/\Hf q=n_:=by induction h with
 |sh _=>intro q s;cases s
 | @ow p u t B h n l lf e E=>
  intro q s;obtain rfl|s:=ae.mp s;.show(by rw[h];simp,n)
  .have(F,G,s):=mFq.mp s;have(i,hi,rfl):=cX.mp G;show E i t[i] u[i] B[i] ⋯ ⋯ ⋯ q s
 |owd h n r=>intro q s;have:=mSq.mp s;subst this;show(by rw[h];simp,n)
 |owl h n l e=>
  intro q s;obtain z|z:=ae.mp s;.rw[z];show(by rw[h];simp,n)
  .have(i,x,I,J):=aaR l z;have(L,M):=e i q x I J;show(by rw[L];simp,M)
open Z.qp renaming owned->IP
def qp.keep(h:qp K Hf H av v F)(s:qi Hf Hf')(hk:∀q∈F,H' q=H q)(hn:∀q∈F,Hf' q=n_):qp K Hf' H' av v F:=by induction h with
 |sh r=>show .sh<|y0 r s
 | @ow p L E M h n l lf e G=>show .ow (by rw[hk p ⋯];show h) (hn p ⋯) l lf λi a v F t u z=>G i a v F t u z (λq B=>hk q ?_) λq B=>hn q ?_;all_goals show mCo _<|e9 mFq (F,mGq z,B)
 |owd h n r=>show .owd (by rw[hk _ ⋯];show h) (hn _ ⋯)<|r.mono s
 | @owl p I J h n l e=>show .owl (by rw[hk _<|aa ..];show h) (hn _<|aa ..) l λi q x t u=>?_;have m:q∈p::J:=mCo _<|mGq t;show(by rw[hk q m];show(e i q x t u).1,hn q m)
def qp.rep(h:qp K Hf H av v F)(s:qi Hf H):rN K H (oY av) v:=by induction h with
 |sh r=>show y0 r s
 | @ow p I z E h n l lf e G=>rw[qZ];show .list h (by simp[l]) λi d v t B=>?_;rw[gMq]at t;cases u:z[i]? with
  |none=>rw[u]at t;cases t
  |some a=>rw[u]at t;cases t;have hi:=lf ▸ (gSq.mp u).1;show G i a v E[i] u B<|gEg hi
 |owd h n r=>show .mk_dict h<|r.mono s
 |owl h n l e=>show PQ h l λi q x t B=>(e i q x t B).1
noncomputable def frz(Hf H:Hp)(F:Δ):Hp:=λb=>if b∈F then H b else Hf b
open Z renaming frz->aAi
def A0(h:b∈F):frz Hf H F b=H b:=pZ h
def uu(h:b∉F):frz Hf H F b=Hf b:=pW h
def rL(h:∀q∈F,Hf q=n_):qi Hf<|frz Hf H F:=λb o e=>by rw[uu λm=>by rw[h b m]at e;cases e];show e
def Xb(s:qi Hf H):qi (frz Hf H F) H:=λb o e=>by
 by_cases m:b∈F;.rw[A0 m]at e;show e
 .rw[uu m]at e;show s b o e
def qp.frozen(h:qp K Hf H av v F)(s:qi Hf Hf')(hk:∀q∈F,Hf' q=H q):rN K Hf' (oY av) v:=by induction h with
 |sh r=>show y0 r s
 | @ow p J z E h n l lf e G=>rw[qZ];show .list (by rw[hk p ⋯];show h) (by simp[l]) λi d v t B=>?_;rw[gMq]at t;cases u:z[i]? with
  |none=>rw[u]at t;cases t
  |some a=>rw[u]at t;cases t;have hi:=lf ▸ (gSq.mp u).1;show G i a v E[i] u B (gEg hi) λq I=>hk q<|mCo _<|e9 mFq (E[i],gRq hi,I)
 |owd h n r=>show .mk_dict (by rw[hk _ ⋯];show h)<|r.mono s
 |owl h n l e=>show PQ (by rw[hk _<|aa ..];show h) l λi q x t B=>by rw[hk q<|mCo _<|mGq t];show(e i q x t B).1
abbrev AS:=List<|Option AV
structure qv (K:Ζ)(H₀ Hf₀ Hf:Hp)(S:AS)(σ:St)(H:Hp)(Fs:List Δ):Prop where
 len:S.length=σ.length
 lenF:Fs.length=S.length
 rep:∀(i:Nat) (av:AV),S[i]?=aB (aB av)->∃v F,σ[i]?=aB (aB v)/\Fs[i]?=aB F/\qp K Hf H av v F
 emp:∀i:Nat,S[i]?=aB n_->Fs[i]?=aB []
 nd:Fs.flatten.Nodup
 fresh:∀p∈Fs.flatten,H₀ p=n_
 sub:qi Hf H
 fr:qi H₀ H
 lim:∀b,Hf₀ b=n_->H₀ b≠n_->Hf b=n_
 sf:qi Hf₀ Hf
structure yY (Hf H:Hp)(Fs:List Δ)(Hf' H':Hp)(Fs':List Δ):Prop where
 sf:qi Hf Hf'
 sh:qi H H'
 own:∀p∈Fs'.flatten,p∈Fs.flatten
 gr:∀b,Hf b=n_->Hf' b≠n_->H b=n_∨b∈Fs.flatten
def yY.refl:yY Hf H l Hf H l:=(j4 _,j4 _,λQ h=>h,λb h g=>absurd h g)
def OD(s:qi H l)(h:H b≠n_):l b≠n_:=by cases e:H b with
 |none=>show absurd e h
 |some o=>rw[s b o e];simp
def yY.trans(a:yY Hf H t Hf1 n Fs1)(b:yY Hf1 n Fs1 l s Fs2):yY Hf H t l s Fs2:=(eW a.sf b.sf,eW a.sh b.sh,λp h=>a.own p<|b.own p h,λc h g=>by
  by_cases e:Hf1 c=n_
  .obtain q|q:=b.gr c e g;.show jE<|a.sh.free q
   .show iq<|a.own c q
  .show a.gr c h e)
open Z.yY renaming trans->lr
section
variable {Fs:List Δ}
def OV(s:qi H H')(h:H b≠n_):H' b=H b:=by cases e:H b with
 |none=>show absurd e h
 |some o=>show s b o e
def qv.mem(R:qv K H₀ Hf₀ Hf S σ H Fs)(h:q∈bt Fs):H q≠n_/\Hf q=n_:=by have(F,t,n):=mFq.mp h;have(i,hi,rfl):=cX.mp t;have l:=R.lenF ▸ hi;cases e:S[i]with
 |none=>
  have:=R.emp i<|by rw[gEg l,e]
  rw[gEg hi]at this;rw[aB.inj this]at n;cases n
 |some u=>
  have(v,F,_,s,r):=R.rep i u<|by rw[gEg l,e]
  rw[gEg hi]at s;rw[aB.inj s]at n;show IP r q n
def qv.more(R:qv K H₀ Hf₀ Hf S σ H Fs)(s:qi H H')(sf:qi Hf Hf')(sub:qi Hf' H')(hn:∀q∈bt Fs,Hf' q=n_)(lim:∀b,Hf₀ b=n_->H₀ b≠n_->Hf' b=n_):qv K H₀ Hf₀ Hf' S σ H' Fs where
 len:=R.len
 lenF:=R.lenF
 rep:=λi av e=>by have(v,F,t,n,r):=R.rep i av e;show(v,F,t,n,r.keep sf (λq l=>OV s (IP r q l).1) λq l=>hn q<|e9 mFq (F,mGq n,l))
 emp:=R.emp
 nd:=R.nd
 fresh:=R.fresh
 sub:=sub
 fr:=eW R.fr s
 lim:=lim
 sf:=eW R.sf sf
def qv.laid(R:qv K H₀ Hf₀ Hf S σ H Fs)(s:qi H H'):qv K H₀ Hf₀ Hf S σ H' Fs:=R.more s (j4 _) (eW R.sub s) (λq h=>(R.mem h).2) R.lim
def rn(h:p∈bt (fb Fs i F)):p∈F∨p∈bt Fs:=by
 have(G,n,l):=mFq.mp h;obtain q|q:=dG n;.show iq<|e9 mFq (G,q,l)
 .subst q;show jE l
theorem tQ:∀{Fs:List Δ}{F}i,c8 (bt Fs)->c8 F->(∀p∈F,p∉bt Fs)->c8 (fb Fs i F).flatten
 | [],F,i,h,_,_=>by simp
 |G::Gs,F,0,h,hF,hd=>by rw[eI,fCq,nAq];rw[fCq,nAq]at h;show(hF,h.2.1,λa ha b hb e=>hd a ha ?_);show ah _<|e ▸ hb
 |G::Gs,F,i+1,h,hF,hd=>by
  rw[fP,fCq,nAq];rw[fCq,nAq]at h;show(h.1,tQ i h.2.1 hF λp l m=>hd p l<|by show ah _ m,λa ha b hb e=>?_);obtain q|q:=rn hb;.show hd b q<|by show ai _<|e ▸ ha
  .show h.2.2 a ha b q e
def qv.set(R:qv K H₀ Hf₀ Hf S σ H Fs)i(r:qp K Hf H av v F)(nd:c8 F)(hf:∀q∈F,H₀ q=n_/\q∉bt Fs) :
  qv K H₀ Hf₀ Hf (fb S i<|aB av) (fb σ i<|aB v) H<|fb Fs i F where
 len:=by simp[R.len]
 lenF:=by simp[R.lenF]
 rep:=λj a e=>by
  rw[bE]at e;by_cases l:i=j
  .subst l;rw[pZ rfl]at e;split at e;.rename_i hi;cases e;show(v,F,by rw[aA<|R.len ▸ hi],by rw[aA<|fx R.lenF ▸ hi],r)
   .cases e
  .rw[pW l]at e;have(w,G,s,t,q):=R.rep j a e;show(w,G,by rw[ar l];show s,by rw[ar l];show t,q)
 emp:=λj e=>by
  rw[bE]at e;by_cases l:i=j;.subst l;rw[pZ rfl]at e;split at e <;> cases e
  .rw[pW l]at e;rw[ar l];show R.emp j e
 nd:=tQ i R.nd nd λp n=>(hf p n).2
 fresh:=λp n=>by
  obtain q|q:=rn n;.show(hf p q).1
  .show R.fresh p q
 sub:=R.sub
 fr:=R.fr
 lim:=R.lim
 sf:=R.sf
def qN(h:p∈bt (fb Fs i [])):p∈bt Fs:=by
 obtain q|q:=rn h;.cases q
 .show q
theorem uU:∀{Fs:List Δ}{F}{i}{p},c8 (bt Fs)->Fs[i]?=aB F->p∈F->p∉bt (fb Fs i [])
 | [],F,i,p,_,e,_,_=>by simp at e
 |G::Gs,F,0,p,h,e,l,m=>by simp at e;subst e;rw[fCq,nAq]at h;show h.2.2 p l p m rfl
 |G::Gs,F,i+1,p,h,e,l,m=>by
  rw[fCq,nAq]at h;have n:=by show e
  obtain q|q:=mAq.mp m;.show h.2.2 p q p (e9 mFq (F,mGq n,l)) rfl
  .show uU h.2.1 n l q
def qv.move(R:qv K H₀ Hf₀ Hf S σ H Fs)(e:S[i]?=aB (aB av)):∃v F,σ[i]?=aB (aB v)/\Fs[i]?=aB F/\qp K Hf H av v F/\c8 F/\(∀q∈F,H₀ q=n_/\q∉bt (fb Fs i [])) /\
  qv K H₀ Hf₀ Hf (fb S i n_) σ H (fb Fs i []):=by
 have(v,F,z,s,r):=R.rep i av e;have u:∀q∈F,q∈bt Fs:=λq t=>e9 mFq (F,mGq s,t);show(v,F,z,s,r,bz.sublist (aL<|mGq s) R.nd,λq t=>(R.fresh q<|u q t,uU R.nd s t),?_);show(by simp[R.len],by simp[R.lenF],λj a n=>?_,λj n=>?_,tQ i R.nd bA (λp x=>by cases x),λp x=>R.fresh p<|qN x,R.sub,R.fr,R.lim,R.sf)
 .rw[bE]at n;by_cases l:i=j;.subst l;rw[pZ rfl]at n;split at n <;> cases n
  .rw[pW l]at n;have(w,G,B,E,q):=R.rep j a n;show(w,G,B,by rw[ar l];show E,q)
 .rw[bE]at n;by_cases l:i=j
  .subst l;rw[pZ rfl]at n;split at n;.rename_i hi;rw[aA<|fx R.lenF ▸ hi]
   .cases n
  .rw[pW l]at n;rw[ar l];show R.emp j n
def qv.frz(R:qv K H₀ Hf₀ Hf S σ H Fs)(hf:∀q∈F,H₀ q=n_/\q∉Fs.flatten)(hn:∀q∈F,Hf q=n_):qv K H₀ Hf₀ (frz Hf H F) S σ H Fs:=by
 show R.more (.refl _) (rL hn) (Xb R.sub) (λq l=>?_) λb s n=>?_;.rw[uu λm=>(hf q m).2 l];show(R.mem l).2
 .rw[uu λm=>n (hf b m).1];show R.lim b s n
end
abbrev ME:=AS->Option (D×AS)
abbrev MK:=AS->Option (AV×AS)
abbrev ML:=AS->Option (List D×AS)
abbrev MT:=AS->Option (Bool×AS)
abbrev MA:=AS->Option (List AV×AS)
def ql(K:Ζ)(Hf H:Hp)(avs:List AV)(vs:List V)(Gs:List Δ):Prop:=de avs=de vs/\de avs=de Gs/\∀(i:Nat) a v F,avs[i]?=aB a->vs[i]?=aB v->Gs[i]?=aB F->qp K Hf H a v F
structure zT (H₀ H:Hp)(Fs Fs':List Δ)(F:Δ):Prop where
 nd:F.Nodup
 fr:∀q∈F,H₀ q=n_
 out:∀q∈F,q∉Fs'.flatten
 new:∀q∈F,H q=n_∨q∈Fs.flatten
def zT.nil:zT H₀ H n l []:=(bA,λq h=>(by cases h),λq h=>(by cases h),λq h=>(by cases h))
section
variable (K:Ζ)
def SR(te:TE)(m:ME):Prop:=∀⦃H₀ l Hf S σ H u d S'⦄,qv K H₀ l Hf S σ H u->m S=aB %[d|S']->∀Q:VK,
 (∀n t s v,yY Hf H u n t s->qv K H₀ l n S' σ t s->rN K t d v->Q v t)->te σ H Q
def SK(te:TE)(m:MK):Prop:=∀⦃H₀ l Hf S σ H u a S'⦄,qv K H₀ l Hf S σ H u->m S=aB %[a|S']->∀Q:VK,
 (∀n t s v F,yY Hf H u n t s->qv K H₀ l n S' σ t s->qp K n t a v F->zT H₀ H u s F->Q v t)->te σ H Q
def SL(te:TE)(m:ML):Prop:=∀⦃H₀ l Hf S σ H u ds S'⦄,qv K H₀ l Hf S σ H u->m S=aB %[ds|S']->∀Q:VK,
 (∀n t s p vs,yY Hf H u n t s->qv K H₀ l n S' σ t s->t p=aB (eH vs)->qD K n ds vs->Q (c6 p) t)->te σ H Q
def Kf(x:TT)(m:MT):Prop:=∀⦃H₀ l Hf S σ H u b S'⦄,qv K H₀ l Hf S σ H u->m S=aB %[b|S']->∀Q:Bool->Hp->Prop,
 (∀n t s,yY Hf H u n t s->qv K H₀ l n S' σ t s->Q b t)->x σ H Q
def SA(x:TA)(m:MA):Prop:=∀⦃H₀ l Hf S σ H u as S'⦄,qv K H₀ l Hf S σ H u->m S=aB %[as|S']->∀Q:List V->Hp->Prop,
 (∀n t s vs Gs,yY Hf H u n t s->qv K H₀ l n S' σ t s->ql K n t as vs Gs->zT H₀ H u s (bt Gs)->Q vs t)->x σ H Q
def Wn(x:TA)(m:ML):Prop:=∀⦃H₀ l Hf S σ H u ds S'⦄,qv K H₀ l Hf S σ H u->m S=aB %[ds|S']->∀Q:List V->Hp->Prop,
 (∀n t s vs,yY Hf H u n t s->qv K H₀ l n S' σ t s->qD K t ds vs->Q vs t)->x σ H Q
end
def qp.stp(r:qp K Hf H av v F)(n:∀q∈F,q∉bt Fs)(t:yY Hf H Fs Hf' H' Fs'):qp K Hf' H' av v F:=r.keep t.sf (λq l=>OV t.sh (IP r q l).1) λq l=>by
  by_cases e:Hf' q=n_;.show e
  .obtain z|z:=t.gr q (IP r q l).2 e;.show absurd z (IP r q l).1
   .show absurd z<|n q l
def qv.new(R:qv K H₀ Hf₀ Hf S σ H Fs)(l:H p=n_):yY Hf H Fs Hf (rG H p o) Fs/\qv K H₀ Hf₀ Hf S σ (rG H p o) Fs/\Hf p=n_/\H₀ p=n_/\p∉bt Fs:=((j4 _,xU l,λQ h=>h,λb h g=>absurd h g),R.laid<|xU l,R.sub.free l,R.fr.free l,λm=>(R.mem m).1 l)
def uP n:bt (ao n ([]:Δ))=[]:=by induction n with
 |zero=>rfl
 |succ n l=>simp only[iy,fCq,l];rfl
def qp.new(h:H p=aB (eH vs))(n:Hf p=n_)(r:qD K Hf ds vs):qp K Hf H (d8<|ds.map b8) (c6 p) [p]:=by
 have e:[p]=p::bt (ao (de ds)<|[]):=by rw[uP]
 rw[e];show .ow h n (by simp[r.1]) ⋯ λi a v F l s t=>?_;rw[gMq]at l;cases q:ds[i]? with
 |none=>rw[q]at l;cases l
 |some d=>rw[q]at l;cases l;have:=cV<|mGq t;subst this;show .sh<|r.2 i d v q s
open Z.qp renaming new->y9
def qp.news(h:H p=aB (eH vs))(n:Hf p=n_)(r:ql K Hf H avs vs Gs):qp K Hf H (d8 avs) (c6 p)<|p::bt Gs:=.ow h n r.1 r.2.1 r.2.2
open Z.qp renaming news->vl
def qp.ow_inv(h:qp K Hf H (d8 avs) v F):∃p vs Gs,v = c6 p/\F=p::bt Gs/\H p=aB (eH vs)/\Hf p=n_/\ql K Hf H avs vs Gs:=by cases h with
 |ow h n l lf e=>show(_,_,_,rfl,rfl,h,n,l,lf,e)
def qp.owd_inv(h:qp K Hf H (eT ds) v F):∃p kvs,v = c6 p/\F=[p]/\H p=aB (wm kvs)/\Hf p=n_/\xr K Hf ds kvs:=by cases h with
 |owd h n r=>show(_,_,rfl,rfl,h,n,r)
def qp.sh_inv(h:qp K Hf H (b8 d) v F):F=[]/\rN K Hf d v:=by cases h with
 |sh r=>show(rfl,r)
open Z.qp renaming sh_inv->pj
def qv.give(R:qv K H₀ Hf₀ Hf' S σ l Fs1)(t:yY Hf H Fs Hf' l Fs1)(r:qp K Hf' l av v F)(o:zT H₀ H Fs Fs1 F) :
  qv K H₀ Hf₀ (aAi Hf' l F) S σ l Fs1/\rN K (aAi Hf' l F) (oY av) v/\yY Hf H Fs (aAi Hf' l F) l Fs1:=by
 have n:=λq s=>(IP r q s).2;show(R.frz (λq s=>(o.fr q s,o.out q s)) n,r.frozen (rL n) λq s=>A0 s,eW t.sf<|rL n,t.sh,t.own,λb h g=>?_);by_cases m:b∈F;.show o.new b m
 .rw[uu m]at g;show t.gr b h g
def ql.nil:ql K Hf H [] [] []:=(rfl,rfl,λi a v F h=>by simp at h)
def ql.cons(h:qp K Hf H a v F)(t:ql K Hf H as vs Gs):ql K Hf H (a::as) (v::vs)<|F::Gs:=(by simp[t.1],by simp[t.2.1],λi b w G l n s=>by cases i with
  |zero=>simp at l n s;subst l n s;show h
  |succ i=>show t.2.2 i b w G (by show l) (by show n)<|by show s)
def ql.nil_inv(h:ql K Hf H [] vs Gs):vs=[]/\Gs=[]:=by have(a,b,_):=h;show(cK.mp<|fx a,cK.mp<|fx b)
def ql.cons_inv(h:ql K Hf H (a::as) vs Gs):∃v ws F l,vs=v::ws/\Gs=F::l/\qp K Hf H a v F/\ql K Hf H as ws l:=by have(n,s,t):=h;cases vs with
 |nil=>simp at n
 |cons v ws=>cases Gs with
  |nil=>simp at s
  |cons F l=>show(v,ws,F,l,rfl,rfl,t 0 a v F rfl rfl rfl,by simpa using n,by simpa using s,λi b w G u x z=>t (i+1) b w G (by show u) (by show x)<|by show z)
def ql.frozen(h:ql K Hf H as vs Gs)(s:qi Hf Hf')(hk:∀q∈bt Gs,Hf' q=H q):qD K Hf' (as.map oY) vs:=(by simp[h.1],λi d v l t=>by rw[gMq]at l;cases n:as[i]? with
  |none=>rw[n]at l;cases l
  |some a=>rw[n]at l;cases l;have hi:=h.2.1 ▸ (gSq.mp n).1;show(h.2.2 i a v Gs[i] n t<|gEg hi).frozen s λq u=>hk q<|e9 mFq (Gs[i],gRq hi,u))
def ql.owned(h:ql K Hf H as vs Gs):∀q∈bt Gs,H q≠n_/\Hf q=n_:=λq l=>by have(F,s,l):=mFq.mp l;have(i,hi,rfl):=cX.mp s;have n:=fx h.2.1 ▸ hi;have t:=h.1 ▸ n;show(IP (h.2.2 i as[i] vs[i] Gs[i] (gEg n) (gEg t)<|gEg hi)) q l
def qv.gives(R:qv K H₀ Hf₀ Hf' S σ l Fs1)(t:yY Hf H Fs Hf' l Fs1)(r:ql K Hf' l as vs Gs)(o:zT H₀ H Fs Fs1<|bt Gs) :
  qv K H₀ Hf₀ (aAi Hf' l<|bt Gs) S σ l Fs1/\qD K (aAi Hf' l<|bt Gs) (as.map oY) vs/\yY Hf H Fs (aAi Hf' l<|bt Gs) l Fs1:=by
 have n:=λq s=>(r.owned q s).2;show(R.frz (λq s=>(o.fr q s,o.out q s)) n,r.frozen (rL n) λq s=>A0 s,eW t.sf<|rL n,t.sh,t.own,λb h g=>?_);by_cases m:b∈bt Gs;.show o.new b m
 .rw[uu m]at g;show t.gr b h g
def zT.stp(o:zT H₀ H Fs Fs1 F)(t:yY Hf1 n Fs1 l s Fs2):zT H₀ H Fs Fs2 F:=(o.nd,o.fr,λq h m=>o.out q h<|t.own q m,o.new)
def zT.back(t:yY Hf H Fs Hf1 l Fs1)(o:zT H₀ l Fs1 Fs2 F):zT H₀ H Fs Fs2 F:=(o.nd,o.fr,o.out,λq h=>t6 (o.new q h) (λe=>jE<|t.sh.free e) λm=>iq<|t.own q m)
def zT.app(a:zT H₀ H Fs Fs' F)(b:zT H₀ H Fs Fs' G)(d:∀q∈F,q∉G):zT H₀ H Fs Fs'<|F++G:=(e9 nAq (a.nd,b.nd,λx l y n e=>d x l<|e ▸ n),λq h=>t6 (mAq.mp h) (a.fr q)<|b.fr q,λq h=>t6 (mAq.mp h) (a.out q)<|b.out q,λq h=>t6 (mAq.mp h) (a.new q)<|b.new q)
def zT.apart{Hf1:Hp}(a:zT H₀ H Fs Fs1 F)(ha:∀q∈F,l q≠n_)(b:zT H₀ l Fs1 Fs2 G):∀q∈F,q∉G:=λq h m=>by
 obtain e|e:=b.new q m;.show ha q h e
 .show a.out q h e
def zT.one(R:qv K H₀ Hf₀ Hf S σ H Fs)(l:H p=n_):zT H₀ H Fs Fs [p]:=(by simp,λq h=>by rw[mSq.mp h];show R.fr.free l,λq h m=>by rw[mSq.mp h]at m;show(R.mem m).1 l,λq h=>by rw[mSq.mp h];show jE l)
open Z.zT renaming one->Rg
noncomputable def oQ(i:Nat):ME:=λS=>(q9 S[i]?).map λa=>%[oY a|S]
noncomputable def pO(i:Nat):MK:=λS=>(q9 S[i]?).map λa=>%[b8<|oY a|fb S i<|aB<|b8<|oY a]
noncomputable def Ad(i:Nat):MK:=λS=>(q9 S[i]?).map λa=>%[a|fb S i n_]
noncomputable def K7(i:Nat):ML:=λS=>match q9 S[i]? with
 |aB (b8 (ew ds))=>aB %[ds|S]
 |aB (d8 avs)=>aB %[avs.map oY|fb S i<|aB<|d8<|(avs.map oY).map b8]
 |_=>n_
noncomputable def rOf(k:MK):ME:=λS=>(k S).map λx=>%[oY x.1|x.2]
def kSc(m:ME):MK:=λS=>cq (m S) λx=>if x.1.scal then aB %[b8 x.1|x.2]else n_
noncomputable def lOf(k:MK):ML:=λS=>cq (k S) λx=>match x.1 with
 | b8 (ew ds)=>aB %[ds|x.2]
 | d8 avs=>aB %[avs.map oY|x.2]
 |_=>n_
noncomputable def tx(k:MK):MK:=λS=>(k S).map λx=>%[b8<|oY x.1|x.2]
def rC(d:D):ME:=λS=>if d.scal then aB %[d|S]else n_
def qE{S:AS}{i:Nat}(h:q9 S[i]?=aB a):S[i]?=aB (aB a):=by cases e:S[i]? with
 |none=>rw[e]at h;cases h
 |some z=>rw[e]at h;show congrArg aB h
def oZ i:SR K (va i)<|oQ i:=by intro H₀ l Hf S σ H t d u R e Q q;have(a,n,e):=oMq.mp e;cases e;have(v,F,s,x,r):=R.rep i a<|qE n;show(v,s,q _ _ _ v .refl R<|r.rep R.sub)
def Nv i:SK K (va i)<|Ad i:=by intro H₀ n Hf S σ H B a E R e Q q;have(b,s,e):=oMq.mp e;cases e;have(v,F,t,u,r,nd,o,x):=R.move<|qE s;show(v,t,q _ _ _ v F (j4 _,j4 _,λp z=>qN z,λb h g=>absurd h g) x r (nd,λq l=>(o q l).1,λq l=>(o q l).2,λq l=>iq<|e9 mFq (F,mGq u,l)))
def qv.again{S:AS}{n:List Δ}{F:Δ}(R:qv K H₀ l Hf (fb S i n_) σ H<|fb n i [])(s1:σ[i]?=aB (aB v))(r:qp K Hf H av v G)(nd:c8 G)(hf:∀q∈G,H₀ q=n_/\q∉bt (fb n i [])) :
  qv K H₀ l Hf (fb S i<|aB av) σ H<|fb n i G:=by
 have R2:=R.set i r nd hf;rw[dC,dC]at R2;have e:fb σ i (aB v)=σ:=by have(hk,s):=gSq.mp s1;rw[←s];show gX hk
 rw[e]at R2;show R2
def sJ i:SK K (va i)<|pO i:=by
 intro H₀ l Hf S σ H I a J R e Q q;have(b,x,e):=oMq.mp e;cases e;have(v,F,t,z,r,nd,o,B):=R.move<|qE x;have n:=λq s=>(IP r q s).2;have R2:=B.frz o n;have u:=r.frozen (rL n) λq s=>A0 s;have E:=R2.again (F:=F) t (.sh u) bA λq h=>(by cases h);show(v,t,q _ _ _ v [] (rL n,j4 _,λp G=>qN G,λb h g=>?_) E (.sh u) .nil);by_cases m:b∈F;.show iq<|e9 mFq (F,mGq z,m)
 .rw[uu m]at g;show absurd h g
def NN i:SL K (va i)<|K7 i:=by
 intro H₀ u Hf S σ H Fs ds S' R e Q q;unfold K7 at e;set_option tactic.hygienic true in split at e;.rename_i M x;cases e;have(v,F,s,B,r):=R.rep i _<|qE x;have(p,E,rfl,t,G):=ro (pj r).2;show(_,s,q _ _ _ p E .refl R (R.sub _ _ t) G)
 .rename_i O x;cases e;have(v,F,s,B,r,nd,o,P):=R.move<|qE x;have(p,E,I,rfl,rfl,t,G,J):=r.ow_inv;have n:=λq l=>(J.owned q l).2;have R2:=P.frz (λq l=>o q<|mCo _ l) n;have L:=J.frozen (rL n) λq l=>A0 l;have U:=(au.mp nd).1;have X:=y9 t (by rw[uu U];show G) L;have Y:=R2.again (F:=p::bt I) s X ⋯ λq l=>by rw[mSq.mp l];show o p ⋯
  show(_,s,q _ _ _ p E (rL n,j4 _,λb hb=>?_,λb h g=>?_) Y t L)
  .obtain z|z:=rn hb;.rw[mSq.mp z];show e9 mFq (_,mGq B,by simp)
   .show z
  .by_cases m:b∈bt I;.show iq<|e9 mFq (_,mGq B,mCo _ m)
   .rw[uu m]at g;show absurd h g
 .cases e
def SK.rOf(h:SK K te k):SR K te<|rOf k:=by intro H₀ l Hf S σ H B d E R e Q q;have(x,s,e):=oMq.mp e;cases e;show h R s Q λu G z v F t n r o=>q _ _ _ v t n<|r.rep n.sub
def SR.kSc(h:SR K te m):SK K te<|kSc m:=by
 intro H₀ l Hf S σ H E a G R e Q q;have(x,n,e):=oBq.mp e;split at e;.rename_i s;cases e;show h R n Q λu I z v t B r=>q _ _ _ v [] t B (.sh<|r.scal s) .nil
 .cases e
def SK.frz(h:SK K te k):SK K te<|tx k:=by intro H₀ l Hf S σ H G a I R e Q q;have(x,n,e):=oMq.mp e;cases e;show h R n Q λs J u v F t z r o=>?_;have(R2,B,E):=z.give t r o;show q _ _ _ v [] E R2 (.sh B) .nil
open Z.SK renaming frz->tc
def SK.lOf(h:SK K te k):SL K te<|lOf k:=by
 intro H₀ l Hf S σ H P U X R e Q q;have(x,G,e):=oBq.mp e;show h R G Q λI Y J v F t n r o=>?_;split at e;.rename_i L s;cases e;rw[s]at r;have(p,u,rfl,z,B):=r.sh_inv.2.list_inv;show q _ _ _ p u t n (n.sub _ _ z) B
 .rename_i M s;cases e;have(R2,E,O):=n.give t r o;rw[s,qZ]at E;have(p,u,rfl,z,B):=E.list_inv;show q _ _ _ p u O R2 (R2.sub _ _ z) B
 .cases e
def SY(h:∀H,rN K H d v):SR K (tC v)<|rC d:=by
 intro H₀ l Hf S σ H n s t R e Q q;delta rC at e;split at e;.cases e;show q _ _ _ v .refl R<|h _
 .cases e
def pH:SR K (tC<|c7 i)<|rC<|b7 i:=SY λQ=>t8
def NU:SR K (tC<|wy i)<|rC<|j3 i:=SY λQ=>.str
def Zj:SR K (tC<|pY i)<|rC<|k9 i:=SY λQ=>.bl
def abv:SR K (tC nc)<|rC j0:=SY λQ=>.non
def ac7:SR K (tC<|.ty T)<|rC<|.ty T:=SY λQ=>.ty
def xN{α:Type}(p:Prop)(x:Option α):Option α:=@ite (Option α) p (aK p) x n_
def vX(h:p)(x:Option α):xN p x=x:=pZ h
def yl(x:Option α):xN True x=x:=pZ trivial
def qo{x y:Option α}(h:xN p x=y):(p/\x=y)∨n_=y:=by
 by_cases c:p;.rw[vX c]at h;show jE (c,h)
 .show iq<|fq (@if_neg p (aK p) c _ x n_).symm h
noncomputable def pQ(f:D->D->Option D)(a b:ME):ME:=λS=>cq (a S) λx=>cq (b x.2) λy=>(f x.1 y.1).map λd=>%[d|y.2]
noncomputable def Fu(f:D->Option D)(a:ME):ME:=λS=>cq (a S) λx=>(f x.1).map λd=>%[d|x.2]
def FB(K:Ζ)(r:R2)(f:D->D->Option D):Prop:=∀⦃x y H Q l n d⦄,rN K H l x->rN K H n y->f l n=aB d->(∀v,rN K H d v->Q v H)->r x y H Q
def UnD(K:Ζ)(r:V->Hp->VK->Prop)(f:D->Option D):Prop:=∀⦃x H Q l d⦄,rN K H l x->f l=aB d->(∀v,rN K H d v->Q v H)->r x H Q
def qb(hr:FB K r f)(ha:SR K ta a)(hb:SR K tb b):SR K (Ux r ta tb)<|pQ f a b:=by intro H₀ l Hf S σ H O d P R e Q q;have(x,s,e):=oBq.mp e;have(y,t,e):=oBq.mp e;have(z,u,e):=oMq.mp e;cases e;show ha R s _ λB U Fs1 X E G I=>hb G t _ λJ Y Fs2 v2 n R2 L=>?_;show hr (y0 I n.sh) L u λv M=>q _ _ _ v (lr E n) R2 M
def QB{r}{f}(hr:UnD K r f)(ha:SR K ta a):SR K (tUn r ta)<|Fu f a:=by intro H₀ l Hf S σ H I d J R e Q q;have(x,n,e):=oBq.mp e;have(z,s,e):=oMq.mp e;cases e;show ha R n _ λt L Fs1 M u B E=>hr E s λv G=>q _ _ _ v u B G
def M6(c:Int->Int->Prop)(g:Int->Int->D):D->D->Option D
 | b7 i,b7 j=>xN (c i j)<|aB<|g i j
 |_,_=>n_
noncomputable def dI1(g:Int->D):D->Option D
 | b7 i=>aB<|g i
 |_=>n_
abbrev AR:=M6 (λQ Q=>True) λi j=>b7<|i+j
abbrev Cv:=M6 (λQ Q=>True) λi j=>b7<|i-j
abbrev B1:=M6 VP λi j=>b7<|i*j
abbrev vI:=M6 (λQ j=>0<j) λi j=>b7<|i % j
abbrev B3:=M6 aa9 λi j=>b7<|i / j
abbrev Hu:=M6 ab2 λi j=>b7<|i ^ cC j
abbrev O7:=M6 (λQ Q=>True) λi j=>k9<|decide<|i<j
abbrev dLe:=M6 (λQ Q=>True) λi j=>k9<|decide<|i<=j
abbrev CS:=M6 (λQ Q=>True) λi j=>k9<|decide<|j<i
abbrev xj:=dI1 λi=>b7<|-i
noncomputable def Sk(b:Bool):Option D:=aB<|k9 b
def AY(x y:D):Option D:=match x with
 | b7 i=>(match y with|b7 j=>Sk<|decide<|i=j|j0=>Sk f_|j3 _=>Sk f_|_=>n_)
 | j3 i=>(match y with|j3 j=>Sk<|decide<|i=j|j0=>Sk f_|b7 _=>Sk f_|_=>n_)
 | k9 i=>(match y with|k9 j=>Sk<|decide<|i=j|j0=>Sk f_|_=>n_)
 | j0=>(match y with|j0=>Sk t_|b7 _=>Sk f_|j3 _=>Sk f_|k9 _=>Sk f_|_=>n_)
 |_=>n_
noncomputable def aah:D->Option D
 | k9 b=>aB<|k9<|!b
 |_=>n_
def Zc(x y:D):Option D:=cq (AY x y) aah
def LN(l:∀H i j,rN K H (g' i j)<|g i j):FB K (rI C g)<|M6 C g':=by
 intro x y H Q t u d n s e q;unfold M6 at e;set_option tactic.hygienic true in split at e
 .rename_i i j;cases n;cases s;obtain⟨h,e⟩|e:=qo e;.cases e;show(i,j,rfl,rfl,h,q _<|l H i j)
  .cases e
 .cases e
def G0(l:∀H i j,rN K H (g' i j)<|g i j):FB K (P5 g)<|M6 (λZ Z=>True) g':=by
 intro x y H Q t u d n s e q;unfold M6 at e;set_option tactic.hygienic true in split at e;.rename_i i j;cases n;cases s;rw[yl]at e;cases e;show(i,j,rfl,rfl,q _<|l H i j)
 .cases e
def Ee:FB K (P5 λi j=>c7<|i+j) AR:=G0 λQ Q Q=>t8
def FL:FB K (P5 λi j=>c7<|i-j) Cv:=G0 λQ Q Q=>t8
def VM:FB K (rI VP λi j=>c7<|i*j) B1:=LN λQ Q Q=>t8
def Aw:FB K (rI (λQ j=>0<j) λi j=>c7<|i % j) vI:=LN λQ Q Q=>t8
def SU:FB K (rI aa9 λi j=>c7<|i / j) B3:=LN λQ Q Q=>t8
def aaJ:FB K (rI ab2 λi j=>c7<|i ^ cC j) Hu:=LN λQ Q Q=>t8
def Zb:FB K (P5 λi j=>pY<|decide<|i<j) O7:=G0 λQ Q Q=>.bl
def acy:FB K (P5 λi j=>pY<|decide<|i<=j) dLe:=G0 λQ Q Q=>.bl
def Bs:FB K (P5 λi j=>pY<|decide<|j<i) CS:=G0 λQ Q Q=>.bl
set_option tactic.hygienic true in
def Gc:UnD K (rU λi=>c7<|-i) xj:=by
 intro x H Q n d l e q;cases l <;> simp only[dI1]at e;all_goals first|(simp at e;done)|skip
 rename_i i;cases e;show(i,rfl,q _ t8)
def xn:FB K rEq AY:=by
 intro x y H Q s t d l n e q;cases l <;> first|(cases e;)|(cases n <;> first|(cases e;done)|skip)
 all_goals (cases e;show(rfl,q _ ?_);simp only[reduceCtorEq,decide_false,decide_true,V.int.injEq,V.str.injEq,V.bl.injEq];show .bl)
def Zf:FB K rNe Zc:=by intro x y H Q B E d l n e q;have(b,s,t):=oBq.mp e;have(u,z):=xn l n s (Q:=λv Z=>rN K H b v) λv h=>h;cases z;cases t;show(u,q _ .bl)
noncomputable def Wz(a b:ME):ME:=λS=>cq (a S) λx=>match x.1 with
 | k9 t_=>b x.2
 | k9 f_=>aB %[k9 f_|x.2]
 |_=>n_
noncomputable def rQ(a:ME):MT:=λS=>cq (a S) λx=>match x.1 with
 | k9 b=>aB %[b|x.2]
 |_=>n_
noncomputable def wj(a b:MT):MT:=λS=>cq (a S) λx=>if x.1=t_ then b x.2 else aB %[f_|x.2]
noncomputable def rIf(c:MT)(a b:ME):ME:=λS=>cq (c S) λx=>if x.1=t_ then a x.2 else b x.2
def aaa(ha:SR K ta a)(hb:SR K tb b):SR K (Zq ta tb)<|Wz a b:=by
 intro H₀ n Hf S σ H L d M R e Q q;have(x,z,e):=oBq.mp e;show ha R z _ λB O Fs1 P t u l=>?_;split at e;.rename_i s;rw[s]at l;cases l;show(t_,rfl,QV<|hb u e Q λE U Fs2 G I R2 J=>q _ _ _ G (lr t I) R2 J)
 .rename_i s;rw[s]at l;cases l;cases e;show(f_,rfl,N2<|q _ _ _ _ t u .bl)
 .cases e
def Y6(ha:SR K ta a):Kf K (tB ta)<|rQ a:=by
 intro H₀ l Hf S σ H E d G R e Q q;have(x,s,e):=oBq.mp e;show ha R s _ λt I Fs1 J u z n=>?_;split at e;.rename_i b B;rw[B]at n;cases n;cases e;show(_,rfl,q _ _ _ u z)
 .cases e
def qF(ha:SR K ta a):Kf K (SB ta)<|rQ a:=Y6 ha
def Al(ha:Kf K ca ma)(hb:Kf K cb mb):Kf K (acs ca cb)<|wj ma mb:=by
 intro H₀ n Hf S σ H G d I R e Q q;have(x,u,e):=oBq.mp e;show ha R u _ λz J Fs1 s t=>?_;split at e;.rename_i l;rw[l];show QV<|hb t e Q λB L Fs2 E R2=>q _ _ _ (lr s E) R2
 .rename_i l;cases e;rw[fE]at l;rw[l];show N2<|q _ _ _ s t
def ad2(B:Kf K ca ma)(ha:SR K ta a)(hb:SR K tb b):SR K (tIf ca ta tb)<|rIf ma a b:=by
 intro H₀ n Hf S σ H J d L R e Q q;have(x,E,e):=oBq.mp e;show B R (b:=x.1) (S':=x.2) E _ λG M Fs1 u z=>?_;split at e;.rename_i l;rw[l];show QV<|ha z e Q λs I Fs2 v t R2=>q _ _ _ v (lr u t) R2
 .rename_i l;rw[fE]at l;rw[l];show N2<|hb z e Q λs I Fs2 v t R2=>q _ _ _ v (lr u t) R2
noncomputable abbrev qS:Nat:=16777216
def Jl:sizeLine=qS:=mB
def SQ(K:Ζ)(te:TE)(m:ML):Prop:=∀⦃H₀ l Hf S σ H u ds S'⦄,qv K H₀ l Hf S σ H u->m S=aB %[ds|S']->∀Q:VK,
 (∀n t s p vs,yY Hf H u n t s->qv K H₀ l n S' σ t s->tJ K t p vs->qD K n ds vs->Q (c6 p) t)->te σ H Q
def SL.q(h:SL K te m):SQ K te m:=by intro H₀ l Hf S σ H B E G R e Q q;show h R e Q λn I s p u t x z r=>q _ _ _ p u t x (l6 z) r
noncomputable def vv(i:Nat):ML:=λS=>match q9 S[i]? with
 |aB (b8 (o9 ns))=>aB %[ns.map b7|S]
 |aB (b8 (ew ds))=>aB %[ds|S]
 |aB (d8 avs)=>aB %[avs.map oY|fb S i<|aB<|d8<|(avs.map oY).map b8]
 |_=>n_
theorem vy:∀ns:Ϝ,qD K H (ns.map b7)<|ns.map c7
 | []=>.nil
 |n::ns=>.cons t8<|vy ns
def N3{K}i:SQ K (va i)<|vv i:=by
 intro H₀ n Hf S σ H M O P R e Q q;unfold vv at e;set_option tactic.hygienic true in split at e;.rename_i E l;cases e;have(v,F,G,U,r):=R.rep i _<|qE l;cases (pj r).2 with
  |scr h=>show(_,G,q _ _ _ _ _ .refl R (R.sub.seq h)<|vy E)
 .rename_i I l;cases e;show NN i R ?_ Q λs J u p x t z B r=>q _ _ _ p x t z (l6 B) r;unfold K7;rw[l]
 .rename_i L l;show NN i R ?_ Q λs J u p x t z B r=>q _ _ _ p x t z (l6 B) r;unfold K7;rw[l];show e
 .cases e
def ql.stp(r:ql K Hf H as vs Gs)(n:∀q∈bt Gs,q∉bt Fs)(t:yY Hf H Fs Hf' H' Fs'):ql K Hf' H' as vs Gs:=(r.1,r.2.1,λi a v F s u l=>(r.2.2 i a v F s u l).stp (λq x=>n q<|e9 mFq (F,mGq l,x)) t)
def qv.layF(R:qv K H₀ Hf₀ Hf S σ H Fs)(l:H p=n_):yY Hf H Fs (rG Hf p o) (rG H p o) Fs/\qv K H₀ Hf₀ (rG Hf p o) S σ (rG H p o) Fs:=by
 have hf:=R.sub.free l;show((xU hf,xU l,λQ h=>h,λb h g=>?_),R.more (xU l) (xU hf) (λb u e=>?_) (λq n=>?_) λb t s=>?_)
 .by_cases m:b=p;.subst m;show jE l
  .rw[pK m]at g;show absurd h g
 .by_cases m:b=p;.subst m;rw[pS]at e ⊢;show e
  .rw[pK m]at e ⊢;show R.sub b u e
 .rw[pK λe=>(R.mem n).1<|by rw[e];show l];show(R.mem n).2
 .rw[pK λe=>s<|by rw[e];show R.fr.free l];show R.lim b t s
noncomputable def pV:MA:=λS=>aB %[[]|S]
noncomputable def oS(k:MK)(r:MA):MA:=λS=>cq (k S) λx=>(r x.2).map λy=>%[x.1::y.1|y.2]
noncomputable def pE:ML:=λS=>aB %[[]|S]
noncomputable def oR(k:ME)(r:ML):ML:=λS=>cq (k S) λx=>(r x.2).map λy=>%[x.1::y.1|y.2]
def qw:SA K wx pV:=by intro H₀ l Hf S σ H n s t R e Q q;cases e;show q _ _ _ [] [] .refl R .nil .nil
def pB(hk:SK K te k)(hr:SA K tr r):SA K (qR te tr)<|oS k r:=by intro H₀ l Hf S σ H U X Y R e Q q;have(x,E,e):=oBq.mp e;have(y,G,e):=oMq.mp e;cases e;show hk R E _ λn H1 Fs1 v F u I z s=>hr I G _ λJ H2 Fs2 L M t R2 O B=>?_;show q _ _ _ (v::L) (F::M) (lr u t) R2 (.cons (z.stp s.out t) O) ?_;show(s.stp t).app (B.back u)<|s.apart (Hf1:=n) (λq P=>(IP z q P).1) B
def qM:Wn K wx pE:=by intro H₀ l Hf S σ H n s t R e Q q;cases e;show q _ _ _ [] .refl R .nil
def qt(hk:SR K te k)(hr:Wn K tr r):Wn K (qR te tr)<|oR k r:=by intro H₀ l Hf S σ H L M O R e Q q;have(x,s,e):=oBq.mp e;have(y,t,e):=oMq.mp e;cases e;show hk R s _ λu P Fs1 v z B E=>hr B t _ λG U Fs2 I n R2 J=>?_;show q _ _ _ (v::I) (lr z n) R2<|.cons (y0 E n.sh) J
def qT(a:MA):MK:=λS=>cq (a S) λx=>xN (de x.1<=qS)<|aB %[d8 x.1|x.2]
def zK(a:MA):MK:=λS=>cq (a S) λx=>xN (de x.1<=qS)<|aB %[b8<|lG<|x.1.map oY|x.2]
def rh(ha:SA K ta a):SK K (abF ta)<|qT a:=by
 intro H₀ l Hf S σ H O P U R e Q q;have(x,E,e):=oBq.mp e;obtain⟨hl,e⟩|e:=qo e;.cases e;show ha R E _ λG X Fs1 Y I t u n z=>(by rw[←n.1];show hl,λp s=>?_);have(B,R2,J,n2,n3):=u.new s;show q _ _ _ (c6 p) (p::bt I) (lr t B) R2 (vl pS J<|n.stp z.out B) ?_;have L:=(Rg u s).back t;show(L.app z λq M m=>?_);rw[mSq.mp M]at m;show(n.owned p m).1 s
 .cases e
def Gp(ha:SA K ta a):SK K (acZ ta)<|zK a:=by
 intro H₀ l Hf S σ H M O P R e Q q;have(x,t,e):=oBq.mp e;obtain⟨hl,e⟩|e:=qo e;.cases e;show ha R t _ λu U Fs1 X Y z B n E=>(by rw[←n.1];show hl,λp G=>?_);have(R2,I,J):=B.gives z n E;have(s,L):=R2.layF G;show q _ _ _ (c6 p) [] (lr J s) L (.sh<|.mk_tup pS<|I.mono s.sf) .nil
 .cases e
def Of(a b:ML):MK:=λS=>cq (a S) λx=>cq (b x.2) λy=>xN (de x.1+de y.1<=qS)<|aB %[d8<|(x.1++y.1).map b8|y.2]
def abZ(ha:SL K ta a)(hb:SL K tb b):SK K (Ux ad9 ta tb)<|Of a b:=by
 intro H₀ n Hf S σ H Fs av S' R e Q q;have(x,G,e):=oBq.mp e;have(y,I,e):=oBq.mp e;obtain⟨hl,e⟩|e:=qo e;.cases e;show ha R G _ λJ H1 Fs1 L s u M O z=>hb M I _ λP H2 Fs2 U t l R2 X B=>?_;show(L,U,s,t,rfl,rfl,l.sh _ _ O,X,by rw[←z.1,←B.1];show hl,λp E=>?_);have(Y,R3,n1,n2,n3):=R2.new E;show q _ _ _ (c6 p) [p] (lr (lr u l) Y) R3 (y9 pS n1<|(z.mono l.sf).append B)<|(Rg R2 E).back<|lr u l
 .cases e
abbrev MO:=AS->Option (Option Int×AS)
def SO(K:Ζ)(to:TO)(m:MO):Prop:=∀⦃H₀ l Hf S σ H u o S'⦄,qv K H₀ l Hf S σ H u->m S=aB %[o|S']->∀Q:Option Int->Hp->Prop,
 (∀n t s,yY Hf H u n t s->qv K H₀ l n S' σ t s->Q o t)->to σ H Q
noncomputable def FD:MO:=λS=>aB %[n_|S]
noncomputable def Dd(m:ME):MO:=λS=>cq (m S) λx=>match x.1 with
 | b7 i=>aB %[aB i|x.2]
 |_=>n_
def Bc{α:Type}(xs:List α)(lo hi:Option Int):List α:=(xs.drop<|rT (de xs) 0 lo).take<|rT (de xs) (de xs) hi-rT (de xs) 0 lo
def Zt(l:ML)(lo hi:MO):MK:=λS=>cq (l S) λx=>cq (lo x.2) λy=>(hi y.2).map λz=>%[d8<|(Bc x.1 y.1 z.1).map b8|z.2]
def WG:SO K Qk FD:=by intro H₀ n Hf S σ H s o t R e Q q;cases e;show q _ _ _ .refl R
def YF(h:SR K te m):SO K (Zi te)<|Dd m:=by
 intro H₀ n Hf S σ H G o I R e Q q;have(x,t,e):=oBq.mp e;show h R t _ λu J Fs1 v z B s=>?_;set_option tactic.hygienic true in split at e;.rename_i i E;rw[E]at s;cases s;cases e;show(i,rfl,q _ _ _ z B)
 .cases e
def qD.cut(r:qD K H ds vs)lo hi:qD K H (Bc ds lo hi)<|TN vs lo hi:=by delta Bc TN;rw[r.1];show(r.drop _).take _
def acC(hl:SQ K te l)(t:SO K tl lo)(u:SO K th hi):SK K (tSl (adL K) te tl th)<|Zt l lo hi:=by intro H₀ B Hf S σ H Fs av S' R e Q q;have(x,L,e):=oBq.mp e;have(y,M,e):=oBq.mp e;have(z,O,e):=oMq.mp e;cases e;show hl R L _ λP H1 Fs1 U E G X Y r1=>t X M _ λHf2 H2 Fs2 n R2=>u R2 O _ λHf3 H3 Fs3 s I=>?_;show(U,E,rfl,(eW n.sh s.sh).seq Y,λp J=>?_);have(t4,R4,n1,n2,n3):=I.new J;show q _ _ _ (c6 p) [p] (lr (lr (lr G n) s) t4) R4 (y9 pS n1<|(r1.mono<|eW n.sf s.sf).cut _ _)<|(Rg I J).back<|lr (lr G n) s
def vd:D->D->Option D
 | ew ds,b7 i=>atI ds i
 | o9 ns,b7 i=>(atI ns i).map b7
 |_,_=>n_
def abf:D->D->Option D
 | lG ds,b7 i=>atI ds i
 |_,_=>n_
def Ke(l:ML)(b:ME):MK:=λS=>cq (l S) λx=>cq (b x.2) λy=>match y.1 with
 | b7 i=>(atI x.1 i).map λd=>%[b8 d|y.2]
 |_=>n_
def ab8(k:MK)(b:ME):MK:=λS=>cq (k S) λx=>cq (b x.2) λy=>match x.1,y.1 with
 | b8 (lG ds),b7 i=>(atI ds i).map λd=>%[b8 d|y.2]
 |_,_=>n_
def qD.atI(r:qD K H ds vs)(h:L2.atI ds i=aB d):∃v,L2.atI vs i=aB v/\rN K H d v:=by delta L2.atI at h ⊢;rw[r.1]at h;have(j,l,n):=oBq.mp h;rw[l];show r.get n
def uC:FB K (QQ K) vd:=by
 intro x y H Q M O d u z e q;unfold vd at e;set_option tactic.hygienic true in split at e;.rename_i P i;cases z;have(p,E,rfl,h,r):=ro u;have(l,G):=r;have(v,s,t):=qD.atI (l,G) e;show(p,E,i,v,rfl,rfl,l6 h,s,q v t)
 .rename_i B i;cases z;cases u;rename_i p h;have(n,s,t):=oMq.mp e;subst t;have(v,I,J):=qD.atI (vy B) (by unfold L2.atI at s ⊢;rw[lMq];have(j,L,g2):=oBq.mp s;rw[L];change(B.map D.int)[j]?=_;rw[gMq,g2];rfl);show(p,_,i,v,rfl,rfl,h,I,q v J)
 .cases e
def abN:FB K (X0 K) abf:=by
 intro x y H Q z B d l n e q;unfold abf at e;set_option tactic.hygienic true in split at e;.rename_i E i;cases n;have(p,s,rfl,h,r):=l.tup_inv;have(v,t,u):=qD.atI r e;show(p,s,i,v,rfl,rfl,aA1 h,t,q v u)
 .cases e
def UD(hl:SQ K ta l)(hb:SR K tb b):SK K (Ux (QQ K) ta tb)<|Ke l b:=by
 intro H₀ n Hf S σ H Y av S' R e Q q;have(x,z,e):=oBq.mp e;have(y,B,e):=oBq.mp e;show hl R z _ λE H1 Fs1 G s I J L M=>hb J B _ λO H2 Fs2 v2 t R2 u=>?_;set_option tactic.hygienic true in split at e;.rename_i i P;rw[P]at u;cases u;have(d,U,e):=oMq.mp e;cases e;have(v,X,g2):=(M.mono t.sf).atI U;show(G,s,i,v,rfl,rfl,t.sh.seq L,X,q _ _ _ v [] (I.trans t) R2 (.sh g2) .nil)
 .cases e
def aan(hk:SK K ta k)(hb:SR K tb b):SK K (Ux (X0 K) ta tb)<|ab8 k b:=by
 intro H₀ l Hf S σ H Y av S' R e Q q;have(x,u,e):=oBq.mp e;have(y,z,e):=oBq.mp e;show hk R (a:=x.1) (S':=x.2) u _ λB H1 Fs1 v1 F E G n o1=>hb G (d:=y.1) (S':=y.2) z _ λI H2 Fs2 v2 s R2 t=>?_;set_option tactic.hygienic true in split at e;.rename_i ds i J L;rw[L]at t;rw[J]at n;cases t;have(d,M,e):=oMq.mp e;cases e;have(p,O,rfl,P,U):=(y0 (pj n).2 s.sf).tup_inv;have(v,X,g2):=U.atI M;show(p,O,i,v,rfl,rfl,Hh.of<|R2.sub _ _ P,X,q _ _ _ v [] (E.trans s) R2 (.sh g2) .nil)
 .cases e
def CbD(K:Ζ)(r:List V->Hp->VK->Prop)(f:List D->Option D):Prop:=∀⦃vs H Q ds d⦄,qD K H ds vs->f ds=aB d->(∀v,rN K H d v->Q v H)->r vs H Q
noncomputable def vJ(f:List D->Option D)(a:ML):ME:=λS=>cq (a S) λx=>(f x.1).map λd=>%[d|x.2]
def vS(hr:CbD K r f)(ha:Wn K n a):SR K (VN r n)<|vJ f a:=by intro H₀ l Hf S σ H J d L R e Q q;have(x,s,e):=oBq.mp e;have(z,t,e):=oMq.mp e;cases e;show ha R s _ λu M Fs1 O B E G=>hr G t λv I=>q _ _ _ v B E I
def rq:List D->Option D
 | [ew ds]=>aB<|b7<|de ds
 | [lG ds]=>aB<|b7<|de ds
 | [o9 ns]=>aB<|b7<|de ns
 | [j3 x]=>xN (x.length<=qS)<|aB<|b7 x.length
 |_=>n_
noncomputable def KI:List D->Option D
 | [m6 ds]=>aB<|b7<|de ds
 |_=>n_
noncomputable def Yb:List D->Option D
 | [b7 i]=>aB<|b7<|if i<0 then -i else i
 |_=>n_
noncomputable def isT:D->String->Option D
 | b7 _,T=>if T = "int" then aB (k9 t_)else if T = "bool" then aB (k9 f_)else n_
 | k9 _,T=>if T = "bool" ∨ T = "int" then aB (k9 t_)else n_
 | j3 _,T=>if T = "str" then aB (k9 t_)else n_
 | ew _,T=>if T = "list" then aB (k9 t_)else n_
 | lG _,T=>if T = "tuple" then aB (k9 t_)else n_
 | m6 _,T=>if T = "dict" then aB (k9 t_)else n_
 |_,_=>n_
def TZ:List D->Option D
 | [x,.ty T]=>isT x T
 |_=>n_
noncomputable def sP:List D->Option Ϝ
 | []=>aB []
 | b7 i::ds=>(sP ds).map (i :: ·)
 |_=>n_
theorem xI:∀{ds}{ns},sP ds=aB ns->ds=ns.map b7
 | [],ns,h=>by cases h;rfl
 |d::ds,ns,h=>by cases d with
  |int i=>have(s,l,n):=oMq.mp<|h;subst n;rw[xI l];rfl
  |_=>cases h
@[simp] theorem vw ns:sP (ns.map b7)=aB ns:=by induction ns with
 |nil=>rfl
 |cons n ns l=>change(sP<|ns.map b7).map (n :: ·)=_;rw[l];rfl
theorem tI:∀{ns:Ϝ}{vs},qD K H (ns.map b7) vs->vs=ns.map c7
 | [],vs,h=>n8 h
 |n::ns,vs,h=>by have(v,t,rfl,l,s):=k8 h;cases l;rw[tI s];rfl
def uq:CbD K (λxs H Q=>∃x n,xs=[x]/\aa0 K x H n/\Q (c7 n) H) rq:=by
 intro E H Q G d r e q;unfold rq at e;split at e;.have(v,t,rfl,l,s):=k8 r;rw[n8 s];have(p,u,rfl,z,B):=ro l;cases e;show(_,_,rfl,jE (u,l6 z,B.1),q _ t8)
 .have(v,t,rfl,l,s):=k8 r;rw[n8 s];have(p,u,rfl,z,B):=l.tup_inv;cases e;show(_,_,rfl,iq (u,aA1 z,B.1),q _ t8)
 .have(v,t,rfl,l,s):=k8 r;rw[n8 s];cases e;cases l with
  |scr h=>show(_,_,rfl,jE (_,h,fx (lMq _)),q _ t8)
 .obtain⟨hl,e⟩|e:=qo e;.have(v,t,rfl,l,s):=k8 r;rw[n8 s];cases e;cases l;show(_,_,rfl,(by show hl,rfl),q _ t8)
  .cases e
 .cases e
def XN:CbD K (λxs H Q=>∃a kvs,xs=[c6 a]/\H a=aB (wm kvs)/\Q (c7<|de kvs) H) KI:=by
 intro u H Q x d r e q;unfold KI at e;split at e;.have(v,z,rfl,l,n):=k8 r;rw[n8 n];have(p,B,rfl,s,t):=l.dict_inv;cases e;have hl:=congrArg de t.1;rw[lMq,lMq]at hl;rw[hl]at q;show(_,_,rfl,s,q _ t8)
 .cases e
def aao:CbD K (λxs H Q=>∃i,xs=[c7 i]/\Q (c7<|if i<0 then -i else i) H) Yb:=by
 intro s H Q t d r e q;unfold Yb at e;split at e;.have(v,u,rfl,l,n):=k8 r;rw[n8 n];cases l;cases e;show(_,rfl,q _ t8)
 .cases e
def ZU:CbD K (λxs H Q=>∃x T b,xs=[x,.ty T]/\acQ K x H T b/\Q (pY b) H) TZ:=by
 intro I H Q J d r e q;unfold TZ at e;set_option tactic.hygienic true in split at e;rotate_left;.cases e
 rename_i x T;have(v,L,rfl,n,B):=k8 r;have(u,M,rfl,E,G):=k8 B;rw[n8 G];cases E;unfold isT at e;cases x <;> first|(cases e;)|dsimp only at e
 case int=>
  cases n;set_option tactic.hygienic true in split at e;.rename_i l;cases e;show(_,_,_,rfl,.inl (l,rfl),q _ .bl)
  .set_option tactic.hygienic true in split at e;.rename_i l;cases e;show(_,_,_,rfl,.inr (l,rfl),q _ .bl)
   .cases e
 case bl=>
  cases n;set_option tactic.hygienic true in split at e
  .rename_i l;cases e;obtain l|l:=l;.show(_,_,_,rfl,.inl (l,rfl),q _ .bl)
   .show(_,_,_,rfl,.inr (l,rfl),q _ .bl)
  .cases e
 case str=>
  cases n;set_option tactic.hygienic true in split at e;.rename_i l;cases e;show(_,_,_,rfl,(l,rfl),q _ .bl)
  .cases e
 case list=>
  have(p,s,rfl,t,z):=n.list_inv;set_option tactic.hygienic true in split at e;.rename_i l;cases e;show(_,_,_,rfl,.inl (l,rfl,s,tJ.of t),q _ .bl)
  .cases e
 case tup=>
  have(p,s,rfl,t,z):=n.tup_inv;set_option tactic.hygienic true in split at e;.rename_i l;cases e;show(_,_,_,rfl,.inr<|.inr (l,rfl,s,Hh.of t),q _ .bl)
  .cases e
 case dict=>
  have(p,s,rfl,t,z):=n.dict_inv;set_option tactic.hygienic true in split at e;.rename_i l;cases e;show(_,_,_,rfl,.inr<|.inl (l,rfl,s,t),q _ .bl)
  .cases e
abbrev MF:=List D->Option AV
def tE(K:Ζ)(f:MF):Sp:=λvs H Q Z=>∃Hf ds a,qi Hf H/\qD K Hf ds vs/\f ds=aB a /\
 ∀l n v F,qi Hf l->qi H n->qi l n->(∀b,Hf b=n_->H b≠n_->l b=n_)->qp K l n a v F->c8 F->(∀q∈F,H q=n_)->Q v n
noncomputable def rH(f:MF)(a:MA):MK:=λS=>cq (a S) λx=>(f<|x.1.map oY).map λr=>%[r|x.2]
def BH(ha:SA K E a):SK K (En (tE K f) [] E0 E)<|rH f a:=by
 intro H₀ s Hf S σ H Fs M S' R e Q q;have(x,O,e):=oBq.mp e;have(z,P,e):=oMq.mp e;cases e;show ha R O _ λt u Fs1 vs U G X Y o1=>?_;have(R2,r2,t2):=X.gives G Y o1;rw[aNq];show(_,_,M,R2.sub,r2,P,λB H' v F I J s3 l r nd fr=>?_);have t3:yY (aAi t u<|bt U) u Fs1 B H' Fs1:=(I,J,λW h=>h,λb h g=>jE (by
  by_cases e:u b=n_;.show e
  .show absurd (l b h e) g));have hn:=λq n=>l q (R2.mem n).2 (R2.mem n).1;have R3:=R2.more J I s3 hn λb h1 L=>l b (R2.lim b h1 L)<|OD R2.fr L;show q _ _ _ v F (lr t2 t3) R3 r (nd,λq n=>R2.fr.free<|fr q n,λq n m=>(R2.mem m).1<|fr q n,λq n=>jE<|G.sh.free<|fr q n)
set_option genInjectivity true in
inductive E2 where
 |nx (S:AS)|rt (a:AV)|bk (S:AS)|ct (S:AS)
open Z.E2 renaming nx->gb
abbrev MS:=AS->Option E2
def Iv(K:Ζ)(H₀ n Hf:Hp)(D:AU):E2->Prop
 | gb S=>∀l s t u,qi Hf l->qv K H₀ n l S s t u->D.nx s t
 | .bk S=>∀l s t u,qi Hf l->qv K H₀ n l S s t u->D.bk s t
 | .ct S=>∀l s t u,qi Hf l->qv K H₀ n l S s t u->D.ct s t
 | .rt a=>∀l t v F,qi n l->qi H₀ t->qi l t->(∀b,n b=n_->H₀ b≠n_->l b=n_)->qp K l t a v F->c8 F->(∀q∈F,H₀ q=n_)->D.rt v t
def SS(K:Ζ)(t:TS)(m:MS):Prop:=∀⦃H₀ l Hf S σ H n o⦄,qv K H₀ l Hf S σ H n->m S=aB o->∀D:AU,Iv K H₀ l Hf D o->t D σ H
def Iv.mono{D}(s:qi Hf x)(h:Iv K H₀ l Hf D o):Iv K H₀ l x D o:=by cases o with
 |nx S=>show λn t z u B R=>h n t z u (eW s B) R
 |bk S=>show λn t z u B R=>h n t z u (eW s B) R
 |ct S=>show λn t z u B R=>h n t z u (eW s B) R
 |rt a=>show h
noncomputable def qO:MS:=λS=>aB<|gb S
noncomputable def za:MS:=λQ=>n_
noncomputable def pd(a b:MS):MS:=λS=>cq (a S) λo=>match o with
 | gb S'=>b S'
 |o=>aB o
noncomputable def qa(i:Nat)(k:MK):MS:=λS=>(k S).map λx=>gb<|fb x.2 i<|aB x.1
noncomputable def Qm(k:MK):MS:=λS=>(k S).map λx=>gb x.2
noncomputable def rV(k:MK):MS:=λS=>(k S).map λx=>.rt x.1
noncomputable def zg(c:MT)(a b:MS):MS:=λS=>cq (c S) λx=>if x.1=t_ then a x.2 else b x.2
def vn:SS K HA qO:=by intro H₀ l Hf S σ H n o R e D h;cases e;show h _ _ _ _ (j4 _) R
def Us:SS K Te za:=by intro H₀ l Hf S σ H n o R e D h;cases e
def qz(ha:SS K t a)(hb:SS K u b):SS K (CG t u)<|pd a b:=by intro H₀ l Hf S σ H I o R e D h;have(x,n,e):=oBq.mp e;show ha R n _ ?_;cases x with
 |nx J=>show λz B L E s G=>hb G e D<|h.mono s
 |rt a=>cases e;show h
 |bk a=>cases e;show h
 |ct a=>cases e;show h
def tH(hk:SK K te k):SS K (C0 te<|sO i)<|qa i k:=by intro H₀ l Hf S σ H J o R e D h;have(x,z,e):=oMq.mp e;cases e;show hk R z _ λB L Fs1 v F E G I n=>?_;show h _ _ _ _ E.sf<|G.set i I n.nd λq s=>(n.fr q s,n.out q s)
def Yz(hk:SK K te k):SS K (zL te)<|Qm k:=by intro H₀ l Hf S σ H E o R e D h;have(x,n,e):=oMq.mp e;cases e;show hk R n _ λs G Fs1 v F z B I J=>h _ _ _ _ z.sf B
def yh(hk:SK K te k):SS K (VC te)<|rV k:=by intro H₀ n Hf S σ H G o R e D h;have(x,z,e):=oMq.mp e;cases e;show hk R z _ λB I Fs1 v F J l E s=>h _ _ v F l.sf l.fr l.sub l.lim E s.nd s.fr
def yH(B:Kf K c m)(ha:SS K t a)(hb:SS K u b):SS K (RD c t u)<|zg m a b:=by
 intro H₀ n Hf S σ H I o R e D h;have(x,E,e):=oBq.mp e;show B R E _ λG J Fs1 s z=>?_;split at e;.rename_i l;rw[l];show QV<|ha z e D<|h.mono s.sf
 .rename_i l;rw[fE]at l;rw[l];show N2<|hb z e D<|h.mono s.sf
noncomputable def qQ(S:AS)(i:Nat):Option<|List AV:=match q9 S[i]? with
 |aB (d8 avs)=>aB avs
 |_=>n_
noncomputable def AN(S:AS)(i:Nat):Option<|List<|qk×D:=match q9 S[i]? with
 |aB (eT kvs)=>aB kvs
 |_=>n_
def vc(i:Nat)(k:MK):MS:=λS=>cq (qQ S i) λQ=>cq (k S) λx=>cq (qQ x.2 i) λavs=>xN (de avs<qS)<|aB<|gb<|fb x.2 i<|aB<|d8<|avs++[x.1]
noncomputable def intOf:D->Option Int
 | b7 i=>aB i
 |_=>n_
def Md(i:Nat)(b:ME)(k:MK):MS:=λS=>cq (tx k S) λx=>cq (qQ x.2 i) λQ=>cq (b x.2) λy=>cq (qQ y.2 i) λavs=>cq (intOf y.1) λj=>(Kd (de avs) j).map λn=>gb<|fb y.2 i<|aB<|d8<|(fb (avs.map oY) n<|oY x.1).map b8
noncomputable def xo:D->Option qk
 | b7 i=>aB<|aO i
 | j3 x=>aB<|iI x
 |_=>n_
noncomputable def zw(kvs:List<|qk×D)(k:qk)(d:D):List<|qk×D:=if kvs.any (λkv=>decide<|kv.1=k)then kvs.map (λkv=>if kv.1=k then %[kv.1|d]else kv)else kvs++[%[k|d]]
noncomputable def getD(kvs:List<|qk×D)(k:qk):Option D:=(kvs.find? λkv=>decide<|kv.1=k).map (·.2)
def Bn(i:Nat)(b:ME)(k:MK):MS:=λS=>cq (tx k S) λx=>cq (AN x.2 i) λQ=>cq (b x.2) λy=>cq (AN y.2 i) λkvs=>cq (xo y.1) λkey=>xN (de kvs<qS)<|aB<|gb<|fb y.2 i<|aB<|eT<|zw kvs key<|oY x.1
section
variable {Fs:List Δ}
def qv.turn(R:qv K H₀ Hf₀ Hf S σ H Fs)(s1:σ[i]?=aB (aB<|c6 p))(B:Fs[i]?=aB F)(s:p∈F)(r:qp K Hf (rG H p o) av (c6 p) F')(nd:c8 F')
  (hf:∀q∈F',H₀ q=n_/\q∉bt (fb Fs i [])):qv K H₀ Hf₀ Hf (fb S i<|aB av) σ (rG H p o)<|fb Fs i F':=by
 have t:=e9 mFq (F,mGq B,s);have pn:=(R.mem t).2;have I:=R.fresh p t;have out:=uU R.nd B s;have J:qv K H₀ Hf₀ Hf (fb S i n_) σ (rG H p o)<|fb Fs i []:=by
  show(by simp[R.len],by simp[R.lenF],λj a n=>?_,λj n=>?_,tQ i R.nd bA (λp s=>by cases s),λp s=>R.fresh p<|qN s,λb u e=>?_,λb u e=>?_,R.lim,R.sf)
  .rw[bE]at n;by_cases l:i=j;.subst l;rw[pZ rfl]at n;split at n <;> cases n
   .rw[pW l]at n;have(w,G,L,E,q):=R.rep j a n;show(w,G,L,by rw[ar l];show E,q.keep (j4 _) (λc x=>pK λe=>out ?_) λc x=>(IP q c x).2);cases e;show e9 mFq (G,mGq<|by rw[ar l];show E,x)
  .rw[bE]at n;by_cases l:i=j
   .subst l;rw[pZ rfl]at n;split at n;.rename_i hi;rw[aA<|fx R.lenF ▸ hi]
    .cases n
   .rw[pW l]at n;rw[ar l];show R.emp j n
  .rw[pK λz=>by rw[z,pn]at e;cases e];show R.sub b u e
  .rw[pK λz=>by rw[z,I]at e;cases e];show R.fr b u e
 show J.again (F:=F) s1 r nd hf
def qe{i:Nat}(l:Fs[i]?=aB F)(h:q∈F):q∈bt Fs:=e9 mFq (F,mGq l,h)
def ql.snoc(r:ql K Hf H as vs Gs)(s:qp K Hf H a v F):ql K Hf H (as++[a]) (vs++[v])<|Gs++[F]:=by
 have(u,x,B):=r;show(by simp[u],by simp[x],λi b w G l n t=>?_);by_cases hi:i<de as;.rw[gZq hi]at l;rw[gZq<|u ▸ hi]at n;rw[gZq<|x ▸ hi]at t;show B i b w G l n t
 .have z:i=de as:=by have:=(gSq.mp l).1;rw[lAq,lSq]at this;lia
  subst z;rw[gYq<|ag _,cZ]at l;rw[u,gYq<|ag _,cZ]at n;rw[x,gYq<|ag _,cZ]at t;cases l;cases n;cases t;show s
def ql.keepUpd(r:ql K Hf H as vs Gs)(s:p∉bt Gs):ql K Hf (rG H p o) as vs Gs:=(r.1,r.2.1,λi a v F t u n=>by have q:=r.2.2 i a v F t u n;show q.keep (j4 _) (λc l=>pK λe=>s ?_) λc l=>(IP q c l).2;subst e;show e9 mFq (F,mGq n,l))
def qp.keepUpd(q:qp K Hf H a v F)(n:p∉F):qp K Hf (rG H p o) a v F:=q.keep (j4 _) (λc l=>pK λe=>n<|e ▸ l) λc l=>(IP q c l).2
def OZ(r:qD K Hf ds vs):ql K Hf H (ds.map b8) vs<|ao (de ds) []:=(by simp[r.1],by simp,λi a v F l n s=>by rw[gMq]at l;cases q:ds[i]? with
  |none=>rw[q]at l;cases l
  |some d=>rw[q]at l;cases l;have:=cV<|mGq s;subst this;show .sh<|r.2 i d v q n)
def ql.append(r:ql K Hf H as vs Gs)(s:ql K Hf H bs ws z):ql K Hf H (as++bs) (vs++ws)<|Gs++z:=by
 have(u,x,B):=r;show(by simp[u,s.1],by simp[x,s.2.1],λi b w G l n t=>?_);by_cases hi:i<de as;.rw[gZq hi]at l;rw[gZq<|u ▸ hi]at n;rw[gZq<|x ▸ hi]at t;show B i b w G l n t
 .rw[gYq<|by rfl']at l;rw[gYq ∅,←u]at n;rw[gYq ∅,←x]at t;show s.2.2 _ b w G l n t
end
def pU(h:qQ S i=aB avs):S[i]?=aB (aB<|d8 avs):=by
 unfold qQ at h;set_option tactic.hygienic true in split at h;.rename_i z e;cases h;show qE e
 .cases h
def Gx(h:AN S i=aB kvs):S[i]?=aB (aB<|eT kvs):=by
 unfold AN at h;set_option tactic.hygienic true in split at h;.rename_i z e;cases h;show qE e
 .cases h
def qv.ow(R:qv K H₀ n Hf S σ H s)(h:S[i]?=aB (aB<|d8 avs)):∃p vs Gs,σ[i]?=aB (aB<|c6 p)/\s[i]?=aB (p::bt Gs)/\H p=aB (eH vs)/\Hf p=n_/\ql K Hf H avs vs Gs /\
  p∉bt Gs/\c8 (bt Gs)/\∀q∈p::bt Gs,H₀ q=n_/\q∉bt (fb s i []):=by have(v,F,t,u,r,nd,o,_):=R.move h;have(p,vs,Gs,rfl,rfl,x,z,B):=r.ow_inv;show(p,vs,Gs,t,u,x,z,B,(au.mp nd).1,(au.mp nd).2,o)
def Ao(hk:SK K te k):SS K (zL<|Sl K "list" yz (va i)<|qR te wx)<|vc i k:=by
 intro H₀ G Hf S σ H Fs o R e D h;have(a0,X,e):=oBq.mp e;have(x,Y,e):=oBq.mp e;have(avs,e2,e):=oBq.mp e;obtain⟨hl,e⟩|e:=qo e
 .cases e;have(p,vs,Gs,I,_,h1,_):=R.ow<|pU X;show(c6 p,I,jE (rfl,vs,l6 h1),hk R Y _ λHf1 H1 Fs1 v F t1 P r1 s=>?_);have(p',J,Gs',t,n,L,M,u,B,O,E):=P.ow<|pU e2;rw[I]at t;cases t;have Q:=λm=>s.out p m<|qe n ⋯;show(p,J,v,rfl,rfl,L,by rw[←u.1];show hl,h _ _ _ _ t1.sf<|P.turn I n ⋯ (vl pS M<|(u.keepUpd B).snoc<|r1.keepUpd Q) ?_ λq U=>?_);.rw[fAq,aN];show e9 au (λm=>t6 (mAq.mp m) B Q,e9 nAq (O,s.nd,λa ha b hb e=>s.out b hb<|qe n<|mCo _<|e ▸ ha))
  .rw[fAq,aN]at U;obtain z|z:=ae.mp U;.show E q<|by rw[z];simp
   .obtain z|z:=mAq.mp z;.show E q<|mCo _ z
    .show(s.fr q z,λm=>s.out q z<|qN m)
 .cases e
def VI(hk:SK K te k)(hb:SR K tb b):SS K (C0 te<|YW (va i) tb Pg)<|Md i b k:=by intro H₀ Hf₀ Hf S σ H Fs o R e D h;have(x,e1,e):=oBq.mp e;have(a0,e0,e):=oBq.mp e;have(y,e2,e):=oBq.mp e;have(avs,e3,e):=oBq.mp e;have(j,U,e):=oBq.mp e;have(n,e5,e):=oMq.mp e;cases e;have hk':SK K te<|tx k:=tc hk;show hk' R (a:=x.1) (S':=x.2) e1 _ λHf1 H1 Fs1 v F t1 R1 r1 o1=>?_;have(s,_,_,X,_):=R1.ow<|pU e0;show(_,X,hb R1 (d:=y.1) (S':=y.2) e2 _ λI H2 Fs2 w t2 R2 r2=>?_);have(q',J,t,L,s2',M,O,B,P,h5',E):=R2.ow<|pU e3;rw[X]at L;cases L;cases hy:y.1 with
 |int z=>
  rw[hy]at U r2;cases U;cases r2;obtain⟨x1,Q⟩:∃d,x.1 = b8 d:=by have(w,_,e):=oMq.mp e1;rw[←e];show(_,rfl)
  rw[Q]at r1;have rv:=y0 ((pj r1).2) t2.sf;have Y:∀q∈bt t,I q=n_:=λq u=>(B.owned q u).2;show(s,J,_,n,rfl,rfl,M,by rw[←B.1];show e5,?_);have(v0,F0,t1',t2',r0,nd0,o0,R0):=R2.move<|pU e3;have R4:=R0.frz (F:=bt t) (λq u=>E q<|mCo _ u) Y;have r4:=B.frozen (rL (H:=H2) Y) λq u=>A0 u;have r5:qp K (aAi I H2<|bt t) H2 (d8<|(avs.map oY).map b8) (c6 s) [s]:=y9 M (by rw[uu P];show O) r4;have R5:=R4.again (F:=s::bt t) (G:=[s]) X r5 ⋯ λq u=>by rw[mSq.mp u];show E s ⋯
  have s5:(fb Fs2 i [s])[i]?=aB [s]:=by have hi:i<de Fs2:=(gSq.mp s2').1;rw[aA hi]
  have R6:=R5.turn (o:=eH<|fb J n v) X s5 ⋯ (F':=[s]) (y9 pS (by rw[uu P];show O)<|r4.set (y0 rv<|rL Y) n) ⋯ λq u=>by rw[mSq.mp u,dC];show E s ⋯
  rw[dC,dC]at R6;rw[Q,uc]at h;show h _ _ _ _ (eW (eW t1.sf t2.sf)<|rL Y) R6
 |_=>rw[hy]at U;cases U
theorem GB:∀{ds}{kvs}{key},xr K H ds kvs->match getD ds key with
  |aB d=>∃v,Dy kvs key=aB v/\rN K H d v
  |n_=>Dy kvs key=n_
 | [],kvs,key,h=>by
  have:kvs=[]:=by have:=congrArg de h.1;simpa using fx this
  subst this;rfl
 |d::ds,[],key,h=>by have:=congrArg de h.1;simp at this
 |d::ds,v::kvs,key,h=>by
  have n:d.1=v.1/\ds.map (·.1)=kvs.map (·.1):=by have:=h.1;simpa using this
  have s:rN K H d.2 v.2:=h.2 0 d v rfl rfl;have ht:xr K H ds kvs:=(n.2,λi a b t u=>h.2 (i+1) a b (by show t)<|by show u);delta getD Dy;by_cases c:d.1=key;.rw[fQ<|by simp[c],fQ<|by simp[←n.1,c]];show(v.2,rfl,s)
  .rw[dZ<|by simp[c],dZ<|by simp[←n.1,c]];show GB ht
def zk(h:xo d=aB key)(r:rN K H d v):v=kV key:=by
 cases r <;> simp only[xo]at h;all_goals first|(simp at h;done)|skip
 all_goals (cases h;rfl)
def xr.key(h:xr K H ds kvs){i:Nat}(n:ds[i]?=aB d)(s:kvs[i]?=aB v):d.1=v.1:=by have:=congrArg (λl=>l[i]?) h.1;simp only[gMq,n,s,dt]at this;show aB.inj this
def xr.len(h:xr K H ds kvs):de ds=de kvs:=by have:=congrArg de h.1;simpa using this
def U9(h:xr K H ds kvs)(r:rN K H d v):xr K H (zw ds key d)<|AQ kvs key v:=by
 have ha:(ds.any λkv=>decide<|kv.1=key)=kvs.any λkv=>decide<|kv.1=key:=by
  have n:(ds.any λkv=>decide<|kv.1=key)=(ds.map (·.1)).any λk=>decide<|k=key:=by rw[kE];rfl
  have s:(kvs.any λkv=>decide<|kv.1=key)=(kvs.map (·.1)).any λk=>decide<|k=key:=by rw[kE];rfl
  rw[n,s,h.1]
 unfold zw AQ;rw[ha];split
 .show(?_,λi a b n s=>?_)
  .rw[mPq,mPq];have n:((λkv=>kv.1)∘λkv=>if kv.1=key then %[kv.1|d]else kv)=λkv=>kv.1:=by funext kv;change(if kv.1=key then %[kv.1|d]else kv).1=kv.1;split <;> rfl
   have s:((λkv=>kv.1)∘λkv=>if kv.1=key then %[kv.1|v]else kv)=λkv=>kv.1:=by funext kv;change(if kv.1=key then %[kv.1|v]else kv).1=kv.1;split <;> rfl
   rw[n,s];show h.1
  .rw[gMq]at n s;have(u,x,rfl):=oMq.mp n;have(B,z,rfl):=oMq.mp s;have hk:=h.key x z;by_cases c:u.1=key;.rw[pZ c,pZ<|hk ▸ c];show r
   .rw[pW c,pW<|hk ▸ c];show h.2 i u B x z
 .show(by rw[mBq,mBq,h.1];rfl,λi a b n s=>?_);by_cases hi:i<de ds;.rw[gZq hi]at n;rw[gZq<|h.len ▸ hi]at s;show h.2 i a b n s
  .have t:i=de ds:=by have:=(gSq.mp n).1;rw[lAq,lSq]at this;lia
   subst t;rw[gYq<|ag _,cZ]at n;rw[h.len,gYq<|ag _,cZ]at s;cases n;cases s;show r
noncomputable def Eo:MK:=λS=>aB %[eT []|S]
def Qd:SK K S8 Eo:=by intro H₀ n Hf S σ H x z B R e Q q;cases e;intro p s;have(t,R2,u,E,G):=R.new s;show q _ _ _ (c6 p) [p] t R2 (.owd pS u (rfl,λi d v h=>by simp at h))<|Rg R s
def qv.owd(R:qv K H₀ n Hf S σ H s)(h:S[i]?=aB (aB<|eT ds)):∃p kvs,σ[i]?=aB (aB<|c6 p)/\s[i]?=aB [p]/\H p=aB (wm kvs)/\Hf p=n_/\xr K Hf ds kvs /\
  H₀ p=n_/\p∉bt (fb s i []):=by have(v,F,t,u,r,nd,o,_):=R.move h;have(p,kvs,rfl,rfl,x,z,B):=r.owd_inv;show(p,kvs,t,u,x,z,B,(o p ⋯).1,(o p ⋯).2)
def OE(hk:SK K te k)(hb:SR K tb b):SS K (Ti (va i) tb te)<|Bn i b k:=by
 intro H₀ u Hf S σ H Fs o R e D h;have(x,M,e):=oBq.mp e;have(a0,U,e):=oBq.mp e;have(y,X,e):=oBq.mp e;have(Y,e3,e):=oBq.mp e;have(key,e4,e):=oBq.mp e;obtain⟨hl,e⟩|e:=qo e
 .cases e;have z:SK K te<|tx k:=tc hk;show z R M _ λHf1 H1 Fs1 v F t1 O P o1=>?_;have(p',_,B,_):=O.owd<|Gx U;show(_,B,hb O X _ λHf2 H2 Fs2 w Q R2 r2=>?_);have(q',kv,n,E,G,I,s,J,L):=R2.owd<|Gx e3;rw[B]at n;cases n;obtain⟨x1,t⟩:∃d,x.1 = b8 d:=by have(w,_,e):=oMq.mp M;rw[←e];show(_,rfl)
  rw[t]at P;have rv:=y0 ((pj P).2) Q.sf;have hw:=zk e4 r2;subst hw;show(p',_,rfl,Tn.k G<|by rw[←s.len];show hl,h _ _ _ _ (eW t1.sf Q.sf)<|R2.turn B E ⋯ (.owd pS I ?_) ⋯ λq hq=>by rw[mSq.mp hq];show(J,L));rw[t];show U9 s rv
 .cases e
def YN(a b:ME):ME:=λS=>cq (a S) λx=>cq (b x.2) λy=>match y.1 with
 | m6 kvs=>(xo x.1).map λkey=>%[k9<|fC (getD kvs key)|y.2]
 |_=>n_
def BP(a b:ME):ME:=λS=>cq (a S) λx=>cq (b x.2) λy=>match y.1 with
 | m6 kvs=>(xo x.1).map λkey=>%[k9<|!fC (getD kvs key)|y.2]
 |_=>n_
def zu(a b:ME):ME:=λS=>cq (a S) λx=>cq (b x.2) λy=>match x.1 with
 | m6 kvs=>cq (xo y.1) λkey=>(getD kvs key).map λd=>%[d|y.2]
 |_=>n_
def Rw(r:rN K H (m6 kvs) x)(e:getD kvs key=aB d):∃a v,x = c6 a/\DO H a (kV key) (aB v)/\rN K H d v:=by have(p,u,rfl,n,s):=r.dict_inv;have g:=GB (key:=key) s;rw[e]at g;have(v,t,g2):=g;show(p,v,rfl,by rw[←t];show DO.k n,g2)
def Lb(r:rN K H (m6 kvs) x):∃a o,x = c6 a/\DO H a (kV key) o/\fC o=fC (getD kvs key):=by have(p,u,rfl,n,s):=r.dict_inv;have g:=GB (key:=key) s;show(p,_,rfl,DO.k n,?_);cases e:getD kvs key with
 |none=>rw[e]at g;rw[g];rfl
 |some d=>rw[e]at g;have(v,t,_):=g;rw[t];rfl
def abU(ha:SR K ta a)(hb:SR K tb b):SR K (acu ta tb)<|YN a b:=by
 intro H₀ n Hf S σ H U d X R e Q q;have(x,t,e):=oBq.mp e;have(y,u,e):=oBq.mp e;show ha R (d:=x.1) (S':=x.2) t _ λz Y Fs1 v1 B E G=>hb E (d:=y.1) (S':=y.2) u _ λI H2 Fs2 v2 J R2 s=>?_;split at e;.rename_i L M;rw[M]at s;have(key,O,e):=oMq.mp e;cases e;have(p,o,rfl,P,g2):=Lb (key:=key) s;show(p,o,rfl,by rw[zk O G];show P,?_);rw[g2];show q _ _ _ _ (lr B J) R2 .bl
 .cases e
def RM(ha:SR K ta a)(hb:SR K tb b):SR K (Jf ta tb)<|BP a b:=by
 intro H₀ n Hf S σ H U d X R e Q q;have(x,t,e):=oBq.mp e;have(y,u,e):=oBq.mp e;show ha R t _ λz Y Fs1 v1 B E G=>hb E u _ λI H2 Fs2 v2 J R2 s=>?_;split at e;.rename_i L M;rw[M]at s;have(key,O,e):=oMq.mp e;cases e;have(p,o,rfl,P,g2):=Lb s;show(p,o,rfl,by rw[zk O G];show P,?_);rw[g2];show q _ _ _ _ (lr B J) R2 .bl
 .cases e
def Yk(ha:SR K ta a)(hb:SR K tb b):SR K (Zw ta tb)<|zu a b:=by
 intro H₀ n Hf S σ H X d Y R e Q q;have(x,u,e):=oBq.mp e;have(y,z,e):=oBq.mp e;show ha R u _ λB H1 Fs1 v1 E G s=>hb G z _ λI H2 Fs2 v2 t R2 J=>?_;split at e;.rename_i L M;rw[M]at s;have(key,O,e):=oBq.mp e;have(d',P,e):=oMq.mp e;cases e;have(p,v,rfl,U,g2):=Rw (y0 s t.sh) P;show(p,v,rfl,by rw[zk O J];show U,q _ _ _ _ (lr E t) R2 g2)
 .cases e
noncomputable def rA(x:Nat)(body:MS):List D->AS->Option E2
 | [],S=>aB<|gb S
 |d::ds,S=>cq (body<|fb S x<|aB<|b8 d) λo=>match o with
  | gb S'=>rA x body ds S'
  | .ct S'=>rA x body ds S'
  | .bk S'=>aB<|gb S'
  | .rt a=>aB<|.rt a
noncomputable def rP:D->Option (List D)
 | ew ds=>aB ds
 | o9 ns=>aB<|ns.map b7
 |_=>n_
def AO(x:Nat)(k:MK)(body:MS):MS:=λS=>cq (tx k S) λy=>cq (rP<|oY y.1) λds=>rA x body ds y.2
noncomputable def pT(lo:Int)(n:Nat):List D:=(aH n).map λi:Nat=>b7<|lo+i
def ze:List D->Option (List D)
 | [b7 j]=>xN (-(2 ^ 62)<=j/\j<2 ^ 62)<|aB<|pT 0<|cC j
 |_=>n_
def CP(x:Nat)(a:ML)(body:MS):MS:=λS=>cq (a S) λy=>cq (ze y.1) λds=>rA x body ds y.2
noncomputable def CF(x y:Nat)(body:MS):Nat->List D->AS->Option E2
 |_,[],S=>aB<|gb S
 |i,d::ds,S=>cq (body<|fb (fb S x<|aB<|b8<|b7 i) y<|aB<|b8 d) λo=>match o with
  | gb S'=>CF x y body (i+1) ds S'
  | .ct S'=>CF x y body (i+1) ds S'
  | .bk S'=>aB<|gb S'
  | .rt a=>aB<|.rt a
def LF(x y:Nat)(k:MK)(body:MS):MS:=λS=>cq (tx k S) λz=>cq (rP<|oY z.1) λds=>CF x y body 0 ds z.2
noncomputable def D0(x y:Nat)(body:MS):List D->List D->AS->Option E2
 |d::ds,e::es,S=>cq (body<|fb (fb S x<|aB<|b8 d) y<|aB<|b8 e) λo=>match o with
  | gb S'=>D0 x y body ds es S'
  | .ct S'=>D0 x y body ds es S'
  | .bk S'=>aB<|gb S'
  | .rt a=>aB<|.rt a
 |_,_,S=>aB<|gb S
def UI(x y:Nat)(k l:MK)(body:MS):MS:=λS=>cq (tx k S) λz=>cq (tx l z.2) λw=>cq (rP<|oY z.1) λds=>cq (rP<|oY w.1) λn=>if de ds=de n then D0 x y body ds n w.2 else n_
noncomputable def sE(c:MT)(body:MS):Nat->MS
 |0,_=>n_
 |n+1,S=>cq (c S) λx=>if x.1=t_ then cq (body x.2) λo=>match o with
   | gb S'=>sE c body n S'
   | .ct S'=>sE c body n S'
   | .bk S'=>aB<|gb S'
   | .rt a=>aB<|.rt a
  else aB<|gb x.2
def uX(e:rP d=aB ds)(r:rN K H d v):∃a vs,v = c6 a/\tJ K H a vs/\qD K H ds vs:=by cases d with
 |list u=>cases e;have(p,vs,rfl,n,s):=ro r;show(p,vs,rfl,l6 n,s)
 |scr t=>cases e;cases r with
  |scr h=>show(_,_,rfl,h,vy t)
 |_=>cases e
def vg{te:TE}(e:tx k S=aB z):∃d,z.1 = b8 d:=by have(w,_,e):=oMq.mp e;rw[←e];show(_,rfl)
def qv.setD(R:qv K H₀ n Hf S σ H s)i(r:rN K Hf d v):qv K H₀ n Hf (fb S i<|aB<|b8 d) (fb σ i<|aB v) H<|fb s i []:=R.set i (.sh r) bA λq h=>(by cases h)
def SD(hk:SK K te k)(hb:SS K tb body):SS K (Hn (FV K te) (sO x) tb)<|AO x k body:=by
 intro H₀ E Hf S σ H Fs o R e D h;have(z,e1,e):=oBq.mp e;have(ds,e2,e):=oBq.mp e;have hk':SK K te<|tx k:=tc hk;show hk' R e1 _ λI H1 Fs1 v F t1 R1 r1 o1=>?_;have(d,hd):=vg (te:=te) e1;rw[hd]at r1;rw[hd]at e2;have(a,vs,rfl,g1,g2):=uX e2 (pj r1).2;show(a,rfl,(vs,R1.sub.seq g1),DE (λi s U=>∃n J t,qv K H₀ E n J s U t/\qi I n/\rA x body (ds.drop i) J=aB o) (I,z.2,Fs1,R1,j4 _,e)
  (λi s U _ ⟨n,J,t,L,B,_⟩=>L.sub.seq<|B.seq g1) ?_ ?_);.rintro i w s U hw ⟨n,J,t,L,B,G⟩;have(di,M,rw'):=g2.get' hw;have hlt:=(gSq.mp M).1;rw[az hlt]at G;have O:=(gSq.mp M).2;rw[O]at G;have(ob,e3,X):=oBq.mp G;show hb (L.setD x<|y0 rw' B) e3 _ ?_;cases ob with
  |nx Y=>show λu P H2 Fs2 Q R2=>(u,Y,Fs2,R2,eW B Q,X)
  |ct Y=>show λu P H2 Fs2 Q R2=>(u,Y,Fs2,R2,eW B Q,X)
  |bk Y=>cases X;show λu P H2 Fs2 Q R2=>h _ _ _ _ (eW (eW t1.sf B) Q) R2
  |rt a=>cases X;show h
 .rintro s U ⟨n,J,t,L,B,G⟩;rw[←g2.1,bT]at G;cases G;show h _ _ _ _ (eW t1.sf B) L
def RV{D}(hb:SS K tb body)(R1:qv K H₀ s Hf1 R σ Y Fs1)(e:rA x body (pT lo n) R=aB o)(h:Iv K H₀ s Hf1 D o) :
  ∃W:Nat->Nat->St->Hp->Prop,(∃m,W 0 m σ Y)/\∀i m σ H,W i m σ H ->
   ((Wv lo n).stop i H/\D.nx σ H)∨((Wv lo n).go i H/\∃N:St->Hp->Prop,(∀t u,N t u->∃m',m'<m/\W (i+1) m' t u)/\∀v u,(Wv lo n).yld i H v u->sO x v σ u λz M=>tb { D with nx:=N,ct:=N,bk:=D.nx } z M):=by
 show QG (λi t u=>∃B O G,qv K H₀ s B O t u G/\qi Hf1 B/\rA x body ((pT lo n).drop i) O=aB o) (Hf1,R,Fs1,R1,j4 _,e) ?_ ?_
 .rintro i t u hi ⟨B,O,G,S,J,I⟩;have U:i<de (pT lo n):=by delta pT;rw[lMq,aX];show hi
  rw[az U]at I;have X:(pT lo n)[i] = b7 (lo+i):=by simp[pT]
  rw[X]at I;have(ob,e3,P):=oBq.mp I;show hb (S.setD x t8) e3 _ ?_;cases ob with
  |nx Q=>show λE z M Fs2 L R2=>(E,Q,Fs2,R2,eW J L,P)
  |ct Q=>show λE z M Fs2 L R2=>(E,Q,Fs2,R2,eW J L,P)
  |bk Q=>cases P;show λE z M Fs2 L R2=>h _ _ _ _ (eW J L) R2
  |rt a=>cases P;show h
 .rintro t u ⟨B,O,G,S,J,I⟩;have hl:de (pT lo n)=n:=by delta pT;rw[lMq,aX]
  rw[cQ<|fM hl]at I;cases I;show h _ _ _ _ J S
def Vt(ha:Wn K t a)(hb:SS K tb body):SS K (Hn (S0 t) (sO x) tb)<|CP x a body:=by
 intro H₀ s Hf S σ H P o R e D h;have(z,E,e):=oBq.mp e;have(Q,n,e):=oBq.mp e;show ha R E _ λG U Fs1 X I J u=>?_;unfold ze at n;set_option tactic.hygienic true in split at n
 .rename_i j L;obtain⟨B,n⟩|n:=qo n;.cases n;rw[L]at u;have(v,Y,rfl,M,O):=k8 u;rw[n8 O];cases M;show(j,rfl,B.1,B.2,RV hb J e<|h.mono I.sf)
  .cases n
 .cases n
def YB(hk:SK K te k)(hb:SS K tb body):SS K (Hn (UQ K<|qR te wx) (NK K 2<|zi (sO x)<|zi (sO y) Ot) tb)<|LF x y k body:=by
 intro H₀ E Hf S σ H Fs o R e D h;have(z,e1,e):=oBq.mp e;have(ds,e2,e):=oBq.mp e;have hk':SK K te<|tx k:=tc hk;show hk' R e1 _ λI H1 Fs1 v F t1 R1 r1 o1=>?_;have(d,hd):=vg (te:=te) e1;rw[hd]at r1;rw[hd]at e2;have(a,vs,rfl,g1,g2):=uX e2 (pj r1).2;show(a,rfl,(vs,R1.sub.seq g1),Wh (λi s U=>∃n J t,qv K H₀ E n J s U t/\qi I n/\CF x y body i (ds.drop i) J=aB o) (I,z.2,Fs1,R1,j4 _,e)
  (λi s U _ ⟨n,J,t,L,B,_⟩=>L.sub.seq<|B.seq g1) ?_ ?_);.rintro i w s U T hw ⟨n,J,t,L,B,G⟩ hT;have(di,M,rw'):=g2.get' hw;have hlt:=(gSq.mp M).1;rw[az hlt]at G;have O:=(gSq.mp M).2;rw[O]at G;have(ob,e3,X):=oBq.mp G;have R2:=(L.new (o:=vu [c7 i,w]) hT).2.1;show hb ((R2.setD x t8).setD y<|y0 rw' B) e3 _ ?_;cases ob with
  |nx Y=>show λu P H2 Fs2 Q R2=>(u,Y,Fs2,R2,eW B Q,X)
  |ct Y=>show λu P H2 Fs2 Q R2=>(u,Y,Fs2,R2,eW B Q,X)
  |bk Y=>cases X;show λu P H2 Fs2 Q R2=>h _ _ _ _ (eW (eW t1.sf B) Q) R2
  |rt a=>cases X;show h
 .rintro s U ⟨n,J,t,L,B,G⟩;rw[←g2.1,bT]at G;cases G;show h _ _ _ _ (eW t1.sf B) L
def XX(hk:SK K te k)(hl:SK K tf l)(hb:SS K tb body):SS K (Hn (adS K<|qR te<|qR tf wx) (NK K 2<|zi (sO x)<|zi (sO y) Ot) tb)<|UI x y k l body:=by
 intro H₀ G Hf S σ H Fs o R e D h;have(z,e1,e):=oBq.mp e;have(w,J,e):=oBq.mp e;have(ds,e2,e):=oBq.mp e;have(es,L,e):=oBq.mp e;split at e
 .rename_i M;have hk':SK K te<|tx k:=tc hk;have hl':SK K tf<|tx l:=tc hl;show hk' R e1 _ λHf1 H1 Fs1 v F t1 R1 r1 o1=>hl' R1 J _ λn H2 Fs2 v2 F2 t2 R2 r2 o2=>?_;have(d,hd):=vg (te:=te) e1;have(d2,O):=vg (te:=te) J;rw[hd]at r1;rw[hd]at e2;rw[O]at r2;rw[O]at L;have(a,vs,rfl,g1,g2):=uX e2<|y0 (pj r1).2 t2.sf;have(b,ws,rfl,g3,g4):=uX L (pj r2).2;show(a,b,rfl,(vs,R2.sub.seq g1),(ws,R2.sub.seq g3),Yw (λi B H'=>∃s P E,qv K H₀ G s P B H' E/\qi n s/\D0 x y body (ds.drop i) (es.drop i) P=aB o) (n,w.2,Fs2,R2,j4 _,e) (by rw[←g2.1,←g4.1,M])
   (λi B H' _ ⟨s,P,E,I,t,_⟩=>(I.sub.seq<|t.seq g1,I.sub.seq<|t.seq g3)) ?_ ?_);.rintro i u u' B H' T hu hu' ⟨s,P,E,I,t,Q⟩ hT;have(di,U,rw'):=g2.get' hu;have(ei,X,rw2):=g4.get' hu';have hlt:=(gSq.mp U).1;have Y:=(gSq.mp X).1;simp only[az hlt,az Y,(gSq.mp U).2,(gSq.mp X).2]at Q;have(ob,e3,e4):=oBq.mp Q;have R3:=(I.new (o:=vu [u,u']) hT).2.1;show hb ((R3.setD x<|y0 rw' t).setD y<|y0 rw2 t) e3 _ ?_;cases ob with
   |nx S2=>show λn σ2 H2 Fs2 s2 R2=>(n,S2,Fs2,R2,eW t s2,e4)
   |ct S2=>show λn σ2 H2 Fs2 s2 R2=>(n,S2,Fs2,R2,eW t s2,e4)
   |bk S2=>cases e4;show λn σ2 H2 Fs2 s2 R2=>h _ _ _ _ (eW (eW (eW t1.sf t2.sf) t) s2) R2
   |rt a=>cases e4;show h
  .rintro B H' ⟨s,P,E,I,t,Q⟩;have e0:ds.drop (de vs)=[]:=by rw[←g2.1,bT]
   rw[e0]at Q;cases Q;show h _ _ _ _ (eW (eW t1.sf t2.sf) t) I
 .cases e
def G6{c}n(hc:Kf K c m)(hb:SS K tb body):SS K (Jk c tb)<|sE m body n:=by intro H₀ t Hf S σ H Fs o R e D h;show(λn I Y=>∃s G B,qv K H₀ t s G I Y B/\qi Hf s/\sE m body n G=aB o,(n,Hf,S,Fs,R,j4 _,e),?_);rintro n I Y ⟨s,G,B,R',M,e'⟩;cases n with
 |zero=>cases e'
 |succ n=>
  have(z,e1,X):=oBq.mp e';show hc R' e1 _ λHf1 H1 Fs1 O R1=>?_;split at X;.rename_i P;rw[P];show QV (λu J=>∃s G B,qv K H₀ t s G u J B/\qi Hf s/\sE m body n G=aB o,λu J w=>(n,gU n,w),?_);have(ob,e3,Q):=oBq.mp X;show hb R1 e3 _ ?_;cases ob with
   |nx U=>show λE u J Fs2 L R2=>(E,U,Fs2,R2,eW (eW M O.sf) L,Q)
   |ct U=>show λE u J Fs2 L R2=>(E,U,Fs2,R2,eW (eW M O.sf) L,Q)
   |bk U=>cases Q;show λE u J Fs2 L R2=>h _ _ _ _ (eW (eW M O.sf) L) R2
   |rt a=>cases Q;show h
  .rename_i P;rw[fE]at P;rw[P];cases X;show N2<|h _ _ _ _ (eW M O.sf) R1
noncomputable def sY(l n:Nat)(m:MS):MF:=λds=>if de ds=l then cq (m<|ds.map (λd=>aB<|b8 d)++ao (n-de ds) n_) λo=>match o with
  | .rt a=>aB a
  | gb _=>aB<|b8 j0
  |_=>n_
 else n_
def HW{K}N(s:qi Hf H)(r:qD K Hf ds vs) :
  qv K H Hf Hf (ds.map (λd=>aB<|b8 d)++ao (de N-de ds) n_) (y7 N vs) H<|ao (de ds+(de N-de ds)) []:=by
 have fl:=uP<|de ds+(de N-de ds);show(by simp[y7,r.1],by simp,λi B e=>?_,λi e=>?_,by rw[fl];show bA,λp l=>(by rw[fl]at l;cases l),s,j4 _,λb h Q=>h,j4 _)
 .by_cases hi:i<de ds
  .rw[gZq<|by simpa using hi,gMq]at e;have(d,n,t):=oMq.mp e;cases t;have(v,u,x):=r.get n;show(v,[],?_,?_,.sh x);.delta y7;rw[gZq<|by simpa[←r.1]using hi,gMq,u];rfl
   .rw[bK,pZ ∅]
  .rw[gYq<|by simpa using hi]at e;have:=mGq e;have z:=cV this;cases z
 .rw[bK];have hi:=(gSq.mp e).1;rw[lAq,lMq,aU]at hi;rw[pZ hi]
def Dx{K}N(h:SS K t m)(I:tE K (sY G (de N) m) vs H Q E):t { nx:=λZ u=>Q nc u,rt:=Q } (y7 N vs) H:=by
 have(Hf,S,a,s,r,e,q):=I;delta sY at e;split at e;.have(o,J,x):=oBq.mp e;show h (HW N s r) J _ ?_;cases o with
  |rt U=>cases x;show λn u v F z L M l r nd fr=>q n u v F z L M l r nd fr
  |nx B=>cases x;show λn O u P z R=>q n u nc [] R.sf R.fr R.sub R.lim (.sh .non) bA λq h=>(by cases h)
  |bk B=>cases x
  |ct B=>cases x
 .cases e
def IS(t:tE K (sY l n m) vs H Q E):de vs=l:=by
 have(Hf,u,a,s,r,e,q):=t;delta sY at e;split at e;.rename_i h;rw[←r.1,h]
 .cases e
noncomputable def fzAll:Θ->AS->Option AS
 | [],S=>aB S
 |j::js,S=>cq (q9 S[j]?) λa=>fzAll js<|fb S j<|aB<|b8<|oY a
noncomputable def abb:Option AV->Option AV
 |aB (b8 d)=>aB<|b8 d
 |_=>n_
def DR(S:AS):Θ->Option AS
 | []=>aB []
 |j::js=>cq (abb<|q9 S[j]?) λa=>(DR S js).map (aB a :: ·)
noncomputable def rD(l:MT)(te:MK)(cap:AS):List D->Option (List AV)
 | []=>aB []
 |d::ds=>cq (l<|aB (b8 d)::cap) λb=>if b.1=t_ then cq (te b.2) λa=>(rD l te cap ds).map (a.1 :: ·)else rD l te cap ds
abbrev MI:=AS->Option (List D×AS)
def Dr(k:MK):MI:=λS=>cq (tx k S) λy=>(rP<|oY y.1).map λds=>%[ds|y.2]
def Zh(a:ML):MI:=λS=>cq (a S) λy=>(ze y.1).map λds=>%[ds|y.2]
def vh(l:MI)(fr:Θ)(s:MT)(te:MK):MK:=λS=>cq (l S) λy=>cq (fzAll fr y.2) λn=>cq (DR n fr) λcap=>xN (de y.1<=qS)<|(rD s te cap y.1).map λavs=>%[d8 avs|n]
noncomputable def sV:MT:=λS=>aB %[t_|S]
def qv.fz(R:qv K H₀ Hf₀ Hf S σ H Fs)(e:q9 S[j]?=aB a):∃Hf' Fs',yY Hf H Fs Hf' H Fs'/\qv K H₀ Hf₀ Hf' (fb S j<|aB<|b8<|oY a) σ H Fs':=by
 have(v,F,s,t,r,nd,o,u):=R.move<|qE e;have n:=λq l=>(IP r q l).2;have R2:=u.frz o n;have x:=r.frozen (rL n) λq l=>A0 l;have z:=R2.again (F:=F) s (.sh x) bA λq h=>(by cases h);show(_,_,(rL n,j4 _,λp B=>qN B,λb h g=>?_),z);by_cases m:b∈F;.show iq<|e9 mFq (F,mGq t,m)
 .rw[uu m]at g;show absurd h g
theorem qv.fzAll:∀{fr}{Hf}{S S'}{Fs},qv K H₀ Hf₀ Hf S σ H Fs->fzAll fr S=aB S'->∃Hf' Fs',yY Hf H Fs Hf' H Fs'/\qv K H₀ Hf₀ Hf' S' σ H Fs'
 | [],Hf,S,S',Fs,R,e=>by cases e;show(Hf,Fs,.refl,R)
 |j::js,Hf,S,S',Fs,R,e=>by have(a,n,s):=oBq.mp e;have(t,Fs1,u,x):=R.fz n;have(l,Fs2,z,R2):=qv.fzAll x s;show(l,Fs2,u.trans z,R2)
theorem G2(R:qv K H₀ Hf₀ Hf S σ H Fs):∀{fr}{cap},DR S fr=aB cap->de cap=de fr/\∀(k:Nat) a,cap[k]?=aB (aB a)->∃d v,a = b8 d/\(slots σ fr)[k]?=aB (aB v)/\rN K Hf d v
 | [],cap,e=>by cases e;show(rfl,λk a h=>by simp at h)
 |j::js,cap,e=>by have(a,l,t):=oBq.mp e;have(s,u,x):=oMq.mp t;subst x;have(z,B):=G2 R u;show(by simp[z],λk b hk=>?_);cases k with
  |zero=>cases hk;cases n:q9 S[j]? with
   |none=>rw[n]at l;cases l
   |some c=>rw[n]at l;cases c with
    |sh d=>cases l;have(v,F,E,G,r):=R.rep j _<|qE n;show(d,v,rfl,?_,(pj r).2);change aB (q9 (σ[j]?))=_;rw[E];rfl
    |_=>cases l
  |succ k=>show B k b<|by show hk
def RA(R:qv K H₀ Hf₀ Hf S σ H Fs)(e:DR S fr=aB cap)(s:rN K Hf d x) :
  qv K H₀ Hf₀ Hf (aB (b8 d)::cap) (aB x::slots σ fr) H<|ao (de cap+1) []:=by
 have(t,u):=G2 R e;have fl:=uP<|de cap+1;show(by simp[slots,t],by simp,λi z l=>?_,λi l=>?_,by rw[fl];show bA,λp n=>(by rw[fl]at n;cases n),R.sub,R.fr,R.lim,R.sf);.cases i with
  |zero=>cases l;show(x,[],rfl,by rfl,.sh s)
  |succ k=>
   have hk:=(gSq.mp<|by show l).1;have(E,v,rfl,B,r):=u k z<|by show l
   show(v,[],by show B,by rw[bK,pZ<|by rfl'],.sh r)
 .rw[bK];have hi:=(gSq.mp l).1;rw[pZ<|by show hi]
def qv.updOut(R:qv K H₀ Hf₀ Hf S σ H Fs)(n:p∉bt Fs)(s:Hf p=n_)(t:H₀ p=n_):qv K H₀ Hf₀ Hf S σ (rG H p o) Fs where
 len:=R.len
 lenF:=R.lenF
 rep:=λi av e=>by have(v,F,s1,l,r):=R.rep i av e;show(v,F,s1,l,r.keepUpd λm=>n<|qe l m)
 emp:=R.emp
 nd:=R.nd
 fresh:=R.fresh
 sub:=λb u e=>by rw[pK λz=>by rw[z,s]at e;cases e];show R.sub b u e
 fr:=λb u e=>by rw[pK λz=>by rw[z,t]at e;cases e];show R.fr b u e
 lim:=R.lim
 sf:=R.sf
def qv.outer(R:qv K H₀ Hf₀ Hf S σ H Fs)(E:qv K H₀ Hf₀ l I u s n)(t:yY Hf H Fs2 l s n)(J:bt Fs2=[]):yY Hf H Fs l s Fs/\qv K H₀ Hf₀ l S σ s Fs:=by
 have g:=λb x B=>by
  by_cases e:l b=n_;.show e
  .obtain z|z:=t.gr b x e;.show absurd z B
   .rw[J]at z;cases z
 show((t.sf,t.sh,λQ h=>h,λb x B=>jE (by
  by_cases e:H b=n_;.show e
  .show absurd (g b x e) B)),R.more t.sh t.sf E.sub (λq G=>g q (R.mem G).2 (R.mem G).1) E.lim)
def HF{rest}{N:Hp->Prop}(hf:Kf K tf mf)(he:SK K te me)
  (R:qv K H₀ n Hf S1 σ H Fs1) (t:yY Hf1 P Fs1 Hf H Fs1) (ha:H l=aB (eH vs)) (hfa:Hf l=n_) (ra:ql K Hf H as vs Gs) (ow:zT H₀ P Fs1 Fs1<|l::bt Gs) (la:de as<=i) (hlm:de as<qS) (ea:avs=as++rest)
  (Ri:qv K H₀ n Hf Si J H<|ao nn []) (er:(cq (mf Si) λb=>if b.1=t_ then cq (me b.2) λa=>nx.map (a.1 :: ·)else nx)=aB rest) (Q:P l=n_) (n2:H₀ l=n_) (n3:l∉bt Fs1)
  (hN:∀{Hf H}{as}{vs}{Gs}{rest},qv K H₀ n Hf S1 σ H Fs1->yY Hf1 P Fs1 Hf H Fs1->H l=aB (eH vs)->Hf l=n_->ql K Hf H as vs Gs->zT H₀ P Fs1 Fs1 (l::bt Gs)->de as<=i+1->nx=aB rest->avs=as++rest->N H) :
  tf J H λb H2=>if b=t_ then te J H2 λy H3=>∃ys,H3 l=aB (eH ys)/\de ys<sizeLine/\N (rG H3 l<|eH<|ys++[y])else N H2:=by
 have(b,e1,e2):=oBq.mp er;have fl:=uP nn;show hf Ri (b:=b.1) (S':=b.2) e1 _ λS H2 Fs2 t2 R2=>?_;have(B,L):=R.outer R2 t2 fl;have u:H2 l=aB (eH vs):=t2.sh _ _ ha;have E:S l=n_:=by
  by_cases z:S l=n_;.show z
  .obtain z|z:=t2.gr l hfa z;.rw[ha]at z;cases z
   .rw[fl]at z;cases z
 have M:=ra.stp (λq x=>ow.out q<|mCo _ x) B;split at e2
 .rename_i hb;rw[hb];have(a,e3,e4):=oBq.mp e2;have(rest',e5,e6):=oMq.mp e4;subst e6;show he R2 e3 _ λU H3 Fs3 v F t3 R3 r3 o3=>?_;have O:bt Fs2=[]:=by cases hz:bt Fs2 with
   |nil=>rfl
   |cons z zs=>
    have:=t2.own z<|by rw[hz];simp
    rw[fl]at this;cases this
  have(X,R3'):=L.outer R3 t3 O;have ha3:=t3.sh _ _ u;have G:U l=n_:=by
   by_cases z:U l=n_;.show z
   .obtain z|z:=t3.gr l E z;.rw[u]at z;cases z
    .rw[O]at z;cases z
  have ra3:=M.stp (λq x=>ow.out q<|mCo _ x) X;have s:=λq x=>t6 (o3.new q x) id λz=>by rw[O]at z;cases z
  have I:l∉F:=λm=>by rw[s l m]at u;cases u
  have Y:=(au.mp ow.nd).1;have tt:=lr (lr t B) X;show(vs,ha3,?_,?_);.rw[Jl,←ra.1];rfl'
  .show hN (R3'.updOut n3 G n2) (tt.sf,λb o eb=>?_,λZ h=>h,tt.gr) pS G ((ra3.keepUpd Y).snoc<|r3.keepUpd I) ?_ (by rw[lAq,lSq];rfl') e5<|by rw[ea];simp
   .rw[pK λz=>by rw[z,Q]at eb;cases eb];show tt.sh b o eb
   .rw[fAq,aN];have oF:zT H₀ P Fs1 Fs1 F:=(o3.nd,o3.fr,λq x m=>(L.mem m).1<|s q x,λq x=>jE<|(lr t B).sh.free<|s q x);show(ow.app oF λq x m=>?_);obtain z|z:=ae.mp x;.rw[z]at m;show I m
    .show(M.owned q z).1<|s q m
 .rename_i hb;rw[fE]at hb;rw[hb];show N2<|hN L (lr t B) u E M ow (by rfl') e2 ea
def IC{J:It}{Q:VK}(hf:Kf K tf mf)(he:SK K te me)
  (R1:qv K H₀ s Hf1 I σ B Fs1) (ec:DR I fr=aB cap) (hl:de ds<=qS) (e:rD mf me cap ds=aB avs)
  (O:∀i H,qi Hf1 H->i<de ds->J.go i H) (S:∀H,qi Hf1 H->J.stop (de ds) H) (hy:∀i H x n,qi Hf1 H->i<de ds->J.yld i H x n->n=H/\∃d,ds[i]?=aB d/\rN K Hf1 d x)
  (q:∀E n v F,yY Hf1 B Fs1 E n Fs1->qv K H₀ s E I σ n Fs1->qp K E n (d8 avs) v F->zT H₀ B Fs1 Fs1 F->Q v n) :
  ∀l,B l=n_->∃W:Nat->Nat->Hp->Prop,(∃m,W 0 m<|rG B l<|eH [])/\∀i m H,W i m H ->
   (J.stop i H/\Q (c6 l) H) ∨
   (J.go i H/\∃N:Hp->Prop,(∀n,N n->∃m',m'<m/\W (i+1) m' n)/\∀x n,J.yld i H x n->tf (aB x::slots σ fr) n λb H2=>if b=t_ then te (aB x::slots σ fr) H2 λy H3=>∃U,H3 l=aB (eH U)/\de U<sizeLine/\N (rG H3 l<|eH<|U++[y])else N H2):=by
 intro l u;have(t0,R0,n1,n2,n3):=R1.new u;let P:=λi H=>∃Hf L X Y rest,qv K H₀ s Hf I σ H Fs1/\yY Hf1 B Fs1 Hf H Fs1/\H l=aB (eH X)/\Hf l=n_/\ql K Hf H L X Y/\zT H₀ B Fs1 Fs1 (l::bt Y)/\de L<=i /\
  rD mf me cap (ds.drop i)=aB rest/\avs=L++rest;show(λi m H=>m=de ds-i/\i<=de ds/\P i H,(de ds,by simp,aY _,Hf1,[],[],[],avs,R0,t0,pS,n1,.nil,Rg R1 u,aY _,e,rfl),?_);rintro i m H ⟨rfl,hi,Hf,L,X,Y,rest,R,t,ha,G,ra,ow,la,M,ea⟩;have hs:=eW t.sf R.sub;by_cases z:i<de ds;.show iq (O i H hs z,P<|i+1,λn p=>(de ds-(i+1),by omega,rfl,z,p),λx n y=>?_);have(rfl,d,hd,rx):=hy i H x n hs z y;rw[az z,(gSq.mp hd).2]at M;show HF hf he R t ha G ra ow la ∅ ea (RA R ec<|y0 rx t.sf) M u n2 n3 λa b c d e f g h i=>(_,_,_,_,_,a,b,c,d,e,f,g,h,i)
 .have e0:i=de ds:=by rfl'
  subst e0;rw[bT]at M;cases M;rw[aNq]at ea;subst ea;show jE (S H hs,q Hf H (c6 l) _ t R (vl ha G ra) ow)
def A3(hk:SK K tl k)(hf:Kf K tf mf)(O:SK K te me):SK K (Po (FV K tl) fr tf te)<|vh (Dr k) fr mf me:=by
 intro H₀ B Hf S σ H Fs av S' R e Q q;have(y,l,e):=oBq.mp e;have(z,I,l):=oBq.mp l;have(ds,J,l):=oMq.mp l;subst l;have(S2,P,e):=oBq.mp e;have(U,X,e):=oBq.mp e;obtain⟨hl,e⟩|e:=qo e;.have(Y,e5,e):=oMq.mp e;cases e;have E:SK K tl<|tx k:=tc hk;show E R I _ λHf1 H1 Fs1 v F L R1 M o1=>?_;have(d,hd):=vg (te:=tl) I;rw[hd]at M;rw[hd]at J;have(Hf2,Fs2,G,R2):=R1.fzAll P;have(a,n,rfl,u,g2):=uX J<|y0 (pj M).2 G.sf;show(a,rfl,(n,R2.sub.seq u),IC hf O R2 X hl e5 (λi H s hi=>(n,n[i]'(g2.1 ▸ hi),s.seq u,gEg<|g2.1 ▸ hi)) (λH s=>(n,s.seq u,fM<|fx g2.1)) (λi H x H' s hi y=>?_) λHf' H' v F t R' r o=>q _ _ _ v F (lr (lr L G) t) R' r<|o.back<|lr L G);have(y1,y2):=y;have(di,h1,h2):=g2.get'<|y2 n<|s.seq u;show(y1,di,h1,h2)
 .cases e
def zY(h:i<n):(pT lo n)[i]?=aB (b7<|lo+i):=by delta pT;rw[gMq,du h];rfl
def qg(lo)n:de (pT lo n)=n:=by delta pT;rw[lMq,aX]
def DU(ha:Wn K B a)(hf:Kf K tf mf)(L:SK K te me):SK K (Po (S0 B) fr tf te)<|vh (Zh a) fr mf me:=by
 intro H₀ u Hf S σ H Fs av S' R e Q q;have(y,n,e):=oBq.mp e;have(z,M,n):=oBq.mp n;have(ds,l,n):=oMq.mp n;subst n;have(S2,O,e):=oBq.mp e;have(P,U,e):=oBq.mp e;obtain⟨hl,e⟩|e:=qo e
 .have(X,Y,e):=oMq.mp e;cases e;show ha R M _ λHf1 H1 Fs1 vs E R1 G=>?_;unfold ze at l;set_option tactic.hygienic true in split at l
  .rename_i j hz;obtain⟨I,l⟩|l:=qo l
   .cases l;rw[hz]at G;have(v,ws,rfl,h1,h2):=k8 G;rw[n8 h2];cases h1;have(Hf2,Fs2,J,R2):=R1.fzAll O;show(j,rfl,I.1,I.2,IC hf L R2 U hl Y (λi H s hi=>(by rw[qg]at hi;show hi)) (λH s=>(by rw[qg];show ag _)) (λi H x H' s hi y=>?_) λHf' H' v F t R' r o=>q _ _ _ v F ((E.trans J).trans t) R' r<|o.back<|E.trans J);have(y1,y2):=y;rw[qg]at hi;show(y1,_,zY hi,by rw[y2];show .int)
   .cases l
  .cases l
 .cases e
def JD:Kf K adJ sV:=by intro H₀ l Hf S σ H n b s R e Q q;cases e;show q _ _ _ .refl R
mutual
noncomputable def py:D->Option PyData
 | .non=>aB .none
 | .bl b=>aB<|.bool b
 | .int i=>aB<|.int i
 | .str x=>aB<|.str x
 | .list ds=>(Re ds).map .list
 | .tup ds=>(Re ds).map .tuple
 |_=>n_
noncomputable def Re:List D->Option (List PyData)
 | []=>aB []
 |d::ds=>(py d).bind λx=>(Re ds).map (x :: ·)
end
theorem Bq:∀{ds}{vs}{l}{xs},(∀(i:Nat) d v,ds[i]?=aB d->vs[i]?=aB v->∀u x,qH v u->py d=aB x->∃as,Reads h u x as)->de ds=de vs->qB vs l->Re ds=aB xs->∃as,ReadsAll h l xs as
 | [],vs,l,xs,_,hl,n,e=>by have:vs=[]:=cK.mp<|fx hl;subst this;cases n;skip;cases e;show(_,.nil)
 |d::ds,vs,l,xs,ih,hl,n,e=>by cases vs with
  |nil=>simp at hl
  |cons v vs=>cases n with
   |cons r t=>skip;have(x,s,z):=oBq.mp e;have(O,B,E):=oMq.mp z;subst E;have(as,G):=ih 0 d v rfl rfl _ x r s;have(bs,H):=Bq (λi I J L M=>ih (i+1) I J (by show L)<|by show M) (by simpa using hl) t B;show(_,.cons G H)
def KN{σ:St}(I:Inv X Q σ H s)(r:rN X.K H d v):∀u x,qH v u->py d=aB x->∃as,Reads s.heap u x as:=by induction r with
 |non=>intro u x z e;cases z;skip;cases e;show(_,.none)
 |bl=>intro u x z e;cases z;skip;cases e;show(_,.bool _)
 |int=>intro u x z e;have(t,rfl):=z;skip;cases e;show(_,.int _ _)
 |str=>intro u x z e;have(t,rfl):=z;skip;cases e;show(_,.str _ _)
 |ty=>intro u x z e;skip;cases e
 |list h l _ B=>intro u x z e;cases z;skip;have(R,E,rfl):=oMq.mp e;have(G,J,hl,S):=tu I<|l6 h;have(o,L,M,n,hd):=j6 hl;have(as,O):=Bq B l J E;show(_,aBg L M hd<|by show O)
 |tup h l _ B=>intro u x z e;cases z;skip;have(R,E,rfl):=oMq.mp e;have(G,J,(o,L,M,n,hd),S):=I.tuple<|aA1 h;have(as,O):=Bq B l J E;show(_,aB3 L M hd<|by show O)
 |dict h l _ B=>intro u x z e;skip;cases e
 |fd h l _ B=>intro u x z e;skip;cases e
 |scr h=>intro u x z e;skip;cases e
 |exc P U h Y=>intro u x z e;skip;cases e
 |exc0 P h=>intro u x z e;skip;cases e
 |cls h=>intro u x z e;skip;cases e
 |ins P h l _ B=>intro u x z e;skip;cases e
def adi(K:Ζ)(neg:Bool):R2:=λx y H Q=>∃d e a b,rN K H d x/\rN K H e y/\py d=aB a/\py e=aB b/\om a=t_/\om b=t_/\pq a b=t_ /\
 Q (pY<|if neg then !(mX a b)else mX a b) H
def aaz(l:ph X.A+64<lZ):EV X (lK .Eq)<|adi X.K f_:=by intro P s σ H x y v u Q I n t h;have(d,e,a,b,z,B,E,G,J,L,nm,q):=h;have(R,M):=KN I z _ _ n E;have(bs,O):=KN I B _ _ t G;show ku M O J L l nm<|qI I q rfl
noncomputable def N7(d e:D):Option D:=cq (py d) λa=>cq (py e) λb=>if om a=t_/\om b=t_/\pq a b=t_ then aB (k9<|mX a b)else n_
def abj:FB K (adi K f_) N7:=by
 intro x y H Q l n d s t e q;have(a,u,e):=oBq.mp e;have(b,z,e):=oBq.mp e;split at e;.rename_i h;cases e;show(l,n,a,b,s,t,u,z,h.1,h.2.1,h.2.2,q _ .bl)
 .cases e
noncomputable abbrev dI(ns:Ϝ):D:=ew<|ns.map b7
abbrev dM(l:Λ):D:=ew<|l.map dI
def Uq(ns:Ϝ):Re (ns.map b7)=aB (ns.map aB1):=by induction ns with
 |nil=>rfl
 |cons n ns l=>simp[Re,py,l]
def aaG ns:py (dI ns)=aB (AC ns):=by simp only[py,Uq];rfl
def V4(l:Λ):Re (l.map dI)=aB (l.map AC):=by induction l with
 |nil=>rfl
 |cons r l n=>change Re (dI r::l.map dI)=_;simp only[Re,aaG,n];rfl
def adO l:py (dM l)=aB (GW l):=by simp only[py,V4];rfl
@[simp] theorem aaF l ts:N7 (dM l) (dM ts)=aB (k9<|decide<|l=ts):=by unfold N7;rw[adO,adO];change(if _ then _ else _)=_;rw[pZ (EH l,EH ts,by show Gf l ts)];simp only[GW,mX,IK]
noncomputable def CU(l:ML):MK:=λS=>(l S).map λx=>%[d8<|x.1.map b8|x.2]
def OC(l:ML):MK:=λS=>cq (l S) λx=>(sP x.1).map λns=>%[d8<|(vH ns).map λn=>b8<|b7 n|x.2]
def Cr:List D->Option Λ
 | []=>aB []
 | ew ds::es=>cq (sP ds) λr=>(Cr es).map (r :: ·)
 |_=>n_
theorem Ib:∀{ds}{l},Cr ds=aB l->ds=l.map dI
 | [],l,h=>by cases h;rfl
 |d::ds,l,h=>by cases d with
  |list u=>have(r,n,h):=oBq.mp<|h;have(x,s,t):=oMq.mp h;subst t;rw[Ib s,xI n];rfl
  |_=>cases h
@[simp] theorem NH l:Cr (l.map dI)=aB l:=by induction l with
 |nil=>rfl
 |cons r l n=>change(sP<|r.map b7).bind (λr=>(Cr<|l.map dI).map (r :: ·))=_;rw[vw,n];rfl
def MM(l:ML):MK:=λS=>cq (l S) λx=>(Cr x.1).map λn=>%[d8<|(CD n).map λr=>b8<|dI r|x.2]
def WJ(hl:SQ K te l):SK K (VN (λxs H Q=>∃p n,xs=[c6 p]/\(tJ K H p n∨Hh K H p n)/\∀l,H l=n_->Q (c6 l) (rG H l<|eH n))<|qR te wx)<|CU l:=by intro H₀ s Hf S σ H U X Y R e Q q;have(x,E,e):=oMq.mp e;cases e;show hl R E _ λG H1 Fs1 I t u z J L=>(I,t,rfl,jE J,λp B=>?_);have(M,O,P,n2,n3):=z.new B;show q _ _ _ (c6 p) [p] (lr u M) O (y9 pS P L)<|(Rg z B).back u
def Ez(ns:Ϝ):(ns.map λn=>b8<|b7 n)=(ns.map b7).map b8:=by rw[mPq];rfl
def KC(n:Λ):(n.map λr=>b8<|dI r)=(n.map dI).map b8:=by rw[mPq];rfl
def Tr(hl:SQ K te l):SK K (VN (λxs H Q=>∃a ns,xs=[c6 a]/\tJ K H a (ns.map c7)/\∀p,H p=n_->Q (c6 p) (rG H p<|eH<|(vH ns).map c7))<|qR te wx)<|OC l:=by intro H₀ n Hf S σ H U X Y R e Q q;have(x,E,e):=oBq.mp e;have(ns,G,e):=oMq.mp e;cases e;show hl R E _ λI H1 Fs1 J L s t u z=>?_;rw[xI G]at z;rw[tI z]at u;show(J,ns,rfl,u,λp B=>?_);have(M,O,P,n2,n3):=t.new B;rw[Ez]at q;show q _ _ _ (c6 p) [p] (lr s M) O (y9 pS P<|vy _)<|(Rg t B).back s
theorem Ca:∀{n}{vs},qD K H (n.map dI) vs->∃ps,vs=ps.map c6/\tS H ps n
 | [],vs,h=>([],n8 h,.nil)
 |r::n,vs,h=>by have(v,B,rfl,t,u):=k8 h;have(p,E,rfl,s,x):=ro t;rw[tI x]at s;have(ps,rfl,z):=Ca u;show(p::ps,rfl,e9 tS.cons_iff (s,z))
theorem HZ:∀{n}{ps},tS H ps n->qD K H (n.map dI) (ps.map c6)
 | [],[],_=>.nil
 | [],_::_,h=>by have:=h.length;simp at this
 |_::_,[],h=>by have:=h.length;simp at this
 |r::n,p::ps,h=>by have(s,t):=tS.cons_iff.mp h;show .cons (.mk_list s<|vy r)<|HZ t
def To(hl:SQ K te l):SK K (VN (λxs H Q=>∃a ps s,xs=[c6 a]/\tJ K H a (ps.map c6)/\tS H ps s /\
  ∀p n,H p=n_->aF n ps->tS (rG H p<|eH<|n.map c6) n (CD s)->Q (c6 p) (rG H p<|eH<|n.map c6))<|qR te wx)<|MM l:=by
 intro H₀ t Hf S σ H Fs av S' R e Q q;have(x,O,e):=oBq.mp e;have(s,P,e):=oMq.mp e;cases e;show hl R O _ λu H1 Fs1 U X G z Y I=>?_;rw[Ib P]at I;have(ps,rfl,J):=Ca I;show(U,ps,s,rfl,Y,J.same z.sub,λp n L hq B=>?_);have(t4,M,n1,n2,n3):=z.new L;have E:tS u n<|CD s:=B.keep λb hb=>by have(r,_,hr):=J.mem<|hq.mem_iff.mp hb;rw[hr,M.sub b _ hr]
 rw[KC]at q;show q _ _ _ (c6 p) [p] (lr G t4) M (y9 pS n1<|HZ E)<|(Rg z L).back G
noncomputable def tyD:String->D->Bool
 |T,ew _=>T == "list"
 |T,o9 _=>T == "list"
 |T,j3 _=>T == "str"
 |_,_=>f_
def rBM(T:String)(f:D->List D->Option D)(a:ME)(as:ML):ME:=λS=>cq (a S) λx=>if tyD T x.1=t_ then cq (as x.2) λy=>(f x.1 y.1).map λd=>%[d|y.2]else n_
def BmD(K:Ζ)(r:V->List V->Hp->VK->Prop)(f:D->List D->Option D):Prop:=∀⦃x vs H Q l ds d⦄,rN K H l x->qD K H ds vs->f l ds=aB d->(∀v,rN K H d v->Q v H)->r x vs H Q
set_option tactic.hygienic true in
def abo(h:tyD T d=t_)(s:rN K H d v):tyV K T v H:=by
 cases s <;> simp only[tyD]at h;all_goals first|(simp at h;done)|skip
 .show eq_of_beq h
 .rename_i p t u n l e;show jE (eq_of_beq h,t,l6 n)
 .rename_i p x n;show .inl (eq_of_beq h,_,n)
def ZG(hr:BmD K r f)(ha:SR K te a)(t:Wn K ta as):SR K (Sl K T r te ta)<|rBM T f a as:=by
 intro H₀ l Hf S σ H U d X R e Q q;have(x,u,e):=oBq.mp e;split at e;.rename_i B;have(y,E,e):=oBq.mp e;have(z,G,e):=oMq.mp e;cases e;show ha R u _ λI Y Fs1 v J L n=>(abo B n,t L E _ λM H2 Fs2 vs s R2 O=>?_);show hr (y0 n s.sh) O G λv P=>q _ _ _ v (lr J s) R2 P
 .cases e
noncomputable def qW:AV->Θ->Option (List AV)
 | d8 avs,[]=>aB avs
 | d8 avs,j::js=>cq (avs[j]?) λa=>qW a js
 |_,_=>n_
noncomputable def putAt:AV->Θ->List AV->AV
 | d8 _,[],as=>d8 as
 | d8 avs,j::l,as=>match avs[j]? with
  |aB a=>d8<|fb avs j<|putAt a l as
  |n_=>d8 avs
 |a,_,_=>a
def Hj(H:Hp):V->Θ->V->Prop
 |v,[],w=>v=w
 |v,j::js,w=>∃p vs u,v = c6 p/\H p=aB (eH vs)/\vs[j]?=aB u/\Hj H u js w
section
variable {S:AS}
theorem AM:∀{Fs:List Δ}{F G}i,c8 (bt Fs)->Fs[i]?=aB G->c8 F->(∀p∈F,p∈G∨p∉bt Fs)->c8 (fb Fs i F).flatten
 | [],F,G,i,h,e,_,_=>by simp at e
 |E::Gs,F,G,0,h,e,hF,hd=>by
  simp at e;subst e;rw[eI,fCq,nAq];rw[fCq,nAq]at h;show(hF,h.2.1,λa ha b hb e=>?_);subst e;obtain z|z:=hd a ha;.show h.2.2 a z a hb rfl
  .show z<|by show ah _ hb
 |E::Gs,F,G,i+1,h,e,hF,hd=>by
  rw[fP,fCq,nAq];rw[fCq,nAq]at h;have l:=by show e
  show(h.1,AM i h.2.1 l hF λp n=>(hd p n).imp id λz m=>z<|by show ah _ m,λa ha b hb e=>?_);subst e;obtain q|q:=rn hb
  .obtain z|z:=hd a q;.show h.2.2 a ha a (e9 mFq (G,mGq l,z)) rfl
   .show z<|by show ai _ ha
  .show h.2.2 a ha a q rfl
theorem FU:∀{Fs:List Δ}{F G}{i j:Nat}{p},c8 (bt Fs)->Fs[i]?=aB F->Fs[j]?=aB G->i≠j->p∈F->p∉G
 | [],F,G,i,j,p,_,e,_,_,_,_=>by simp at e
 |E::Es,F,G,0,0,p,h,e,f,n,_,_=>n rfl
 |E::Es,F,G,0,j+1,p,h,e,f,n,hp,m=>by simp at e;subst e;rw[fCq,nAq]at h;show h.2.2 p hp p (e9 mFq (G,mGq<|by show f,m)) rfl
 |E::Es,F,G,i+1,0,p,h,e,f,n,hp,m=>by simp at f;subst f;rw[fCq,nAq]at h;show h.2.2 p m p (e9 mFq (F,mGq<|by show e,hp)) rfl
 |E::Es,F,G,i+1,j+1,p,h,e,f,n,hp,m=>by rw[fCq,nAq]at h;show FU h.2.1 (by show e) (by show f) (λz=>n<|by rw[z]) hp m
theorem qp.path:∀{path}{av}{v}{F}{as},qp K Hf H av v F->c8 F->qW av path=aB as->∃p vs Gs,Hj H v path (c6 p)/\H p=aB (eH vs)/\Hf p=n_/\ql K Hf H as vs Gs/\p∈F/\p∉bt Gs/\c8 (bt Gs)/\(∀q∈bt Gs,q∈F) /\
  ∀t s l,ql K Hf (rG H p<|eH s) t s l->c8 (p::bt l)->(∀q∈bt l,q∈bt Gs∨q∉F)->∃F',qp K Hf (rG H p<|eH s) (putAt av path t) v F'/\c8 F'/\∀q∈F',q∈F∨q∈bt l
 | [],av,v,F,as,r,nd,e=>by cases av with
  |ow u=>
   cases e;have(p,vs,Gs,rfl,rfl,U,X,E):=r.ow_inv;have n:=au.mp nd;show(p,vs,Gs,rfl,U,X,E,by simp,n.1,n.2,λq B=>mCo _ B,λt s l r' L Z=>(p::bt l,vl pS X r',L,λq B=>?_));obtain z|z:=ae.mp B;.show jE<|by rw[z];simp
   .show iq z
  |_=>cases e
 |j::js,av,v,F,as,r,nd,e=>by cases av with
  |ow u=>
   have(a,e1,e2):=oBq.mp<|show(u[j]?).bind (λa=>qW a js)=aB as from e;have(J,I,Gs0,rfl,rfl,U,X,E):=r.ow_inv;have n:=au.mp nd;have O:j<de u:=(gSq.mp e1).1;have Y:I[j]?=aB (I[j]'(E.1 ▸ O)):=gEg _;have P:Gs0[j]?=aB (Gs0[j]'(E.2.1 ▸ O)):=gEg _;generalize I[j]'(E.1 ▸ O)=vj at Y;generalize Gs0[j]'(E.2.1 ▸ O)=Fj at P;have rj:=E.2.2 j a vj Fj e1 Y P;have ndj:c8 Fj:=bz.sublist (aL<|mGq P) n.2;have sub:∀q∈Fj,q∈bt Gs0:=λq B=>qe P B;have(p,vs,Gs,g1,g2,g3,g4,g5,g6,g6',g7,g8):=qp.path rj ndj e2;have pne:J≠p:=λz=>n.1<|z ▸ sub p g5;show(p,vs,Gs,(J,I,vj,rfl,U,Y,g1),g2,g3,g4,mCo _<|sub p g5,g6,g6',λq B=>mCo _<|sub q<|g7 q B,λt s l r' L hd=>?_);have(F',k1,k2,k3):=g8 t s l r' L λq B=>(hd q B).imp id λz m=>z<|mCo _<|sub q m;have hF':∀q∈F',q∈Fj∨q∉bt Gs0:=λq B=>by
    obtain z|z:=k3 q B;.show jE z
    .obtain y|y:=hd q z;.show jE<|g7 q y
     .show iq λm=>y<|mCo _ m
   show(J::bt (fb Gs0 j F'),?_,e9 au (λm=>?_,AM j n.2 P k2 hF'),λq B=>?_)
   .change qp K Hf (rG H p<|eH s) (match u[j]? with|aB a=>d8<|fb u j<|putAt a js t|n_=>d8 u) (c6 J) _;rw[e1];show .ow (vs:=I) (by rw[pK pne];show U) X (by rw[lZq];show E.1) (by rw[lZq,lZq];show E.2.1) λi b w G R q2 Q=>?_;rw[bE]at R Q;by_cases M:j=i;.subst M;rw[pZ rfl,pZ O]at R;rw[pZ rfl,pZ<|E.2.1 ▸ O]at Q;rw[Y]at q2;cases R;cases q2;cases Q;show k1
    .rw[pW M]at R Q;show(E.2.2 i b w G R q2 Q).keepUpd λm=>FU n.2 P Q M g5 m
   .obtain z|z:=rn m
    .obtain y|y:=k3 J z;.show n.1<|sub J y
     .obtain x|x:=hd J y;.show n.1<|sub J<|g7 J x
      .show x ⋯
    .show n.1 z
   .obtain z|z:=ae.mp B;.show jE<|by rw[z];simp
    .obtain z|z:=rn z;.show(k3 q z).imp (λy=>mCo _<|sub q y) id
     .show jE<|mCo _ z
  |_=>cases e
def qv.turnAny(R:qv K H₀ Hf₀ Hf S σ H Fs)(s1:σ[i]?=aB (aB v))(B:Fs[i]?=aB F)(s:p∈F)(r:qp K Hf (rG H p o) av v F')(nd:c8 F')
  (hf:∀q∈F',H₀ q=n_/\q∉bt (fb Fs i [])):qv K H₀ Hf₀ Hf (fb S i<|aB av) σ (rG H p o)<|fb Fs i F':=by
 have t:=e9 mFq (F,mGq B,s);have pn:=(R.mem t).2;have I:=R.fresh p t;have out:=uU R.nd B s;have J:qv K H₀ Hf₀ Hf (fb S i n_) σ (rG H p o)<|fb Fs i []:=by
  show(by simp[R.len],by simp[R.lenF],λj a n=>?_,λj n=>?_,tQ i R.nd bA (λp s=>by cases s),λp s=>R.fresh p<|qN s,λb u e=>?_,λb u e=>?_,R.lim,R.sf)
  .rw[bE]at n;by_cases l:i=j;.subst l;rw[pZ rfl]at n;split at n <;> cases n
   .rw[pW l]at n;have(w,G,L,E,q):=R.rep j a n;show(w,G,L,by rw[ar l];show E,q.keep (j4 _) (λc x=>pK λe=>out ?_) λc x=>(IP q c x).2);cases e;show e9 mFq (G,mGq<|by rw[ar l];show E,x)
  .rw[bE]at n;by_cases l:i=j
   .subst l;rw[pZ rfl]at n;split at n;.rename_i hi;rw[aA<|fx R.lenF ▸ hi]
    .cases n
   .rw[pW l]at n;rw[ar l];show R.emp j n
  .rw[pK λz=>by rw[z,pn]at e;cases e];show R.sub b u e
  .rw[pK λz=>by rw[z,I]at e;cases e];show R.fr b u e
 show J.again (F:=F) s1 r nd hf
def qv.kill(R:qv K H₀ Hf₀ Hf S σ H Fs)x:qv K H₀ Hf₀ Hf (fb S x n_) σ H<|fb Fs x []:=by
 show(by simp[R.len],by simp[R.lenF],λj a n=>?_,λj n=>?_,tQ x R.nd bA (λp s=>by cases s),λp s=>R.fresh p<|qN s,R.sub,R.fr,R.lim,R.sf)
 .rw[bE]at n;by_cases l:x=j;.subst l;rw[pZ rfl]at n;split at n <;> cases n
  .rw[pW l]at n;have(w,G,t,u,q):=R.rep j a n;show(w,G,t,by rw[ar l];show u,q)
 .rw[bE]at n;by_cases l:x=j
  .subst l;rw[pZ rfl]at n;split at n;.rename_i hi;rw[aA<|fx R.lenF ▸ hi]
   .cases n
  .rw[pW l]at n;rw[ar l];show R.emp j n
def qv.any(R:qv K H₀ Hf₀ Hf (fb S x n_) σ H Fs)v:qv K H₀ Hf₀ Hf (fb S x n_) (fb σ x<|aB v) H Fs where
 len:=by rw[R.len,lZq]
 lenF:=R.lenF
 rep:=λi av e=>by
  by_cases l:x=i;.subst l;rw[bE]at e;rw[pZ rfl]at e;split at e <;> cases e
  .have(w,G,n,s,q):=R.rep i av e;show(w,G,by rw[ar l];show n,s,q)
 emp:=R.emp
 nd:=R.nd
 fresh:=R.fresh
 sub:=R.sub
 fr:=R.fr
 lim:=R.lim
 sf:=R.sf
end
noncomputable abbrev aI(ns:Ϝ):AV:=d8<|ns.map λn=>b8<|b7 n
def Q9:AV->Option D
 | b8 d=>if d.scal=t_ then aB d else n_
 |_=>n_
def su(f:MF)(a:ML):ME:=λS=>cq (a S) λx=>cq (f x.1) λr=>(Q9 r).map λd=>%[d|x.2]
def J4(ha:Wn K u a):SR K (En (tE K f) [] E0 u)<|su f a:=by intro H₀ t Hf S σ H Fs d S' R e Q q;have(x,G,e):=oBq.mp e;have(r,I,e):=oBq.mp e;have(z,n,e):=oMq.mp e;cases e;show ha R G _ λs B Fs1 vs J L M=>?_;rw[aNq];show(B,x.1,r,j4 _,M,I,λO P v F s1 E s3 l U nd fr=>?_);have X:yY s B Fs1 s P Fs1:=(j4 _,E,λZ h=>h,λb h g=>absurd h g);cases r with
 |sh d'=>
  simp only[Q9]at n;split at n;.rename_i Y;cases n;show q _ _ _ v (lr J X) (L.laid E)<|(pj U).2.scal Y
  .cases n
 |_=>cases n
section
variable (S:AS)
@[simp] theorem ady i:oQ i S=(q9 S[i]?).map λa=>%[oY a|S]:=rfl
@[simp] theorem adq i:pO i S=(q9 S[i]?).map λa=>%[b8<|oY a|fb S i<|aB<|b8<|oY a]:=rfl
@[simp] theorem adT i:Ad i S=(q9 S[i]?).map λa=>%[a|fb S i n_]:=rfl
@[simp] theorem afc k:rOf k S=(k S).map λx=>%[oY x.1|x.2]:=rfl
@[simp] theorem aeP m:kSc m S=cq (m S) λx=>if x.1.scal then aB %[b8 x.1|x.2]else n_:=rfl
@[simp] theorem acO k:tx k S=(k S).map λx=>%[b8<|oY x.1|x.2]:=rfl
@[simp] theorem rC_ d:rC d S=if d.scal then aB %[d|S]else n_:=rfl
@[simp] theorem afd f a b:pQ f a b S=cq (a S) λx=>cq (b x.2) λy=>(f x.1 y.1).map λd=>%[d|y.2]:=rfl
@[simp] theorem ae8 f a:Fu f a S=cq (a S) λx=>(f x.1).map λd=>%[d|x.2]:=rfl
@[simp] theorem ZN a b:wj a b S=cq (a S) λx=>if x.1=t_ then b x.2 else aB %[f_|x.2]:=rfl
@[simp] theorem afg c a b:rIf c a b S=cq (c S) λx=>if x.1=t_ then a x.2 else b x.2:=rfl
noncomputable def aaq:D->Option Bool
 | k9 b=>aB b
 |_=>n_
@[simp] theorem afl a:rQ a S=cq (a S) λx=>(aaq x.1).map λb=>%[b|x.2]:=by change(a S).bind _=_;congr 1;funext x;have(d,l):=x;cases d <;> rfl
set_option tactic.hygienic true in
@[simp] theorem adw a b:Wz a b S=cq (a S) λx=>cq (aaq x.1) λc=>if c=t_ then b x.2 else aB %[k9 f_|x.2]:=by
 change(a S).bind _=_;congr 1;funext x;have(d,l):=x;cases d <;> try rfl
 rename_i c;cases c <;> rfl
@[simp] theorem Ww b:aaq (k9 b)=aB b:=rfl
@[simp] theorem ad0:pV S=aB %[[]|S]:=rfl
@[simp] theorem ZO k r:oS k r S=cq (k S) λx=>(r x.2).map λy=>%[x.1::y.1|y.2]:=rfl
@[simp] theorem aa8:pE S=aB %[[]|S]:=rfl
@[simp] theorem WL k r:oR k r S=cq (k S) λx=>(r x.2).map λy=>%[x.1::y.1|y.2]:=rfl
@[simp] theorem ac8 a:qT a S=cq (a S) λx=>xN (de x.1<=qS)<|aB %[d8 x.1|x.2]:=rfl
@[simp] theorem acB a:zK a S=cq (a S) λx=>xN (de x.1<=qS)<|aB %[b8<|lG<|x.1.map oY|x.2]:=rfl
@[simp] theorem acv a b:Of a b S=cq (a S) λx=>cq (b x.2) λy=>xN (de x.1+de y.1<=qS)<|aB %[d8<|(x.1++y.1).map b8|y.2]:=rfl
@[simp] theorem Z8:FD S=aB %[n_|S]:=rfl
@[simp] theorem aa1 m:Dd m S=cq (m S) λx=>(intOf x.1).map λi=>%[aB i|x.2]:=by change(m S).bind _=_;congr 1;funext x;have(d,l):=x;cases d <;> rfl
@[simp] theorem QF i:intOf (b7 i)=aB i:=rfl
@[simp] theorem aeT l lo hi:Zt l lo hi S=cq (l S) λx=>cq (lo x.2) λy=>(hi y.2).map λz=>%[d8<|(Bc x.1 y.1 z.1).map b8|z.2]:=rfl
@[simp] theorem aeL l b:Ke l b S=cq (l S) λx=>cq (b x.2) λy=>cq (intOf y.1) λi=>(atI x.1 i).map λd=>%[b8 d|y.2]:=by change(l S).bind _=_;congr 1;funext x;congr 1;funext y;have(d,n):=y;cases d <;> rfl
@[simp] theorem afo f a:vJ f a S=cq (a S) λx=>(f x.1).map λd=>%[d|x.2]:=rfl
@[simp] theorem abm f a:rH f a S=cq (a S) λx=>(f<|x.1.map oY).map λr=>%[r|x.2]:=rfl
@[simp] theorem aae f a:su f a S=cq (a S) λx=>cq (f x.1) λr=>(Q9 r).map λd=>%[d|x.2]:=rfl
@[simp] theorem Z1:qO S=aB (gb S):=rfl
@[simp] theorem YG:za S=n_:=rfl
noncomputable def Qe(o:Option E2)(b:MS):Option E2:=cq o λo=>match o with
 | gb S'=>b S'
 |o=>aB o
@[simp] theorem Ts b:Qe (aB<|gb S) b=b S:=rfl
@[simp] theorem VT a b:Qe (aB<|.rt a) b=aB (.rt a):=rfl
@[simp] theorem Ob b:Qe n_ b=n_:=rfl
@[simp] theorem adh a b:pd a b S=Qe (a S) b:=rfl
@[simp] theorem adv i k:qa i k S=(k S).map λx=>gb<|fb x.2 i<|aB x.1:=rfl
@[simp] theorem aak k:Qm k S=(k S).map λx=>gb x.2:=rfl
@[simp] theorem adK k:rV k S=(k S).map λx=>.rt x.1:=rfl
@[simp] theorem aeV c a b:zg c a b S=cq (c S) λx=>if x.1=t_ then a x.2 else b x.2:=rfl
@[simp] theorem adb i k:vc i k S=cq (qQ S i) λQ=>cq (k S) λx=>cq (qQ x.2 i) λavs=>xN (de avs<qS)<|aB<|gb<|fb x.2 i<|aB<|d8<|avs++[x.1]:=rfl
@[simp] theorem adf i b k:Md i b k S=cq (tx k S) λx=>cq (qQ x.2 i) λQ=>cq (b x.2) λy=>cq (qQ y.2 i) λavs=>cq (intOf y.1) λj=>(Kd (de avs) j).map λn=>gb<|fb y.2 i<|aB<|d8<|(fb (avs.map oY) n<|oY x.1).map b8:=rfl
@[simp] theorem abD i b k:Bn i b k S=cq (tx k S) λx=>cq (AN x.2 i) λQ=>cq (b x.2) λy=>cq (AN y.2 i) λkvs=>cq (xo y.1) λkey=>xN (de kvs<qS)<|aB<|gb<|fb y.2 i<|aB<|eT<|zw kvs key<|oY x.1:=rfl
noncomputable def A2:D->Option (List<|qk×D)
 | m6 kvs=>aB kvs
 |_=>n_
@[simp] theorem K8 kvs:A2 (m6 kvs)=aB kvs:=rfl
@[simp] theorem QT i:xo (b7 i)=aB (aO i):=rfl
@[simp] theorem adA a b:YN a b S=cq (a S) λx=>cq (b x.2) λy=>cq (A2 y.1) λkvs=>(xo x.1).map λkey=>%[k9<|fC (getD kvs key)|y.2]:=by change(a S).bind _=_;congr 1;funext x;congr 1;funext y;have(d,l):=y;cases d <;> rfl
@[simp] theorem Tu a b:BP a b S=cq (a S) λx=>cq (b x.2) λy=>cq (A2 y.1) λkvs=>(xo x.1).map λkey=>%[k9<|!fC (getD kvs key)|y.2]:=by change(a S).bind _=_;congr 1;funext x;congr 1;funext y;have(d,l):=y;cases d <;> rfl
@[simp] theorem abh a b:zu a b S=cq (a S) λx=>cq (b x.2) λy=>cq (A2 x.1) λkvs=>cq (xo y.1) λkey=>(getD kvs key).map λd=>%[d|y.2]:=by change(a S).bind _=_;congr 1;funext x;have(d,l):=x;cases d <;> rfl
@[simp] theorem aaV:Eo S=aB %[eT []|S]:=rfl
@[simp] theorem adD x k body:AO x k body S=cq (tx k S) λy=>cq (rP<|oY y.1) λds=>rA x body ds y.2:=rfl
@[simp] theorem Xi x a body:CP x a body S=cq (a S) λy=>cq (ze y.1) λds=>rA x body ds y.2:=rfl
@[simp] theorem aax x y k body:LF x y k body S=cq (tx k S) λz=>cq (rP<|oY z.1) λds=>CF x y body 0 ds z.2:=rfl
@[simp] theorem ZR x y k l body:UI x y k l body S=cq (tx k S) λz=>cq (tx l z.2) λw=>cq (rP<|oY z.1) λds=>cq (rP<|oY w.1) λn=>if de ds=de n then D0 x y body ds n w.2 else n_:=rfl
@[simp] theorem aar l fr n te:vh l fr n te S=cq (l S) λy=>cq (fzAll fr y.2) λs=>cq (DR s fr) λcap=>xN (de y.1<=qS)<|(rD n te cap y.1).map λavs=>%[d8 avs|s]:=rfl
@[simp] theorem ade k:Dr k S=cq (tx k S) λy=>(rP<|oY y.1).map λds=>%[ds|y.2]:=rfl
@[simp] theorem aeX a:Zh a S=cq (a S) λy=>(ze y.1).map λds=>%[ds|y.2]:=rfl
@[simp] theorem ZP:sV S=aB %[t_|S]:=rfl
@[simp] theorem RZ:fzAll [] S=aB S:=rfl
@[simp] theorem NZ j(l:Θ):fzAll (j::l) S=cq (q9 S[j]?) λa=>fzAll l<|fb S j<|aB<|b8<|oY a:=rfl
@[simp] theorem Uh:DR S []=aB []:=rfl
@[simp] theorem Q1 j(l:Θ):DR S (j::l)=cq (abb<|q9 S[j]?) λa=>(DR S l).map (aB a :: ·):=rfl
@[simp] theorem abE l:CU l S=(l S).map λx=>%[d8<|x.1.map b8|x.2]:=rfl
@[simp] theorem YM l:OC l S=cq (l S) λx=>(sP x.1).map λns=>%[d8<|(vH ns).map λn=>b8<|b7 n|x.2]:=rfl
@[simp] theorem YJ l:MM l S=cq (l S) λx=>(Cr x.1).map λn=>%[d8<|(CD n).map λr=>b8<|dI r|x.2]:=rfl
noncomputable def adn:AV->Option (List AV)
 | d8 avs=>aB avs
 |_=>n_
@[simp] theorem WZ avs:adn (d8 avs)=aB avs:=rfl
@[simp] theorem aeI T f a as:rBM T f a as S=cq (a S) λx=>if tyD T x.1=t_ then cq (as x.2) λy=>(f x.1 y.1).map λd=>%[d|y.2]else n_:=rfl
noncomputable def lsA:AV->Option (List D)
 | b8 (ew ds)=>aB ds
 | d8 avs=>aB<|avs.map oY
 |_=>n_
@[simp] theorem abC ds:lsA (b8<|ew ds)=aB ds:=rfl
@[simp] theorem aaD avs:lsA (d8 avs)=aB (avs.map oY):=rfl
@[simp] theorem ae1 k:lOf k S=cq (k S) λx=>(lsA x.1).map λds=>%[ds|x.2]:=by change(k S).bind _=_;congr 1;funext x;have(a,l):=x;cases a with
 |sh d=>cases d <;> rfl
 |_=>rfl
end
@[simp] theorem Vz (ds:List D):(ds.map b8).map oY=ds:=by
 rw[mPq];have:oY∘b8=id:=by funext d;rfl
 rw[this,eK]
noncomputable def hlf:AV->AV
 | d8 avs=>d8<|(avs.map oY).map b8
 |a=>a
@[simp] theorem aaw d:hlf (b8 d) = b8 d:=rfl
@[simp] theorem abR avs:hlf (d8 avs) = d8 ((avs.map oY).map b8):=rfl
def FH{S:AS}(h:S[i]?=aB (aB a)):fb S i (aB a)=S:=by have(hk,l):=gSq.mp h;rw[←l];show gX hk
@[simp] theorem acz S i:K7 i S=cq (q9 S[i]?) λa=>(lsA a).map λds=>%[ds|fb S i<|aB<|hlf a]:=by unfold K7;cases e:q9 S[i]? with
 |none=>rfl
 |some a=>cases a with
  |sh d=>cases d with
   |list ds=>change aB %[ds|S]=aB %[ds|fb S i<|i7 ds];rw[FH<|qE e]
   |_=>rfl
  |ow n=>rfl
  |owd l=>rfl
  |owl l=>rfl
noncomputable def lsQ:AV->Option (List D)
 | b8 (o9 ns)=>aB<|ns.map b7
 |a=>lsA a
@[simp] theorem WS ns:lsQ (b8<|o9 ns)=aB (ns.map b7):=rfl
@[simp] theorem abu ds:lsQ (b8<|ew ds)=aB ds:=rfl
@[simp] theorem ZI avs:lsQ (d8 avs)=aB (avs.map oY):=rfl
@[simp] theorem adW S i:vv i S=cq (q9 S[i]?) λa=>(lsQ a).map λds=>%[ds|fb S i<|aB<|hlf a]:=by unfold vv;cases e:q9 S[i]? with
 |none=>rfl
 |some a=>cases a with
  |sh d=>cases d with
   |list ds=>change aB %[ds|S]=aB %[ds|fb S i<|i7 ds];rw[FH<|qE e]
   |scr l=>change aB %[l.map b7|S]=aB %[l.map b7|fb S i<|aB<|b8<|o9 l];rw[FH<|qE e]
   |_=>rfl
  |ow s=>rfl
  |owd n=>rfl
  |owl n=>rfl
@[simp] theorem Sv i:(b7 i).scal=t_:=rfl
@[simp] theorem Yu i:(k9 i).scal=t_:=rfl
@[simp] theorem SX i:(j3 i).scal=t_:=rfl
@[simp] theorem VW:D.non.scal=t_:=rfl
@[simp] theorem Yv i:(D.ty i).scal=t_:=rfl
@[simp] theorem Uj i:Q9 (b8<|b7 i)=aB (b7 i):=rfl
@[simp] theorem XR i:Q9 (b8<|k9 i)=aB (k9 i):=rfl
@[simp] theorem V9:Q9 (b8 j0)=aB j0:=rfl
@[simp] theorem IZ i j:AY (b7 i) (b7 j)=aB (k9<|decide<|i=j):=rfl
@[simp] theorem YQ i j:AY (j3 i) (j3 j)=aB (k9<|decide<|i=j):=rfl
@[simp] theorem XY i j:Zc (b7 i) (b7 j)=aB (k9<|!decide (i=j)):=rfl
@[simp] theorem QR ds:rq [ew ds]=aB (b7<|de ds):=rfl
@[simp] theorem VQ ns:rq [o9 ns]=aB (b7<|de ns):=rfl
@[simp] theorem Tj i:Yb [b7 i]=aB (b7<|if i<0 then -i else i):=rfl
@[simp] theorem Jb ds:rP (ew ds)=aB ds:=rfl
@[simp] theorem Vu ds i:vd (ew ds) (b7 i)=atI ds i:=rfl
@[simp] theorem Yf ns i:vd (o9 ns) (b7 i)=(atI ns i).map b7:=rfl
@[simp] theorem WX d:abb (aB<|b8 d)=aB (b8 d):=rfl
@[simp] theorem Vc ds:tyD "list" (ew ds)=t_:=rfl
def W5(S)i:qQ S i=cq (q9 S[i]?) adn:=by delta qQ;cases q9 S[i]? with
 |none=>rfl
 |some a=>cases a <;> rfl
noncomputable def VO:AV->Option (List<|qk×D)
 | eT kvs=>aB kvs
 |_=>n_
@[simp] theorem RT kvs:VO (eT kvs)=aB kvs:=rfl
def Tt(S)i:AN S i=cq (q9 S[i]?) VO:=by delta AN;cases q9 S[i]? with
 |none=>rfl
 |some a=>cases a <;> rfl
theorem Ku(P:Nat->AS->Prop):∀{ds}{S}{k},P k S->(∀i d S,ds[i]?=aB d->P (k+i) S->∃S',(body (fb S x<|aB<|b8 d)=aB (gb S')∨body (fb S x<|aB<|b8 d)=aB (.ct S'))/\P (k+i+1) S')->∃S',rA x body ds S=aB (gb S')/\P (k+de ds) S'
 | [],S,k,l,_=>(S,rfl,l)
 |d::ds,S,k,l,hs=>by
  have(S',e,s):=hs 0 d S rfl l;have n:=λi d S h p=>by
   have:=hs (i+1) d S (by show h)<|by rw[show k+(i+1)=k+1+i by lia];show p
   rw[show k+(i+1)=k+1+i by lia]at this;show this
  have(t,u,z):=Ku P s n;show(t,?_,by rw[lCq,show k+(de ds+1)=k+1+de ds by rfl'];show z);change(body _).bind _=_;obtain e|e:=e <;> (rw[e];show u)
def xY(P:Nat->AS->Prop)(l:P 0 S)(n:∀i d S,ds[i]?=aB d->P i S->∃S',body (fb S x<|aB<|b8 d)=aB (gb S')/\P (i+1) S'):∃S',rA x body ds S=aB (gb S')/\P (de ds) S':=by
 have:=Ku P l λi d S h p=>by rw[bD]at p ⊢;have(S',e,q):=n i d S h p;show(S',jE e,q)
 rw[bD]at this;show this
theorem Qy(P:Nat->AS->Prop):∀{ds}{S}{k},P k S->(∀i d S,ds[i]?=aB d->P (k+i) S->∃S',body (fb (fb S x<|i6 (k+i:Nat)) y<|aB<|b8 d)=aB (gb S')/\P (k+i+1) S')->∃S',CF x y body k ds S=aB (gb S')/\P (k+de ds) S'
 | [],S,k,l,_=>(S,rfl,l)
 |d::ds,S,k,l,hs=>by
  have(S',e,s):=hs 0 d S rfl l;have n:=λi d S h p=>by
   have:=hs (i+1) d S (by show h)<|by rw[show k+(i+1)=k+1+i by lia];show p
   rw[show k+(i+1)=k+1+i by lia]at this;show this
  have(t,u,z):=Qy P s n;show(t,?_,by rw[lCq,show k+(de ds+1)=k+1+de ds by rfl'];show z);change(body<|fb (fb S x<|i6<|k) y<|aB<|b8 d).bind _=_;rw[iY]at e;rw[e];show u
theorem Za(P:Nat->AS->Prop):∀{ds l}{S}{k},de ds=de l->P k S->(∀i d e S,ds[i]?=aB d->l[i]?=aB e->P (k+i) S->∃S',body (fb (fb S x<|aB<|b8 d) y<|aB<|b8 e)=aB (gb S')/\P (k+i+1) S')->∃S',D0 x y body ds l S=aB (gb S')/\P (k+de ds) S'
 | [],[],S,k,_,n,_=>(S,rfl,n)
 | [],_::_,S,k,hl,_,_=>by simp at hl
 |_::_,[],S,k,hl,_,_=>by simp at hl
 |d::ds,b::l,S,k,hl,n,hs=>by
  have(S',e,t):=hs 0 d b S rfl rfl n;have s:=λi d e S h u p=>by
   have:=hs (i+1) d e S (by show h) (by show u)<|by rw[show k+(i+1)=k+1+i by lia];show p
   rw[show k+(i+1)=k+1+i by lia]at this;show this
  have(z,B,E):=Za P (by simpa using hl) t s;show(z,?_,by rw[lCq,show k+(de ds+1)=k+1+de ds by rfl'];show E);change(body _).bind _=_;rw[e];show B
theorem ve{cap:AS}g:∀{ds},(∀d∈ds,∃S',te (aB (b8 d)::cap)=aB %[g d|S'])->rD sV te cap ds=aB (ds.map g)
 | [],_=>rfl
 |d::ds,h=>by have(S',e):=h d ⋯;change(te<|aB (b8 d)::cap).bind (λa=>(rD sV te cap ds).map (a.1 :: ·))=_;rw[e,ve g λx l=>h x<|mCo _ l];rfl
theorem uJ{cap:AS}p g:∀{ds},(∀d∈ds,∃n,l (aB (b8 d)::cap)=aB %[p d|n]/\(p d=t_->∃S',te n=aB %[g d|S']))->rD l te cap ds=aB ((ds.filter p).map g)
 | [],_=>rfl
 |d::ds,h=>by
  have(n,t,u):=h d ⋯;have s:=uJ p g λx z=>h x<|mCo _ z;change(l<|aB (b8 d)::cap).bind _=_;rw[t];change(if p d=t_ then _ else _)=_;by_cases c:p d=t_;.have(S',B):=u c;rw[pZ c,B,bW c];rw[s];rfl
  .rw[pW c,bZ c,s]
def DB(f:α->β)xs lo hi:Bc (xs.map f) lo hi=(Bc xs lo hi).map f:=by delta Bc;rw[lMq,iJ,ky]
def Ij(xs:List α)i(h:i<=de xs):Bc xs (aB (i:Int)) n_=xs.drop i:=by delta Bc;rw[HT.Fe,eO h,dk<|by rw[aR];show ag _]
def O0(xs:List α)i(h:i<=de xs):Bc xs n_ (aB (i:Int))=xs.take i:=by delta Bc;simp only[HT.Fe,HT.UZ,eO h,iC,Nat.sub_zero]
def Tb(xs:List α)(i j:Nat):Bc xs (aB (i:Int)) (aB (j:Int))=(xs.drop i).take (j-i):=by
 delta Bc;rw[HT.Fe,HT.Fe];by_cases h:i<=de xs
 .rw[eO h];by_cases l:j<=de xs;.rw[eO l]
  .rw[jV ∅,dk<|by rw[aR];show ag _,dk<|by rw[aR];lia]
 .have e:min i (de xs)=de xs:=jV ∅;rw[e,gP<|ag<|de xs,gP ∅];simp
def Fo{xs:List α}(l:0<=i):atI xs i=xs[cC i]?:=by
 delta atI Kd;rw[pZ l];by_cases h:i<de xs;.rw[pZ h];rfl
 .rw[pW h,bo ∅];rfl
def Jy(f:α->β)xs i:atI (xs.map f) i=(atI xs i).map f:=by delta atI;rw[lMq];cases Kd (de xs) i with
 |none=>rfl
 |some j=>change(xs.map f)[j]?=_;rw[gMq];rfl
def Ai(h:i<n):Kd n (i:Int)=aB i:=by delta Kd;rw[pZ<|by rfl',pZ<|by simp +arith[*]];simp
def X4(ns:Ϝ):(ns.map b7).map b8=ns.map λn=>b8<|b7 n:=by rw[mPq];rfl
def Jm(ns:Ϝ):(ns.map λn=>b8<|b7 n).map oY=ns.map b7:=by rw[mPq];show mCq λn Q=>by rfl
def XM(l:Λ):(l.map aI).map oY=l.map dI:=by rw[mPq];show mCq λr Q=>?_;change oY (d8<|r.map λn=>b8<|b7 n)=_;rw[qZ,Jm]
def Xy(l:Λ):(l.map dI).map b8=l.map λr=>b8<|dI r:=by rw[mPq];rfl
def Yo(l:Λ):(l.map λr=>b8<|dI r).map oY=l.map dI:=by rw[mPq];show mCq λn Q=>by rfl
def oV ns:oY (aI ns)=dI ns:=by rw[qZ,Jm]
def YS i j:AR (b7 i) (b7 j)=aB (b7<|i+j):=yl _
def Yi i j:Cv (b7 i) (b7 j)=aB (b7<|i-j):=yl _
def aa2 i j:O7 (b7 i) (b7 j)=aB (k9<|decide<|i<j):=yl _
def aaW i j:dLe (b7 i) (b7 j)=aB (k9<|decide<|i<=j):=yl _
def ZV i j:CS (b7 i) (b7 j)=aB (k9<|decide<|j<i):=yl _
def ZJ i:xj (b7 i)=aB (b7<|-i):=rfl
def p40:Hu (b7 10) (b7 40)=aB (b7<|10 ^ 40):=vX (by decide,by decide,by decide) _
def p60:Hu (b7 10) (b7 60)=aB (b7<|10 ^ 60):=vX (by decide,by decide,by decide) _
def p57:Hu (b7 10) (b7 57)=aB (b7<|10 ^ 57):=vX (by decide,by decide,by decide) _
def K4(l:-(2 ^ 64)<i)(n:i<2 ^ 64):B1 (b7 i) (b7 j)=aB (b7<|i*j):=vX (jE (l,n)) _
def ZC(l:-(2 ^ 64)<j)(n:j<2 ^ 64):B1 (b7 i) (b7 j)=aB (b7<|i*j):=vX (iq (l,n)) _
def tG(h:0<j):vI (b7 i) (b7 j)=aB (b7<|i % j):=vX h _
def yr(h:0<j)(l:j<1073741824):B3 (b7 i) (b7 j)=aB (b7<|i / j):=vX (h,l) _
def adV:(0:Nat)<=qS:=by decide
def ac3:(1:Nat)<=qS:=by decide
def ack:(2:Nat)<=qS:=by decide
def acY:(3:Nat)<=qS:=by decide
def aea:(4:Nat)<=qS:=by decide
def adM:(5:Nat)<=qS:=by decide
def adm:(6:Nat)<=qS:=by decide
def acq:(8:Nat)<=qS:=by decide
def US(h:n<=16777216):n<=qS:=h
def IW(h:n<16777216):n<qS:=h
def uK{n:Nat}(h:n<1000000):ze [b7 (n:Int)]=aB (pT 0 n):=by have e:ze [b7<|n]=aB (pT 0<|cC (n:Int)):=vX (by rfl',by lia) _;rw[e,aQ]
def yG n:pT 0 n=(aH n).map λi:Nat=>b7 i:=by show mCq λi Q=>by rw[jI]
def acp(l n)m ds:sY l n m ds=if de ds=l then cq (m<|ds.map (λd=>aB<|b8 d)++ao (n-de ds) n_) λo=>match o with
  | .rt a=>aB a
  | gb _=>aB<|b8 j0
  |_=>n_
 else n_:=rfl
def gt1{α:Type}{a b:α}{l}:(a::b::l)[1]?=aB b:=rfl
def st1{α:Type}{a b v:α}{l}:fb (a::b::l) 1 v=a::v::l:=rfl
def gt2{α:Type}{a b c:α}{l}:(a::b::c::l)[2]?=aB c:=rfl
def Et{α:Type}{a b c v:α}{l}:fb (a::b::c::l) 2 v=a::b::v::l:=rfl
def gt3{α:Type}{a b c d:α}{l}:(a::b::c::d::l)[3]?=aB d:=rfl
def st3{α:Type}{a b c d v:α}{l}:fb (a::b::c::d::l) 3 v=a::b::c::v::l:=rfl
def gt4{α:Type}{a b c d:α}{l}:(a::b::c::d::l)[n+4]?=l[n]?:=rfl
def st4{α:Type}{a b c d v:α}{l}:fb (a::b::c::d::l) (n+4) v=a::b::c::d::fb l n v:=rfl
def Yp(h:∀ns:Ϝ,de ns<=63->f [o9 ns]=i8 t_):∀vs H Q E,Pi K vs H Q E->tE K f vs H Q E:=by rintro vs H Q E ⟨a,ns,rfl,hS,hl,q⟩;show(H,[o9 ns],_,j4 _,.cons (.scr hS) .nil,h ns hl,λl n v F Z Z Z Z r Z Z=>?_);cases (pj r).2;show q n
end Z
open Z.D renaming int->b7,list->ew,non->j0,str->j3,bl->k9,tup->lG,dict->m6,scr->o9
open Z.AV renaming sh->b8,ow->d8,owd->eT
open Z.SR renaming kSc->eM
open Z.E2 renaming nx->gb
open Z.qD renaming cons_inv->k8,nil_inv->n8
open Z.yY renaming trans->lr
open Z renaming getD->l5
open Z.qp renaming sh_inv->pj,news->vl,new->y9
open Z.rN renaming list_inv->ro,int->t8,mono->y0
open Z.SK renaming frz->tc
namespace Mr
open PySem PySem.Spec PyProof.Rows L2
noncomputable def Itv(K:Ζ)(a:Addr)(n:Nat):It:=(λi H=>∃xs,tJ K H a xs/\de xs=n/\i<n,λi H x l=>l=H/\∀xs,tJ K H a xs->xs[n-1-i]?=aB x,λi H=>n<=i)
def V1{K}a l n:JI P w K tg (Itv K a n) [l] l<|λi h=>i<=n/\kj h l a ((n:Int)-1-i) where
 mem:=by simp
 obj:=λi h st b hb=>by
  have e:b=l:=by simpa using hb
  subst e;have(_,o,e,c,d):=st;show(o,e,λv z=>by rw[d]at z;cases z)
 keep:=λi h h' st k=>(st.1,st.2.at λo e=>k l ⋯ o e)
 item:=by
  intro X hP hw B S i U s σ H E I hf st G;subst hP hw B;have(xs,Y,hn,hi):=G;have(its,rv,p,hz):=tu I Y;have J:n-1-i<de xs:=by omega
  have hx:xs[n-1-i]?=aB (xs[n-1-i]):=gEg J;have(u,hu,ru):=rv.get hx;have(L,M,f2,O,Q,R):=hf l ⋯;have Et:=st.2;rw[show(n:Int)-1-i=((n-1-i:Nat):Int) by lia]at Et;show PySem.wpAny_pyNext_rev_item Et (j6 p) (x:=u) (by simpa using hu) λh' t sb=>?_;have I1:Inv X U σ H { s with heap:=h' }:=I.turned (t':=sq s) (λb o hb e=>fq (sb.2 b hb) e) L M O Q R;have(o,e,c,d):=id t;show(u,rfl,V3 (s:={ s with heap:=h' }) e c d (by rfl) (_,H,I1,ru,(rfl,λys hy=>by rw[I.list_inj hy Y];show hx),(hi,by rw[show(n:Int)-1-((i+1:Nat):Int)=((n-1-i:Nat):Int)-1 by lia];show t),λb hb=>(hf b hb).1))
 done:=by intro X hP hw B S i U s σ H E I hf st G;subst hP hw B;have e:i=n:=ji st.1 G;subst e;have(L,M,f2,O,Q,R):=hf l ⋯;have Et:=st.2;rw[show(i:Int)-1-i = -1 by simp +arith[*]]at Et;show PySem.wpAny_pyNext_rev_end (I.ok.hd S) Et λh' eb=>(rfl,I.turned (t':=sq s) (λb o hb e=>eb b o hb e) L M O Q R)
 self:=λZ Z Z Z Z st h=>LX st.2 h
def acL(K:Ζ)(n:TA):TI:=λσ H R=>n σ H λvs l=>∃a xs,vs=[c6 a]/\tJ K l a xs/\R (Itv K a<|de xs) l
def VE(G:Gl X "reversed")(J:X.mg "reversed" = n_)(ha:PA X [e] E)(L:↑(lC [e] X.env=[%[f_|eval e<|k7 X]])) :
  PI X tg (ri (fY "reversed" p) [e] [] pos)<|acL X.K E:=by
 intro M s σ H R I h;show Call_<|yV I G J boot_reversed<|bR (thn (ha pos M s σ H _ I h) λus t B=>?_) L rfl;have(vs,O,x,P,Q):=B;have(a,z,S,U,q):=Q;subst S;have(u,rfl,Y):=xq P;cases Y;have(l,rv,p1,hz):=tu x U;have n:kj (pF (d7 t)<|PySem.revObj a<|(l.toArray.size:Int)-1) t.heap.objs.size a<|(l.toArray.size:Int)-1:=(_,bw _ rfl,rfl,rfl);show PySem.call_reversed_list (j6 p1)<|LX n ?_;have hl:l.toArray.size=de z:=by simp[n7 rv]
 rw[hl]at n ⊢;show(t.heap.objs.size,[t.heap.objs.size],_,_,O,rfl,x.kept (t':=sq t) λb o e=>ak _ e,V1 a _<|de z,(aY _,by rw[show(de z:Int)-1-((0:Nat):Int)=(de z:Int)-1 by simp +arith[*]];show n),λb hb=>?_,q);have e:b=t.heap.objs.size:=by simpa using hb
 subst e;show x.fpOk (ag _)<|p5 (L0 x)<|ag _
def Hv{α:Type}(P:α->Prop):List α->Prop
 | []=>True
 |a::l=>P a/\Hv P l
theorem Hv.mem{P:α->Prop}:∀{l},Hv P l->∀a∈l,P a
 | [],_,a,h=>by cases h
 |b::l,hp,a,h=>t6 (ae.mp h) (λe=>e ▸ hp.1)<|Hv.mem hp.2 a
def tR.of(n:c8 N)(s:N[0]?=aB x)(t:de N=de fr+1)
  (u:Hv (λp=>X.env.cells.lookup p.1=aB p.2) cl) (l:Hv (λp=>(p.2 = n4∨p.2 = sD)->∃c,cl.lookup p.1=aB c)<|fX (lQ scope<|k7 X))
  (z:Hv (λp=>X.N[p.1]?=aB p.2/\X.env.scope.names.lookup p.2=aB n4/\(lQ scope<|k7 X).names.lookup p.2=aB n4)<|fr.zip<|N.drop 1):tR X scope cl x N fr where
 names:=n
 own:=s
 len:=t
 sub:=λy c e=>u.mem %[y|c]<|eF e
 has:=λy e=>by
  obtain e|e:=e;.show l.mem _ (eF e)<|jE rfl
  .show l.mem _ (eF e)<|iq rfl
 get:=λk j y B E=>by
  have G:%[j|y]∈fr.zip (N.drop 1):=by show mGq (i:=k) ?_;rw[gu];show(B,by rw[eE,eN];show E)
  show z.mem _ G
end Mr
open Mr.tR renaming of->t5
namespace Z
open PySem L2 Mr
def iRv(k:MK):MI:=λS=>cq (tx k S) λy=>(rP<|oY y.1).map λds=>%[dw ds|y.2]
def Qr(x:Nat)(k:MK)(body:MS):MS:=λS=>cq (iRv k S) λy=>rA x body y.1 y.2
def XJ{α:Type}{ds:List α}(h:i<de ds):(dw ds)[i]?=ds[de ds-1-i]?:=List.getElem?_reverse h
@[simp] theorem ae0 S k:iRv k S=cq (tx k S) λy=>(rP<|oY y.1).map λds=>%[dw ds|y.2]:=rfl
def aca ds:KI [m6 ds]=aB (b7<|de ds):=rfl
end Z
namespace Mr
open PySem PySem.W PySem.Spec PyProof.Rows L2
structure G5 (X:Cx)(scope:lJ)(cl:List<|Str×Addr)(x x2:Str)(N:List Str)(fr:Θ):Prop where
 names:N.Nodup
 own:N[0]?=aB x
 own2:N[1]?=aB x2
 len:N.length=fr.length+2
 sub:∀y c,cl.lookup y=aB c->X.env.cells.lookup y=aB c
 has:∀y,((lQ scope X.env).names.lookup y=aB .cell∨(lQ scope X.env).names.lookup y=aB .free)->∃c,cl.lookup y=aB c
 get:∀(k j:Nat) (y:Str),fr[k]?=aB j->N[k+2]?=aB y->X.N[j]?=aB y/\X.env.scope.names.lookup y=aB .cell/\(lQ scope X.env).names.lookup y=aB .cell
def G5.of(t:c8 N)(u:N[0]?=aB x)(l:N[1]?=aB n)(z:de N=de fr+2)
  (B:Hv (λp=>X.env.cells.lookup p.1=aB p.2) cl) (s:Hv (λp=>(p.2 = n4∨p.2 = sD)->∃c,cl.lookup p.1=aB c)<|fX (lQ scope<|k7 X))
  (E:Hv (λp=>X.N[p.1]?=aB p.2/\X.env.scope.names.lookup p.2=aB n4/\(lQ scope<|k7 X).names.lookup p.2=aB n4)<|fr.zip<|N.drop 2):G5 X scope cl x n N fr where
 names:=t
 own:=u
 own2:=l
 len:=z
 sub:=λy c e=>B.mem %[y|c]<|eF e
 has:=λy e=>by
  obtain e|e:=e;.show s.mem _ (eF e)<|jE rfl
  .show s.mem _ (eF e)<|iq rfl
 get:=λk j y G H=>by
  have I:%[j|y]∈fr.zip (N.drop 2):=by show mGq (i:=k) ?_;rw[gu];show(G,by rw[eE,eN];show H)
  show E.mem _ I
abbrev g2(K:Ζ):TG:=NK K 2<|zi (sO 0)<|zi (sO 1) Ot
def TK(K:Ζ)(G:TI)(fr:Θ)(I:TT)(te:TE):TE:=λσ H Q=>G σ H λJ t=>∀l,t l=n_->∃W:Nat->Nat->Hp->Prop,(∃m,W 0 m<|rG t l<|eH [])/\∀i m H,W i m H ->
 (J.stop i H/\Q (c6 l) H) ∨
 (J.go i H/\∃N:Hp->Prop,(∀s,N s->∃z,z<m/\W (i+1) z s)/\∀x s,J.yld i H x s->∀v0 v1,g2 K x (v0::v1::slots σ fr) s λn t=>(∃a b,n=a::b::slots σ fr)/\I n t λb B=>if b=t_ then te n B λy E=>∃u,E l=aB (eH u)/\de u<sizeLine/\N (rG E l<|eH<|u++[y])else N B)
def Ks{σ:St}{RR:Value->Addr->Result->kS->Prop}{Q:VK}
  (hc:X.calm=t_) (z:∀y∈fX scope,y.2 ≠ n4) (B:scope.kind = o5) (hx:scope.names.lookup x=aB j8) (hy:scope.names.lookup x2=aB j8) (t:G5 X scope cl x x2 N fr)
  (hf:∀C s H fp,PF (tF X scope cl N C s H fp) ifs tf) (he:∀C s H fp,PE (tF X scope cl N C s H fp) elt te)
  (I:Inv X O σ H s) (T:JI X.prog X.w X.K (vb [fY x px,fY x2 px2] tk tp) J fp U Y) (st:Y 0<|d7 s) (P:∀b∈fp,yu X O H b)
  (h:∀l,H l=n_->∃W:Nat->Nat->Hp->Prop,(∃m,W 0 m<|rG H l<|eH [])/\∀i m H,W i m H ->
   (J.stop i H/\Q (c6 l) H) ∨
   (J.go i H/\∃N:Hp->Prop,(∀G,N G->∃m',m'<m/\W (i+1) m' G)/\∀x G,J.yld i H x G->∀v0 v1,g2 X.K x (v0::v1::slots σ fr) G λn H1=>(∃a b,n=a::b::slots σ fr)/\tf n H1 λb H2=>if b=t_ then te n H2 λy H3=>∃R,H3 l=aB (eH R)/\de R<sizeLine/\N (rG H3 l<|eH<|R++[y])else N H2))
  (fin:∀l C S Hf m,Inv X O σ Hf S->S.heap.Ns C m->yu X O Hf C->Q (c6 l) Hf->RR (dS l) C (.ok aAk) S) :
  lg (kZ X.prog X.w) X.A (newList []) (λl L=>lg (kZ X.prog X.w) X.A (oe scope X.env.globals cl [] X.env.qual n_ ly<|aB<|k7 X) (λu M=>mO (kZ X.prog X.w) X.A (aAr (o8 elt [(vb [fY x px,fY x2 px2] tk tp,iter,ifs,0)] scope pos) 0 (dS U) l { u with scope:=lQ scope<|k7 X }) (RR l<|oM u) M) E L) E s:=by
 show EL (gq:=g2 X.K) (own:=λn=>∃a b,n=a::b::slots σ fr) hc z B (t.len,t.sub,t.has,t.get) (λC s H fp=>NJ hc<|A7 (DI t.names t.own (jE<|lS hx)<|iq<|lS hx)<|A7 (DI t.names t.own2 (jE<|lS hy)<|iq<|lS hy) Jg) (λn e=>?_) hf he I T st P (λl ha=>?_) fin;.have(a,b,rfl):=e;show([a,b],rfl,rfl)
 .have(W,w0,turn):=h l ha;show(W,w0,λi m H w=>(turn i m H w).imp id λo_=>?_);have(go,N,hN,stp):=o_;show(go,N,hN,λx G y vs lv=>?_);match vs,lv with
  | [v0,v1],_=>show stp x G y v0 v1
def Ud(G:X.calm=t_)(t:nF scope X.env=pure cl)(u:∀y∈fX scope,y.2 ≠ n4)(l:scope.kind = o5)(n:∀y∈fX scope,y.2 = j8->scope.names.lookup y.1=aB j8)
  (L:scope.names.lookup x=aB j8) (M:scope.names.lookup x2=aB j8) (O:G5 X scope cl x x2 N fr) (hi:PI X (vb [fY x px,fY x2 px2] tk tp) iter E) (hf:∀C s H fp,PF (tF X scope cl N C s H fp) ifs tf) (P:∀C s H fp,PE (tF X scope cl N C s H fp) elt te)
  (R:autoParam (∀x,mV iter X.env x=pure x) d_._auto_1):PE X (o8 elt [(vb [fY x px,fY x2 px2] tk tp,iter,ifs,0)] scope pos)<|TK X.K E fr tf te:=by intro S s σ H Q I h;show mR rfl R t l n<|thn (hi S s σ H _ I h) λv s1 U=>thn U λY s2 h2=>?_;have(it,fp,tn,J,H2,e,I2,T,Et,f2,q2):=h2;subst e;show Ks G u l L M O hf P I2 T Et f2 q2 ?_;intro B C s' Hf m I' hm z q;show(m,hm,λh' sb=>(c6 B,Hf,?_,rfl,q));show I'.turned (λb o hb e=>fq (sb.2 b hb) e) z.1 z.2.1 z.2.2.2.1 z.2.2.2.2.1 z.2.2.2.2.2
end Mr
namespace Z
open PySem L2 Mr
def XT(c)body n S:sE c body (n+1) S=cq (c S) λx=>if x.1=t_ then cq (body x.2) λo=>match o with
   | gb l=>sE c body n l
   | .ct l=>sE c body n l
   | .bk l=>aB<|gb l
   | .rt a=>aB<|.rt a
  else aB<|gb x.2:=rfl
end Z
namespace Z
open PySem L2 Mr Xe
abbrev MH:=Str->List (Str×Int)->MS
noncomputable def kD:qk->D
 | aO i=>b7 i
 | iI x=>j3 x
def Xr{K}k:rN K H (kD k)<|kV k:=by cases k with
 |inl i=>show t8
 |inr x=>show .str
def NC(a:ME):MK:=λS=>cq (a S) λx=>(A2 x.1).map λkvs=>%[d8<|kvs.map λp=>b8<|kD p.1|x.2]
section
variable (S:AS)
def XO a:NC a S=cq (a S) λx=>(A2 x.1).map λkvs=>%[d8<|kvs.map λp=>b8<|kD p.1|x.2]:=rfl
end
abbrev Tp:=M6 Vj λi j=>b7<|i / j
def SM(K:Ζ)(te:TE)(m:ME):Prop:=∀⦃H₀ l Hf S σ H u d S'⦄,qv K H₀ l Hf S σ H u->m S=aB %[d|S']->∀Q:VK,
 (∀n t s v,qi Hf n->qv K H₀ l n S' σ t s->rN K n d v->Q v t)->te σ H Q
noncomputable def X5:AV->Option D
 | b8 d=>aB d
 |_=>n_
def NY(h:X5 a=aB d):a = b8 d:=by delta X5 at h;split at h <;> cases h;rfl
def BI(i:Nat)(b:ME):ME:=λS=>cq (qQ S i) λQ=>cq (b S) λy=>cq (intOf y.1) λz=>cq (qQ y.2 i) λavs=>xN (0<=z/\z<de avs/\de avs<=qS)<|(cq avs[cC z]? X5).map λd=>%[d|fb y.2 i<|aB<|d8<|ef avs<|cC z]
def Be(i:Nat):ME:=λS=>cq (qQ S i) λavs=>(cq avs[de avs-1]? X5).map λd=>%[d|fb S i<|aB<|d8<|l8 avs]
def Y0:FB K (rI Vj λi j=>c7<|i / j) Tp:=LN λQ Q Q=>t8
def ql.erase(r:ql K Hf H as vs Gs)k:ql K Hf H (ef as k) (ef vs k)<|ef Gs k:=by
 have(u,x,t):=r;show(by rw[fc,fc,u],by rw[fc,fc,x],λi b w G s l n=>?_);rw[List.getElem?_eraseIdx]at s l n;split at s;.rename_i q;rw[pZ q]at l n;show t i b w G s l n
 .rename_i q;rw[pW q]at l n;show t (i+1) b w G s l n
def NM{Gs:List Δ}(h:Gs[k]?=aB []):bt (ef Gs k)=bt Gs:=by induction Gs generalizing k with
 |nil=>cases h
 |cons g r l=>cases k with
  |zero=>simp at h;subst h;rfl
  |succ k=>simp only[cJ,fCq,fCq,l<|by show h]
def qv.lose(R:qv K H₀ l Hf S σ H t)(h:S[i]?=aB (aB<|d8 avs))(hk:avs[k]?=aB (b8 d)) :
  ∃p vs y F',σ[i]?=aB (aB<|c6 p)/\H p=aB (eH vs)/\de avs=de vs/\vs[k]?=aB y/\rN K Hf d y/\qv K H₀ l Hf (fb S i<|aB<|d8<|ef avs k) σ (rG H p<|eH<|ef vs k) (fb t i F'):=by
 have(p,vs,u,x,I,J,L,n,z,M,O):=R.ow h;have lk:=(gSq.mp hk).1;obtain⟨y,B⟩:∃y,vs[k]?=aB y:=(_,gEg<|by rw[←n.1];show lk);obtain⟨G,E⟩:∃G,u[k]?=aB G:=(_,gEg<|by rw[←n.2.1];show lk);have(s,P):=pj (n.2.2 k _ _ _ hk B E);subst s;have hf:=NM E;show(p,vs,y,p::bt (ef u k),x,J,n.1,B,P,R.turn x I ⋯ (vl pS L<|(n.keepUpd z).erase k) ?_ ?_);.rw[hf];show e9 au (z,M)
 .rw[hf];show O
def GV(hb:SR K tb b):SM K (Sl K "list" TY (va i)<|qR tb wx)<|BI i b:=by
 intro H₀ s Hf S σ H Fs d S' R e Q q;have(a0,J,e):=oBq.mp e;have(y,L,e):=oBq.mp e;have(z,t,e):=oBq.mp e;have(l,M,e):=oBq.mp e;obtain⟨⟨O,P,U⟩,e⟩|e:=qo e
 .have(d',u,e):=oMq.mp e;cases e;have(a,u,x):=oBq.mp u;have x:=NY x;subst x;have(p,X,Gs,G,_,Y,_):=R.ow<|pU J;show(c6 p,G,jE (rfl,X,l6 Y),hb R (d:=y.1) (S':=y.2) L _ λHf1 H1 Fs1 v t1 R1 I=>?_);have(p',B,w,F',n,hp,hl,hw,E,R2):=R1.lose (pU M) u;rw[G]at n;cases n;have hv:v = c7 z:=by
   have:y.1 = b7 z:=by revert t;delta intOf;split <;> intro t <;> cases t;assumption
   rw[this]at I;cases I;rfl
  subst hv;have hz:(de l:Int)<=16777216:=by have:de l<=16777216:=U;lia
  show(p,B,z,cC z,w,rfl,rfl,hp,by lia,by lia,?_,hw,q _ _ _ _ t1.sf R2 E);rw[←hl];delta oC;have n1:¬ z<0:=by simp +arith[*]
  have n2:(decide (0<=z) && decide (z<(de l:Int)))=t_:=by rw[d5 O,d5 P];rfl
  simp only[n1,if_false];show pZ n2
 .cases e
def ZT:SM K (Sl K "list" X3 (va i) wx)<|Be i:=by intro H₀ l Hf S σ H G d I R e Q q;have(z,B,e):=oBq.mp e;have(J,n,e):=oMq.mp e;cases e;have(a,n,s):=oBq.mp n;have s:=NY s;subst s;have(p,u,w,L,E,x,hl,hw,t,R2):=R.lose (pU B) n;show(c6 p,E,jE (rfl,u,l6 x),p,u,w,rfl,rfl,x,by rw[←hl];show hw,?_);rw[CI,hl,CI]at R2;show q _ _ _ _ (j4 _) R2 t
noncomputable def EB(i:Nat)(m:ME):MS:=λS=>(m S).map λx=>gb<|fb x.2 i<|aB<|b8 x.1
def Xj(h:SM K te m):SS K (C0 te<|sO i)<|EB i m:=by intro H₀ l Hf S σ H B o R e D hd;have(x,n,e):=oMq.mp e;cases e;show h R n _ λs E Fs1 v t u z=>?_;show hd _ _ _ _ t<|u.setD i z
def O9(i:Nat)(m:ME):MS:=λS=>cq (qQ S i) λQ=>cq (m S) λx=>cq (qQ x.2 i) λavs=>xN (de avs<qS)<|aB<|gb<|fb x.2 i<|aB<|d8<|avs++[b8 x.1]
def OO(hk:SM K te m):SS K (zL<|Sl K "list" yz (va i)<|qR te wx)<|O9 i m:=by
 intro H₀ t Hf S σ H Fs o R e D h;have(a0,O,e):=oBq.mp e;have(x,P,e):=oBq.mp e;have(Q,U,e):=oBq.mp e;obtain⟨hl,e⟩|e:=qo e
 .cases e;have(p,X,Gs,u,_,Y,_):=R.ow<|pU O;show(c6 p,u,jE (rfl,X,l6 Y),hk R P _ λHf1 H1 Fs1 v t1 L r1=>?_);have(p',z,Gs',l,B,E,G,n,s,I,J):=L.ow<|pU U;rw[u]at l;cases l;show(p,z,v,rfl,rfl,E,by rw[←n.1];show hl,h _ _ _ _ t1<|L.turn u B ⋯ (vl pS G<|(n.keepUpd s).snoc<|.sh r1) ?_ λq M=>?_);.rw[fAq,aN,aNq];show e9 au (s,I)
  .rw[fAq,aN,aNq]at M;show J q M
 .cases e
def ab5 d:X5 (b8 d)=aB d:=rfl
def Vd(S)i b:BI i b S=cq (qQ S i) λQ=>cq (b S) λy=>cq (intOf y.1) λz=>cq (qQ y.2 i) λavs=>xN (0<=z/\z<de avs/\de avs<=qS)<|(cq avs[cC z]? X5).map λd=>%[d|fb y.2 i<|aB<|d8<|ef avs<|cC z]:=rfl
def aat(S)i:Be i S=cq (qQ S i) λavs=>(cq avs[de avs-1]? X5).map λd=>%[d|fb S i<|aB<|d8<|l8 avs]:=rfl
def abS(S)i m:EB i m S=(m S).map λx=>gb<|fb x.2 i<|aB<|b8 x.1:=rfl
def abr(S)i m:O9 i m S=cq (qQ S i) λQ=>cq (m S) λx=>cq (qQ x.2 i) λavs=>xN (de avs<qS)<|aB<|gb<|fb x.2 i<|aB<|d8<|avs++[b8 x.1]:=rfl
def FO(x y:D):Option D:=match x with
 | lG _=>abf x y
 |_=>vd x y
def aaB:FB K (λx y H Q=>QQ K x y H Q∨X0 K x y H Q) FO:=by
 intro x y H Q s t d l n e q;delta FO at e;split at e;.show iq<|abN l n e q
 .show jE<|uC l n e q
def T8(ds)i:FO (lG ds) (b7 i)=atI ds i:=rfl
def qv.poke(R:qv K H₀ Hf₀ Hf S σ H Fs)(pn:Hf p=n_)(s:H₀ p=n_)(t:p∉bt Fs):qv K H₀ Hf₀ Hf S σ (rG H p o) Fs:=by
 show(R.len,R.lenF,λj a x=>?_,R.emp,R.nd,R.fresh,λb u e=>?_,λb u e=>?_,R.lim,R.sf);.have(w,G,B,n,q):=R.rep j a x;show(w,G,B,n,q.keep (j4 _) (λc l=>pK λe=>t ?_) λc l=>(q.owned c l).2);subst e;show qe n l
 .rw[pK λz=>by rw[z,pn]at e;cases e];show R.sub b u e
 .rw[pK λz=>by rw[z,s]at e;cases e];show R.fr b u e
def yY.stays(t:yY Hf H Fs l u n)(pn:Hf p=n_)(x:H p≠n_)(s:p∉bt Fs):l p=n_/\p∉bt n:=by
 show(?_,λm=>s<|t.own p m);by_cases h:l p=n_;.show h
 .show(t6 (t.gr p pn h) (λe=>absurd e x) λm=>absurd m s)
def FE(b:ME)(k:MK):MK:=λS=>cq (b S) λy=>cq (tx k y.2) λx=>(xo y.1).map λkey=>%[eT [%[key|oY x.1]]|x.2]
def Td(hb:SR K tb b)(hk:SK K te k):SK K (Zs [%[tb|te]])<|FE b k:=by
 intro H₀ Hf₀ Hf S σ H Fs av S' R e Q q;have(y,X,e):=oBq.mp e;have(x,L,e):=oBq.mp e;have(key,Y,e):=oMq.mp e;cases e;have t:SK K te<|tx k:=tc hk;intro p B;have(t0,R0,n1,M,n3):=R.new B;show hb R0 X _ λHf1 H1 Fs1 w E R1 r1=>?_;have O:rG H p (wm []) p=aB (wm []):=pS;have P:=E.sh p _ O;have(a1,a2):=E.stays n1 (by rw[O];simp) n3;show t R1 L _ λG H2 Fs2 v F I R2 U o2=>?_;have p2:=I.sh p _ P;have(b1,b2):=I.stays a1 (by rw[P];simp) a2;obtain⟨x1,n⟩:∃d,x.1 = b8 d:=by have(w,_,e):=oMq.mp L;rw[←e];show(_,rfl)
 rw[n]at U;have rv:=(pj U).2;have hw:=zk Y r1;subst hw;show(p2,[%[key|v]],rfl,by simp,?_);have l:=lr (lr t0 E) I;have hs:qi H<|rG H2 p<|wm<|DQ [] [%[key|v]]:=λc u e=>by rw[pK λz=>by rw[z,B]at e;cases e];show l.sh c u e
 show q G _ Fs2 (c6 p) [p] (l.sf,hs,l.own,l.gr) (R2.poke b1 M b2) (.owd pS b1 (rfl,λi d u s J=>?_)) (by simp,λc h=>by rw[mSq.mp h];show M,λc h=>by rw[mSq.mp h];show b2,λc h=>by rw[mSq.mp h];show jE B);match i,s,J with
 |0,s,J=>cases s;cases J;rw[n];show rv
 |i+1,s,_=>simp at s
def EZ:SM K (aa4 K "list" X3<|va i)<|Be i:=ZT
noncomputable def Dg:List (qk×D)->Option Ϝ
 | []=>aB []
 | %[aO i|_]::r=>(Dg r).map (i :: ·)
 |_=>n_
theorem Ki:∀{kvs}{ns},Dg kvs=aB ns->kvs.map (·.1)=ns.map aO
 | [],ns,h=>by cases h;rfl
 | %[aO i|d]::r,ns,h=>by have(s,l,n):=oMq.mp<|h;subst n;rw[aq,aq,Ki l]
 | %[iI _|_]::_,_,h=>by cases h
def GA(a:ME):MK:=λS=>cq (a S) λx=>match x.1 with
 | m6 kvs=>(Dg kvs).map λns=>%[d8<|(vH ns).map λn=>b8<|b7 n|x.2]
 |_=>n_
def T2(hb:SR K te b):SK K (VN (λxs H Q=>∃(a:Addr) (kvs:List (qk×V)) (ns:Ϝ),xs=[c6 a]/\H a=aB (wm kvs)/\kvs.map (·.1)=ns.map aO/\∀p,H p=n_->Q (c6 p) (rG H p<|eH<|(vH ns).map c7))<|qR te wx)<|GA b:=by intro H₀ Hf₀ Hf S σ H Fs U X R e Q q;have(x,t,e):=oBq.mp e;have(u,Y):=x;cases u with
 |dict kvs=>have(ns,z,e):=oMq.mp<|e;cases e;show hb R t _ λB H1 Fs1 w l n E=>?_;have(G,I,rfl,J,L):=E.dict_inv;show(G,I,ns,rfl,J,by rw[←L.1];show Ki z,λp s=>?_);have(M,O,P,n2,n3):=n.new s;rw[Ez]at q;show q _ _ _ (c6 p) [p] (lr l M) O (y9 pS P<|vy _)<|(zT.one n s).back l
 |_=>cases e
def Yr(S)b k:FE b k S=cq (b S) λy=>cq (tx k y.2) λx=>(xo y.1).map λkey=>%[eT [%[key|oY x.1]]|x.2]:=rfl
def Y4:D->AS->Option (AV×AS)
 | m6 kvs,S=>(Dg kvs).map λns=>%[d8<|(vH ns).map λn=>b8<|b7 n|S]
 |_,_=>n_
def XB(S)a:GA a S=cq (a S) λx=>Y4 x.1 x.2:=by delta GA;congr 1;funext x;have(l,n):=x;cases l <;> rfl
def abe(kvs)S:Y4 (m6 kvs) S=(Dg kvs).map λns=>%[d8<|(vH ns).map λn=>b8<|b7 n|S]:=rfl
theorem D8{α:Type}f(g:α->D):∀l:List α,Dg (l.map λx=>%[aO<|f x|g x])=aB (l.map f)
 | []=>rfl
 |x::l=>by change(Dg<|l.map λx=>%[aO<|f x|g x]).map (f x :: ·)=_;rw[D8 f g l];rfl
noncomputable def Ml:D->Option V
 | j0=>aB nc
 | k9 b=>aB<|pY b
 | b7 i=>aB<|c7 i
 | j3 s=>aB<|wy s
 |_=>n_
def Ap:List D->Option (List V)
 | []=>aB []
 |d::ds=>cq (Ml d) λv=>(Ap ds).map (v :: ·)
noncomputable def aag:D->Option (List D)
 | ew ds=>aB ds
 | lG ds=>aB ds
 |_=>n_
def yp(neg:Bool)(x y:D):Option D:=cq (Ml x) λv=>cq (aag y) λds=>(Ap ds).map λvs=>k9<|if neg then !ZQ v vs else ZQ v vs
def Ed(e:Ml d=aB v)(r:rN K H d w):w=v/\yI v=t_:=by cases d <;> first|(cases e;cases r;show(rfl,rfl))|cases e
theorem yM:∀{ds}{vs ws},Ap ds=aB vs->qD K H ds ws->ws=vs/\vs.all yI=t_
 | [],vs,ws,e,r=>by cases e;show(n8 r,rfl)
 |d::ds,vs,ws,e,r=>by have(v,l,e):=oBq.mp e;have(B,n,rfl):=oMq.mp e;have(w,s,rfl,t,u):=k8 r;have(rfl,x):=Ed l t;have(rfl,z):=yM n u;show(rfl,by rw[gQ,x,z];rfl)
def Ga neg:FB K (rIn K neg)<|yp neg:=by intro x y H Q M G d I z e q;have(v,J,e):=oBq.mp e;have(O,l,e):=oBq.mp e;have(P,B,e):=oMq.mp e;subst e;have(rfl,E):=Ed J I;cases G with
 |list L=>cases l;have(p,n,rfl,s,t):=ro z;have(rfl,u):=yM B t;show(p,n,rfl,jE<|l6 s,E,u,q _ .bl)
 |tup L=>cases l;have(p,n,rfl,s,t):=z.tup_inv;have(rfl,u):=yM B t;show(p,n,rfl,iq<|aA1 s,E,u,q _ .bl)
 |_=>cases l
def VX(ha:SR K te a):SK K (VN (λxs H Q=>∃a kvs,xs=[c6 a]/\H a=aB (wm kvs)/\∀l,H l=n_->Q (c6 l) (rG H l<|eH<|kvs.map λp=>kV p.1))<|qR te wx)<|NC a:=by
 intro H₀ u Hf S σ H Fs av S' R e Q q;have(z,I,e):=oBq.mp e;have(n,t,e):=oMq.mp e;cases e;show ha R (d:=z.1) (S':=z.2) I _ λJ H1 Fs1 v B E G=>?_;have L:z.1 = m6 n:=by
  cases M:z.1 <;> rw[M]at t <;> simp only[A2]at t;all_goals first|(exfalso;simp at t;done)|skip
  cases t;rfl
 rw[L]at G;have(p,kvs,rfl,O,g2):=G.dict_inv;show(p,kvs,rfl,O,λl hl=>?_);have(P,U,X,n5,n6):=E.new (o:=eH<|kvs.map λp=>kV p.1) hl;have Y:n.map (λp:qk×D=>b8<|kD p.1)=(n.map λp=>kD p.1).map b8:=by rw[mPq];rfl
 rw[Y]at q;show q _ _ _ (c6 l) [l] (lr B P) U (y9 pS X ?_)<|(zT.one E hl).back B;have e4:kvs.map (λp=>kV p.1)=(n.map λp=>p.1).map kV:=by rw[g2.1,mPq];rfl
 have e5:(n.map λp:qk×D=>kD p.1)=(n.map λp=>p.1).map kD:=by rw[mPq];rfl
 rw[e4,e5];show(by simp,λi d v s x=>?_);rw[gMq]at s x;cases hk:(n.map λp:qk×D=>p.1)[i]? with
 |none=>rw[hk]at s;cases s
 |some k=>rw[hk]at s x;cases s;cases x;show Xr k
def Kr(ns:Ϝ):Ap (ns.map b7)=aB (ns.map c7):=by induction ns with
 |nil=>rfl
 |cons n ns l=>rw[aq,Ap,l];rfl
def UV i(ns:Ϝ):ZQ (c7 i) (ns.map c7)=decide (i∈ns):=by delta ZQ;induction ns with
 |nil=>rfl
 |cons n ns l=>
  rw[aq,eU,l];change(n == i || decide (i∈ns))=_;by_cases h:i=n;.subst h;simp
  .have s:¬ n=i:=λz=>h<|fx z;simp[h,s]
def Na(neg)i(ns:Ϝ):yp neg (b7 i) (ew<|ns.map b7)=aB (k9<|if neg then !decide (i∈ns)else decide<|i∈ns):=by change(Ap<|ns.map b7).map _=_;rw[Kr,dt,UV]
noncomputable def Aa(l:MT)(te:MK)(cap:AS):List (D×D)->Option (List AV)
 | []=>aB []
 |d::ds=>cq (l<|aB (b8 d.1)::aB (b8 d.2)::cap) λb=>if b.1=t_ then cq (te b.2) λa=>(Aa l te cap ds).map (a.1 :: ·)else Aa l te cap ds
noncomputable def B5:Nat->List D->List (D×D)
 |_,[]=>[]
 |n,d::ds=>%[b7 (n:Int)|d]::B5 (n+1) ds
def ND(k:MK)(fr:Θ)(n:MT)(te:MK):MK:=λS=>cq (tx k S) λy=>cq (rP<|oY y.1) λds=>cq (fzAll fr y.2) λl=>cq (DR l fr) λcap=>xN (de ds<=qS)<|(Aa n te cap<|B5 0 ds).map λavs=>%[d8 avs|l]
theorem DS:∀ds n,de (B5 n ds)=de ds
 | [],_=>rfl
 |d::ds,n=>by simp only[B5,lCq,DS ds<|n+1,lCq]
theorem DX:∀{ds}{n i:Nat}{d},ds[i]?=aB d->(B5 n ds)[i]?=aB %[b7 ((n+i:Nat):Int)|d]
 | [],_,_,_,h=>by simp at h
 |x::ds,n,0,d,h=>by cases h;rfl
 |x::ds,n,i+1,d,h=>by rw[B5,ja,DX (n:=n+1)<|by show h,show n+1+i=n+(i+1) by rfl']
def NB(R:qv K H₀ Hf₀ Hf S σ H Fs)(e:DR S fr=aB cap)(z:rN K Hf d x)(s:rN K Hf t n) :
  qv K H₀ Hf₀ Hf (aB (b8 d)::aB (b8 t)::cap) (aB x::aB n::slots σ fr) H<|ao (de cap+2) []:=by
 have(B,E):=G2 R e;have fl:=uP<|de cap+2;show(by simp[slots,B],by simp,λi G l=>?_,λi l=>?_,by rw[fl];show bA,λp u=>(by rw[fl]at u;cases u),R.sub,R.fr,R.lim,R.sf);.match i,l with
  |0,l=>cases l;show(x,[],rfl,by rfl,.sh z)
  |1,l=>cases l;show(n,[],rfl,by rfl,.sh s)
  |k+2,l=>
   have hk:=(gSq.mp<|by simpa using l).1;have(J,v,rfl,I,r):=E k G<|by show l
   show(v,[],by show I,by rw[bK,pZ ∅],.sh r)
 .rw[bK];have hi:=(gSq.mp l).1;rw[pZ<|by show hi]
def NF{J:It}{Q:VK}(hf:Kf K tf mf)(he:SK K te me)
  (R1:qv K H₀ s Hf1 I σ z Fs1) (ec:DR I fr=aB cap) (hl:de ds<=qS) (e:Aa mf me cap ds=aB avs)
  (hgo:∀i H,qi Hf1 H->i<de ds->J.go i H) (hst:∀H,qi Hf1 H->J.stop (de ds) H) (hy:∀i H x n,qi Hf1 H->i<de ds->J.yld i H x n->∃a v1 v2 d,x = c6 a/\Hh K n a [v1,v2]/\ds[i]?=aB d/\rN K Hf1 d.1 v1/\rN K Hf1 d.2 v2/\(n=H∨∃o,H a=n_/\n=rG H a o))
  (q:∀E n v F,yY Hf1 z Fs1 E n Fs1->qv K H₀ s E I σ n Fs1->qp K E n (d8 avs) v F->zT H₀ z Fs1 Fs1 F->Q v n) :
  ∀l,z l=n_->∃W:Nat->Nat->Hp->Prop,(∃m,W 0 m<|rG z l<|eH [])/\∀i m H,W i m H ->
   (J.stop i H/\Q (c6 l) H) ∨
   (J.go i H/\∃N:Hp->Prop,(∀n,N n->∃m',m'<m/\W (i+1) m' n)/\∀x n,J.yld i H x n->∀v0 v1,g2 K x (v0::v1::slots σ fr) n λG z=>(∃a b,G=a::b::slots σ fr)/\tf G z λb H2=>if b=t_ then te G H2 λy H3=>∃ys,H3 l=aB (eH ys)/\de ys<sizeLine/\N (rG H3 l<|eH<|ys++[y])else N H2):=by
 intro l u;have(t0,R0,n1,n2,n3):=R1.new u;let P:=λi H=>∃Hf L M U rest,qv K H₀ s Hf I σ H Fs1/\yY Hf1 z Fs1 Hf H Fs1/\H l=aB (eH M)/\Hf l=n_/\ql K Hf H L M U/\zT H₀ z Fs1 Fs1 (l::bt U)/\de L<=i /\
  Aa mf me cap (ds.drop i)=aB rest/\avs=L++rest;show(λi m H=>m=de ds-i/\i<=de ds/\P i H,(de ds,by simp,aY _,Hf1,[],[],[],avs,R0,t0,pS,n1,.nil,zT.one R1 u,aY _,e,rfl),?_);rintro i m H ⟨rfl,hi,Hf,L,M,U,rest,R,t,ha,O,S,ow,la,X,ea⟩;have hs:=eW t.sf R.sub;by_cases B:i<de ds
 .show iq (hgo i H hs B,P<|i+1,λn p=>(de ds-(i+1),by omega,rfl,B,p),λx n y=>?_);intro w0 w1;have(a0,u1,Y,d,rfl,hT,hd,rx1,rx2,hH):=hy i H x n hs B y;rw[az B,(gSq.mp hd).2]at X;show(a0,[u1,Y],rfl,hT,rfl,u1,[Y],rfl,Y,[],rfl,rfl,(aB u1,aB Y,rfl),?_);obtain⟨R,t,ha,S⟩:qv K H₀ s Hf I σ n Fs1/\yY Hf1 z Fs1 Hf n Fs1/\n l=aB (eH M)/\ql K Hf n L M U:=by
   obtain rfl|⟨o,hn,rfl⟩:=hH;.show(R,t,ha,S)
   .have(tn,Rn,m1,m2,m3):=R.new hn;show(Rn,lr t tn,tn.sh _ _ ha,S.stp (λq hq=>ow.out q<|mCo _ hq) tn)
  show HF hf he R t ha O S ow la ∅ ea (NB R ec (y0 rx1 t.sf)<|y0 rx2 t.sf) X u n2 n3 λa b c d e f g h i=>(_,_,_,_,_,a,b,c,d,e,f,g,h,i)
 .have e0:i=de ds:=by rfl'
  subst e0;rw[bT]at X;cases X;rw[aNq]at ea;subst ea;show jE (hst H hs,q Hf H (c6 l) _ t R (vl ha O S) ow)
def U2(hk:SK K tl k)(hf:Kf K tf mf)(U:SK K te me):SK K (TK K (UQ K<|qR tl wx) fr tf te)<|ND k fr mf me:=by
 intro H₀ E Hf S σ H Fs av S' R e Q q;have(z,J,e):=oBq.mp e;have(X,L,e):=oBq.mp e;have(S2,Y,e):=oBq.mp e;have(cap,e4,e):=oBq.mp e;obtain⟨hl,e⟩|e:=qo e;.have(avs,e5,e):=oMq.mp e;cases e;have G:SK K tl<|tx k:=tc hk;show G R (a:=z.1) (S':=z.2) J _ λHf1 H1 Fs1 v F M R1 O o1=>?_;have(d,hd):=vg (te:=tl) J;rw[hd]at O;rw[hd,uc]at L;have(Hf2,Fs2,I,R2):=R1.fzAll Y;have(a,u,rfl,B,g2):=uX L<|y0 (pj O).2 I.sf;have l:=DS X 0;show(a,rfl,(u,R2.sub.seq B),NF (K:=K) hf U R2 e4 (by rw[l];show hl) e5 (λi H s hi=>(u,u[i]'(g2.1 ▸ l ▸ hi),s.seq B,gEg<|g2.1 ▸ l ▸ hi)) (λH s=>(u,s.seq B,fM<|by rw[l];show fx g2.1)) (λi H x H' s hi y=>?_) λHf' H' v F t R' r o=>q _ _ _ v F (lr (lr M I) t) R' r<|o.back<|lr M I);have(T,x',hT,rfl,rfl,hx):=y;have(di,h1,h2):=g2.get'<|hx u<|s.seq B;have P:=DX (n:=0) h1;rw[bD]at P;show(T,c7 i,x',_,rfl,aA1 pS,P,t8,h2,iq (_,hT,rfl))
 .cases e
def Xn(S)k fr l te:ND k fr l te S=cq (tx k S) λy=>cq (rP<|oY y.1) λds=>cq (fzAll fr y.2) λn=>cq (DR n fr) λcap=>xN (de ds<=qS)<|(Aa l te cap<|B5 0 ds).map λavs=>%[d8 avs|n]:=rfl
theorem IG{cap:AS}g:∀{ds},(∀d∈ds,∃S',te (aB (b8 d.1)::aB (b8 d.2)::cap)=aB %[g d|S'])->Aa sV te cap ds=aB (ds.map g)
 | [],_=>rfl
 |d::ds,h=>by have(S',e):=h d ⋯;change(cq (sV _) _)=_;rw[show sV (aB (b8 d.1)::aB (b8 d.2)::cap)=aB %[t_|aB (b8 d.1)::aB (b8 d.2)::cap]from rfl,ee,pZ rfl,e,ee,IG g λx l=>h x<|by simp[l]];rfl
noncomputable def zz:D->D->Option D
 | j0,j0=>aB<|k9 f_
 | b7 _,j0=>aB<|k9 t_
 | j3 _,j0=>aB<|k9 t_
 | k9 _,j0=>aB<|k9 t_
 | ew _,j0=>aB<|k9 t_
 | lG _,j0=>aB<|k9 t_
 | m6 _,j0=>aB<|k9 t_
 |_,_=>n_
def Yt:FB K (λx y H Q=>y = nc/\Q (pY<|!decide (x = nc)) H) zz:=by
 intro x y H Q t u d l n e q;unfold zz at e;split at e;all_goals first|(cases e;done)|skip
 .cases e;cases l;cases n;show(rfl,q _<|by show rN.bl)
 .cases e;cases l;cases n;show(rfl,q _<|by show rN.bl)
 .cases e;cases l;cases n;show(rfl,q _<|by show rN.bl)
 .cases e;cases l;cases n;show(rfl,q _<|by show rN.bl)
 .cases e;cases n;have(p,s,rfl,_):=ro l;show(rfl,q _<|by show rN.bl)
 .cases e;cases n;have(p,s,rfl,_):=l.tup_inv;show(rfl,q _<|by show rN.bl)
 .cases e;cases n;have(p,s,rfl,_):=l.dict_inv;show(rfl,q _<|by show rN.bl)
def RC:zz j0 j0=aB (k9 f_):=rfl
def Sg i:zz (b7 i) j0=aB (k9 t_):=rfl
theorem Hj.same(s:qi H H'):∀{path}{v w},Hj H v path w->Hj H' v path w
 | [],v,w,h=>h
 |j::js,v,w,⟨p,vs,u,h1,h2,h3,h4⟩=>(p,vs,u,h1,s _ _ h2,h3,Hj.same s h4)
theorem Hj.one:∀{path}{v w l},Hj H v path w->Hj H v path l->w=l
 | [],v,w,l,h,t=>fq (fx h) t
 |j::js,v,w,l,hz,hy=>by have(p,J,u,x,z,B,E):=hz;have(L,G,M,n,g2,s,I):=hy;rw[x]at n;cases n;rw[z]at g2;cases g2;rw[B]at s;cases s;show E.one I
theorem Hj.snoc:∀{path}{v}{p}{vs}{n}{u},Hj H v path (c6 p)->H p=aB (eH vs)->vs[n]?=aB u->Hj H v (path++[n]) u
 | [],v,p,vs,n,u,h,l,s=>(p,vs,u,h,l,s,rfl)
 |j::js,v,p,vs,n,u,⟨p',vs',u',g1,g2,g3,g4⟩,l,s=>(p',vs',u',g1,g2,g3,g4.snoc l s)
theorem Hj.kept:∀{path}{av}{v w}{F}{as},qp K Hf H av v F->qW av path=aB as->Hj H v path w->(∀q∈F,H' q=H q)->Hj H' v path w
 | [],av,v,w,F,as,_,_,h,_=>h
 |j::js,av,v,w,F,as,r,e,hz,hk=>by have(p,I,u,l,n,s,J):=hz;cases av with
  |ow L=>have(R,M,U,t,x,z,X,B):=r.ow_inv;rw[l]at t;cases t;rw[n]at z;cases z;have(a,E,e):=oBq.mp<|e;have O:=(gSq.mp E).1;have G:=gEg<|B.2.1 ▸ O;have P:=B.2.2 j a u _ E s G;show(p,I,u,l,by rw[hk p<|by rw[x];simp];show n,s,J.kept P e λq Q=>hk q ?_);rw[x];show mCo _<|qe G Q
  |_=>cases e
noncomputable def frm(H₀ H:Hp)(F:Δ):Hp:=λb=>if b∈F then H b else H₀ b
def Jz(h:b∈F):frm H₀ H F b=H b:=pZ h
def BL(h:b∉F):frm H₀ H F b=H₀ b:=pW h
def qv.frame(R:qv K H₀ Hf₀ Hf S σ H Fs)(n:Fs[i]?=aB F):qv K (frm H₀ H F) Hf₀ Hf (fb S i n_) σ H<|fb Fs i []:=by
 have l:=R.kill i;have x:∀q∈F,q∈bt Fs:=λq B=>qe n B;show(l.len,l.lenF,l.rep,l.emp,l.nd,λp s=>?_,l.sub,λb u e=>?_,λb E t=>?_,l.sf);.have hn:=λz=>uU R.nd n z s;rw[BL hn];show l.fresh p s
 .by_cases hb:b∈F;.rw[Jz hb]at e;show e
  .rw[BL hb]at e;show R.fr b u e
 .by_cases hb:b∈F;.show(R.mem<|x b hb).2
  .rw[BL hb]at t;show R.lim b E t
def BD{α:Type}{l:List α}{a}(h:l[i]?=aB a):fb l i a=l:=by have(hk,n):=gSq.mp h;rw[←n];show gX hk
def qv.unframe(R:qv K H₀ Hf₀ Hf S σ H Fs)(t:Fs[i]?=aB F)(r:qp K Hf H av v F)(nd:c8 F)(s:∀q∈F,H₀ q=n_)
  (l:qv K (frm H₀ H F) Hf₀ Hf' S' σ' H' Fs') (x:S'[i]?=aB n_) (s1:σ'[i]?=aB (aB v)) (sf:qi Hf Hf') :
  (∀q∈F,H' q=H q)/\qp K Hf' H' av v F/\qv K H₀ Hf₀ Hf' (fb S' i<|aB av) σ' H' (fb Fs' i F):=by
 have hk:∀q∈F,H' q=H q:=λq n=>by have hn:=(R.mem<|qe t n).1;cases E:H q with
  |none=>show absurd E hn
  |some u=>show l.fr q u<|by rw[Jz n];show E
 have hf:∀q∈F,Hf' q=n_:=λq n=>by
  have B:=R.mem<|qe t n;show l.lim q ?_<|by rw[Jz n];show B.1
  cases J:Hf₀ q with
  |none=>rfl
  |some u=>rw[R.sf q u J]at B;show absurd B.2 ⋯
 have G:=r.keep sf hk hf;show(hk,G,?_);have L:qv K H₀ Hf₀ Hf' (fb S' i n_) σ' H'<|fb Fs' i []:=by
  rw[BD x,BD<|l.emp i x];show(l.len,l.lenF,l.rep,l.emp,l.nd,λp M=>?_,l.sub,λb u e=>?_,λb O I=>?_,l.sf)
  .have:=l.fresh p M;by_cases hb:p∈F;.show s p hb
   .rwa [BL hb]at this
  .show l.fr b u ?_;rw[BL λz=>by rw[s b z]at e;cases e];show e
  .show l.lim b O ?_;rw[BL λz=>I<|s b z];show I
 show L.again (F:=F) s1 G nd λq n=>(s q n,λm=>?_);rw[BD<|l.emp i x]at m;have:=l.fresh q m;rw[Jz n]at this;show(R.mem<|qe t n).1 this
abbrev MP:=AS->Option (List Nat×AS)
def RI(i:Nat):MP:=λS=>(qQ S i).map λQ=>%[[]|S]
def pIx(i:Nat)(l:MP)(b:ME):MP:=λS=>cq (l S) λx=>cq (b x.2) λy=>cq (intOf y.1) λj=>cq (qQ y.2 i) λavs=>cq (qW (d8 avs) x.1) λas=>(Kd (de as) j).map λn=>%[x.1++[n]|y.2]
def SPh(K:Ζ)(i:Nat)(te:TE)(x:MP):Prop:=∀⦃H₀ l Hf⦄⦃S⦄⦃σ⦄⦃H⦄⦃u⦄⦃path:Θ⦄⦃S'⦄,qv K H₀ l Hf S σ H u->x S=aB %[path|S']->∀Q:VK,
 (∀n t s v w,yY Hf H u n t s->qv K H₀ l n S' σ t s->σ[i]?=aB (aB v)->Hj t v path w->Q w t)->te σ H Q
def Pq i:SPh K i (va i)<|RI i:=by intro H₀ l Hf S σ H u path x R e Q q;have(s,t,e):=oMq.mp e;cases e;have(p,z,B,n,_):=R.ow<|pU t;show(_,n,q _ _ _ _ _ .refl R n rfl)
def DL{i:Nat}(R:qv K H₀ l Hf S σ H s)(e:S[i]?=aB (aB<|d8 avs))(s1:σ[i]?=aB (aB v))(t:qW (d8 avs) path=aB as)(h:Hj H v path w) :
  ∃p vs,w = c6 p/\H p=aB (eH vs)/\de vs=de as:=by have(z,F,n,B,r,nd,_):=R.move e;rw[s1]at n;cases n;have(p,vs,E,u,g2,G,x,_):=r.path nd t;show(p,vs,h.one u,g2,fx x.1)
def UY(U:SPh K i te B)(hb:SR K tb b):SPh K i (Ux (QQ K) te tb)<|pIx i B b:=by
 intro H₀ l Hf S σ H Fs path S' R e Q q;have(x,X,e):=oBq.mp e;have(y,Y,e):=oBq.mp e;have(j,s,e):=oBq.mp e;have(avs,e4,e):=oBq.mp e;have(as,e5,e):=oBq.mp e;have(n,E,e):=oMq.mp e;cases e;show U R X _ λHf1 H1 Fs1 v w t1 R1 G a1=>hb R1 Y _ λHf2 H2 Fs2 u I R2 J=>?_;have hy:y.1 = b7 j:=by cases hx:y.1 <;> rw[hx]at s <;> first|(cases s;rfl)|cases s
 rw[hy]at J;cases J;have L:=a1.same I.sh;have(p,t,rfl,M,O):=DL R2 (pU e4) G e5 L;have(_,hn,_):=Jd E;have z:n<de t:=by rw[O];show hn
 obtain⟨u,P⟩:∃u,t[n]?=aB u:=(_,gEg z);show(p,t,j,u,rfl,rfl,l6 M,?_,q _ _ _ v _ (lr t1 I) R2 G<|L.snoc M P);unfold atI;rw[O,E];show P
def qv.grow(R:qv K H₀ l Hf S σ H I)(e:S[i]?=aB (aB<|d8 avs))(s1:σ[i]?=aB (aB v))(X:qW (d8 avs) path=aB as)(h:Hj H v path<|c6 p) :
  ∃vs,H p=aB (eH vs)/\de as=de vs/\∀bs ws Gs,ql K Hf H bs ws Gs->c8 (bt Gs)->(∀q∈bt Gs,H₀ q=n_/\q∉bt I) ->
   ∃x,qv K H₀ l Hf (fb S i<|aB<|putAt (d8 avs) path<|as++bs) σ (rG H p<|eH<|vs++ws) x:=by
 have(v',F,J,t,r,nd,L,_):=R.move e;rw[s1]at J;cases J;have(p',vs,B,Y,g2,g3,M,O,P,E,Q,g8):=r.path nd X;have G:=h.one Y;cases G;show(vs,g2,M.1,λbs ws Gs rb nG s=>?_);have U:=λm=>(s p m).2<|qe t O;have n:bt (B++Gs)=bt B++bt Gs:=fAq;have(F',k1,k2,k3):=g8 (as++bs) (vs++ws) (B++Gs) ((M.keepUpd P).append<|rb.keepUpd U) (by rw[n];show e9 au (λm=>t6 (mAq.mp m) P U,e9 nAq (E,nG,λa ha b hb z=>(s b hb).2<|qe t<|Q b<|z ▸ ha))) (λq u=>by rw[n]at u;show(mAq.mp u).imp id λm z=>(s q m).2<|qe t z);show(_,R.turnAny s1 t O k1 k2 λq u=>?_);obtain z|z:=k3 q u;.show L q z
 .rw[n]at z;obtain z|z:=mAq.mp z;.show L q<|Q q z
  .show((s q z).1,λm=>(s q z).2<|qN m)
def Als(x i:Nat)(path:Θ)(S:AS)(σ:St)(H:Hp):Prop:=∃v p avs as,S[i]?=aB (aB<|d8 avs)/\qW (d8 avs) path=aB as/\σ[x]?=aB (aB<|c6 p)/\σ[i]?=aB (aB v)/\Hj H v path (c6 p)
def Ni(K:Ζ)(x i:Nat)(t:TS)(m:Θ->MS):Prop:=∀⦃path H₀ l Hf S σ H n o⦄,qv K H₀ l Hf S σ H n->Als x i path S σ H->m path S=aB o->∀D:AU,Iv K H₀ l Hf D o->t D σ H
def WH(x i:Nat)(l:MP)(m:Θ->MS):MS:=λS=>cq (l S) λy=>cq (qQ y.2 i) λavs=>cq (qW (d8 avs) y.1) λQ=>xN (x≠i/\x<de y.2)<|m y.1<|fb y.2 x n_
def aaK(L:SPh K i te B)(M:Ni K x i t m):SS K (CG (C0 te<|sO x) t)<|WH x i B m:=by
 intro H₀ n Hf S σ H X o R e D h;have(y,O,e):=oBq.mp e;have(s,E,e):=oBq.mp e;have(P,G,e):=oBq.mp e;obtain⟨⟨l,u⟩,e⟩|e:=qo e
 .show L R (path:=y.1) (S':=y.2) O _ λQ Y Fs1 v w U z I J=>?_;have(p,vs,rfl,h1,h2):=DL z (pU E) I G J;have R2:=(z.kill x).any<|c6 p;show M R2 (v,p,s,P,?_,G,?_,?_,J) e D<|h.mono U.sf;.rw[ar l];show pU E
  .show aA<|by rw[←z.len];show u
  .rw[ar l];show I
 .cases e
def ZF(h:SS K t m):Ni K x i t<|λQ=>m:=λA B C E F G I J L R Q e D o=>h R e D o
def GC(ha:Ni K x i t a)(hb:SS K u b):Ni K x i (CG t u)<|λpath=>pd (a path) b:=by intro path H₀ l Hf S σ H I o R A e D h;have(y,n,e):=oBq.mp e;show ha R A n _ ?_;cases y with
 |nx J=>show λz B L E s G=>hb G e D<|h.mono s
 |rt a=>cases e;show h
 |bk a=>cases e;show h
 |ct a=>cases e;show h
def Gk(i:Nat)(c:MT)(a b:Θ->MS):Θ->MS:=λpath S=>cq (c S) λy=>cq (qQ y.2 i) λavs=>cq (qW (d8 avs) path) λQ=>if y.1=t_ then a path y.2 else b path y.2
def Zz(I:Kf K c m)(ha:Ni K x i t a)(hb:Ni K x i u b):Ni K x i (RD c t u)<|Gk i m a b:=by
 intro path H₀ n Hf S σ H Y o R A e D h;have(y,J,e):=oBq.mp e;have(s,L,e):=oBq.mp e;have(M,O,e):=oBq.mp e;have(v,p,_,_,_,_,P,Q,z):=A;show I R (b:=y.1) (S':=y.2) J _ λU X Fs1 B E=>?_;have G:Als x i path y.2 σ X:=(v,p,s,M,pU L,O,P,Q,z.same B.sh);split at e;.rename_i l;rw[l];show QV<|ha E G e D<|h.mono B.sf
 .rename_i l;rw[fE]at l;rw[l];show N2<|hb E G e D<|h.mono B.sf
def P7(i:Nat)(k:MK):Θ->MS:=λpath S=>cq (k S) λy=>cq (qQ y.2 i) λavs=>cq (qW (d8 avs) path) λas=>xN (de as<qS)<|aB<|gb<|fb y.2 i<|aB<|putAt (d8 avs) path<|as++[y.1]
def ZX(hk:SK K te k):Ni K x i (zL<|Sl K "list" yz (va x)<|qR te wx)<|P7 i k:=by
 intro path H₀ n Hf S σ H Fs o R A e D h;have(y,G,e):=oBq.mp e;have(I,J,e):=oBq.mp e;have(as,L,e):=oBq.mp e;obtain⟨hl,e⟩|e:=qo e
 .cases e;have(v,p,a0,n0,M,O,P,B,l):=A;have(p',Q,U,X,h2):=DL R M B O l;cases U;show(c6 p,P,jE (rfl,Q,l6 X),hk R (a:=y.1) (S':=y.2) G _ λY H2 Fs2 u F E R2 r2 s=>?_);have(t,g1,g2,g3):=R2.grow (pU J) B L<|l.same E.sh;have(Fs',R3):=g3 [y.1] [u] [F] (ql.nil.snoc r2) (by rw[aN];show s.nd)<|λq z=>by rw[aN]at z;show(s.fr q z,s.out q z)
  show(p,t,u,rfl,rfl,g1,by rw[Jl,←g2];show hl,h _ _ _ _ E.sf R3)
 .cases e
def JC(i:Nat)(l:ME):Θ->MS:=λpath S=>cq (qQ S i) λavs=>cq (qW (d8 avs) path) λas=>cq (l<|fb S i n_) λy=>xN (y.2[i]?=aB n_/\de as<qS)<|aB<|gb<|fb y.2 i<|aB<|putAt (d8 avs) path<|as++[b8 y.1]
def WA(hk:SM K te J):Ni K x i (zL<|Sl K "list" yz (va x)<|qR te wx)<|JC i J:=by
 intro path H₀ z Hf S σ H Fs o R A e D h;have(l,Q,e):=oBq.mp e;have(as,B,e):=oBq.mp e;have(y,U,e):=oBq.mp e;obtain⟨⟨hn,hl⟩,e⟩|e:=qo e
 .cases e;have(v,p,a0,n0,_,_,X,t,n):=A;have s:=pU Q;have(p',Y,hp,h1,h2):=DL R s t B n;cases hp;have(v',F,L,M,r,nd,oo,_):=R.move s;rw[t]at L;cases L;show(c6 p,X,jE (rfl,Y,l6 h1),hk (R.frame M) (d:=y.1) (S':=y.2) U _ λHf2 H2 Fs2 u O R2 r2=>?_);have(k1,k2,R3):=R.unframe M r nd (λq E=>(oo q E).1) R2 hn t O;have G:i<de y.2:=(gSq.mp hn).1;have e5:(fb y.2 i<|aB<|d8 l)[i]?=aB (aB<|d8 l):=aA G;have(I,g1,g2,g3):=R3.grow e5 t B<|n.kept r B k1;have(Fs',P):=g3 [b8 y.1] [u] [[]] (ql.nil.snoc<|.sh r2) ⋯<|λq E=>by simp at E
  rw[dC]at P;show(p,I,u,rfl,rfl,g1,by rw[Jl,←g2];show hl,h _ _ _ _ O P)
 .cases e
def IL(K:Ζ)(J:Θ)(t:TS)(m:MS):Prop:=∀⦃H₀ l Hf S σ H z S'⦄,qv K H₀ l Hf S σ H z->m S=aB (gb S')->∀D:AU,(∀s n x u,qi Hf s->qv K H₀ l s S' n x u->(∀j∈J,n[j]?=σ[j]?)->D.nx n x)->t D σ H
def SV(h:∀D σ H,D.nx σ H->t D σ H):IL K J t qO:=by intro H₀ l Hf S σ H n s R e D q;cases e;show h _ _ _<|q _ _ _ _ (j4 _) R λQ Q=>rfl
def Xq(hk:SK K te k)(t:y∉J):IL K J (C0 te<|sO y)<|qa y k:=by intro H₀ l Hf S σ H M O R e D q;have(x,u,e):=oMq.mp e;cases e;show hk R u _ λB P Fs1 v F E G I n=>?_;show q _ _ _ _ E.sf (G.set y I n.nd λq s=>(n.fr q s,n.out q s)) λj L=>ar<|λz=>t<|by rw[z];show L
def UX(hk:SM K te m)(n:y∉J):IL K J (C0 te<|sO y)<|EB y m:=by intro H₀ l Hf S σ H I L R e D q;have(x,s,e):=oMq.mp e;cases e;show hk R s _ λt M Fs1 v u B E=>?_;show q _ _ _ _ u (B.setD y E) λj G=>ar<|λz=>n<|by rw[z];show G
def X6(i:Nat)(a:MS)(m:Θ->MS):Θ->MS:=λpath S=>cq (qQ S i) λavs=>cq (a<|fb S i n_) λo=>match o with
 | gb l=>xN (l[i]?=aB n_)<|m path<|fb l i<|aB<|d8 avs
 |_=>n_
def aa3(ha:IL K [x,i] t a)(X:Ni K x i u m):Ni K x i (CG t u)<|X6 i a m:=by intro path H₀ B Hf S σ H Fs o R A e D h;have(l,Y,e):=oBq.mp e;have(oo,e3,e):=oBq.mp e;cases oo with
 |nx E=>
  obtain⟨hn,e⟩|e:=qo<|show xN (E[i]?=aB n_) (m path<|fb E i<|aB<|d8 l)=aB o from e;.have(v,p,a0,n0,n,L,s2,G,I):=A;have M:=pU Y;rw[M]at n;cases n;have(v',F,O,P,r,nd,ow,_):=R.move M;rw[G]at O;cases O;show ha (R.frame P) e3 _ λHf' z H' Fs' s R' Q=>?_;have j1:z[x]?=σ[x]?:=Q x ⋯;have U:z[i]?=σ[i]?:=Q i ⋯;have(k1,k2,R3):=R.unframe P r nd (λq hq=>(ow q hq).1) R' hn (fq U G) s;have J:i<de E:=(gSq.mp hn).1;show X R3 (v,p,l,n0,aA J,L,fq j1 s2,fq U G,I.kept r L k1) e D<|h.mono s
  .cases e
 |_=>cases e
def adQ(S)i:RI i S=(qQ S i).map λQ=>%[[]|S]:=rfl
def aff(S)i l b:pIx i l b S=cq (l S) λx=>cq (b x.2) λy=>cq (intOf y.1) λj=>cq (qQ y.2 i) λavs=>cq (qW (d8 avs) x.1) λas=>(Kd (de as) j).map λn=>%[x.1++[n]|y.2]:=rfl
def adt(S)x i l m:WH x i l m S=cq (l S) λy=>cq (qQ y.2 i) λavs=>cq (qW (d8 avs) y.1) λQ=>xN (x≠i/\x<de y.2)<|m y.1<|fb y.2 x n_:=rfl
def acA(S)i c a b path:Gk i c a b path S=cq (c S) λy=>cq (qQ y.2 i) λavs=>cq (qW (d8 avs) path) λQ=>if y.1=t_ then a path y.2 else b path y.2:=rfl
def ZZ(S)i k path:P7 i k path S=cq (k S) λy=>cq (qQ y.2 i) λavs=>cq (qW (d8 avs) path) λas=>xN (de as<qS)<|aB<|gb<|fb y.2 i<|aB<|putAt (d8 avs) path<|as++[y.1]:=rfl
def WU(S)i l path:JC i l path S=cq (qQ S i) λavs=>cq (qW (d8 avs) path) λas=>cq (l<|fb S i n_) λy=>xN (y.2[i]?=aB n_/\de as<qS)<|aB<|gb<|fb y.2 i<|aB<|putAt (d8 avs) path<|as++[b8 y.1]:=rfl
def ad1(i:Nat)(avs:List AV)(m:Θ->MS)(path:Θ):E2->Option E2
 | gb l=>xN (l[i]?=aB n_)<|m path<|fb l i<|aB<|d8 avs
 |_=>n_
def adp(S)i a m path:X6 i a m path S=cq (qQ S i) λavs=>cq (a<|fb S i n_)<|ad1 i avs m path:=by congr 1
def Xz(i)avs m path l:ad1 i avs m path (gb l)=xN (l[i]?=aB n_) (m path<|fb l i<|aB<|d8 avs):=rfl
def N6 avs:qW (d8 avs) []=aB avs:=rfl
def Mf(avs)j(l:Θ):qW (d8 avs) (j::l)=cq (avs[j]?) λa=>qW a l:=rfl
def N9{l:Θ}(h:avs[j]?=aB a):putAt (d8 avs) (j::l) as = d8 (fb avs j<|putAt a l as):=by change(match avs[j]? with|aB a=>_|n_=>_)=_;rw[h]
noncomputable def Ha(m:ME):MS:=λS=>(m S).map λx=>gb x.2
def KQ(h:SM K te m):SS K (zL te)<|Ha m:=by intro H₀ l Hf S σ H z o R e D hd;have(x,n,e):=oMq.mp e;cases e;show h R (d:=x.1) (S':=x.2) n _ λs B Fs1 v t u E=>hd _ _ _ _ t u
def Wu(S)m:Ha m S=(m S).map λx=>gb x.2:=rfl
end Z
local macro_rules|`(tactic|simp! $c:optConfig [$ls,*]$[$l:location]?)=>do let x:=("yl adV ac3 ack acY aea adM adm acq ady adq adT afc aeP acO rC_ afd ae8 ZN afg afl adw Ww ad0 ZO aa8 WL ac8 acB acv Z8 aa1 QF aeT aeL afo abm aae Z1 YG Ts VT Ob adh adv aak adK aeV adb adf abD K8 QT adA Tu abh aaV adD Xi aax ZR aar ade aeX ZP RZ NZ Uh Q1 abE YM YJ WZ aeI abC aaD ae1 Vz aaw abR acz WS abu ZI adW Sv Yu SX VW Yv Uj XR V9 YS Yi aa2 aaW ZV ZJ p40 p57 p60 X4 Jm XM Xy Yo IZ YQ XY QR VQ Tj Jb Vu Yf WX Vc W5 Tt RT uc qZ Q4 acp aaF vw NH gt1 gt2 gt3 gt4 st1 Et st3 st4 ae0 aca XO ab5 Vd aat abS abr T8 Yr XB abe Xn Na RC Sg adQ aff adt acA ZZ WU adp Xz N6 Wu".splitOn.map (Lean.Name.str `_root_.Z)++"getElem?_cons_zero set_cons_zero length_cons length_nil map_cons map_nil nil_append cons_append length_map replicate_zero append_nil reduceReplicate".splitOn.map (Lean.Name.str `List)++"Option.join_some Option.map_some Option.bind_some Bool.not_true Bool.not_false Bool.false_eq_true decide_true decide_false Nat.zero_add Nat.reduceAdd Nat.reduceSub Nat.reduceEqDiff Nat.reduceLeDiff reduceCtorEq".splitOn.map String.toName).toArray.map Lean.mkIdent;`(tactic|simp $c:optConfig only[$[$x:ident],*,↓reduceIte,$ls,*]$[$l:location]?)
namespace Z
open PySem L2 Mr Xe
def V2(h:intOf d=aB z):d = b7 z:=by cases d <;> first|(cases h;rfl)|cases h
noncomputable def xh(x y:Nat)(body:MS):List D->AS->Option E2
 | [],S=>aB<|gb S
 | lG [a,b]::ds,S=>cq (body<|fb (fb S x<|aB<|b8 a) y<|aB<|b8 b) λo=>match o with
  | gb S'=>xh x y body ds S'
  | .ct S'=>xh x y body ds S'
  | .bk S'=>aB<|gb S'
  | .rt a=>aB<|.rt a
 |_,_=>n_
def O8(x y:Nat)(k:MK)(body:MS):MS:=λS=>cq (tx k S) λz=>cq (rP<|oY z.1) λds=>xh x y body ds z.2
def PP(hk:SK K te k)(hb:SS K tb body):SS K (Hn (FV K te) (NK K 2<|zi (sO x)<|zi (sO y) Ot) tb)<|O8 x y k body:=by
 intro H₀ Hf₀ Hf S σ H Fs o R e D h;have(z,e1,e):=oBq.mp e;have(ds,e2,e):=oBq.mp e;have X:SK K te<|tx k:=tc hk;show X R e1 _ λG H1 Fs1 v F t1 R1 r1 o1=>?_;have(d,hd):=vg (te:=te) e1;rw[hd]at r1;rw[hd]at e2;have(a,vs,rfl,g1,g2):=uX e2 (pj r1).2;show(a,rfl,(vs,R1.sub.seq g1),DE (λi n P=>∃l I s,qv K H₀ Hf₀ l I n P s/\qi G l/\xh x y body (ds.drop i) I=aB o) (G,z.2,Fs1,R1,j4 _,e)
  (λi n P _ ⟨l,I,s,E,B,_⟩=>E.sub.seq<|B.seq g1) ?_ ?_)
 .rintro i w n P hw ⟨l,I,s,E,B,t⟩;have(di,J,Y):=g2.get' hw;have hlt:=(gSq.mp J).1;rw[az hlt]at t;have L:=(gSq.mp J).2;rw[L]at t;unfold xh at t;set_option tactic.hygienic true in split at t;.rename_i q;cases q
  .rename_i a1 b1 ds' S1 q;have(q1,q2):=jN.inj q;subst q1;subst q2;have(ob,e3,Q):=oBq.mp t;have(p,us,rfl,h1,h2):=(y0 Y B).tup_inv;have(v1,ws,rfl,h3,h4):=k8 h2;have(v2,ws2,rfl,h5,h6):=k8 h4;cases n8 h6;show(p,_,rfl,aA1<|E.sub _ _ h1,rfl,_,_,rfl,_,_,rfl,rfl,hb ((E.setD x h3).setD y h5) e3 _ ?_);cases ob with
   |nx U=>show λu M H2 Fs2 O R2=>(u,U,Fs2,R2,eW B O,Q)
   |ct U=>show λu M H2 Fs2 O R2=>(u,U,Fs2,R2,eW B O,Q)
   |bk U=>cases Q;show λu M H2 Fs2 O R2=>h _ _ _ _ (eW (eW t1.sf B) O) R2
   |rt a=>cases Q;show h
  .cases t
 .rintro n P ⟨l,I,s,E,B,t⟩;rw[←g2.1,bT]at t;cases t;show h _ _ _ _ (eW t1.sf B) E
def NG(x y)k body S:O8 x y k body S=cq (tx k S) λz=>cq (rP<|oY z.1) λds=>xh x y body ds z.2:=rfl
end Z
namespace Mr
open PySem PySem.Calls PySem.Spec PyProof.Rows L2
def Y5(K:Ζ):V->List V->Hp->VK->Prop:=λx vs H Q=>∃(a:Addr) (ns:Ϝ) (k:Int),x = c6 a/\vs=[c7 k]/\tJ K H a (ns.map c7)/\Q (c7 (ns.count k:Nat)) H
def Sf k{l:Ξ}{ns:Ϝ}(hl:de l=de ns)(h:∀j s (t:j<de ns),isInt k l[j]=decide (ns[j]=k)):l.countP (isInt k)=ns.count k:=by
 have e:l.map (isInt k)=ns.map λn=>n == k:=by show jU (by simp[hl]) λj s t=>?_;simp only[iW,iW,h j (by simpa using s)<|by simpa using t];rfl
 have s:l.countP (isInt k)=(l.map<|isInt k).countP id:=by rw[jj];rfl
 have t:ns.count k=(ns.map λn=>n == k).countP id:=by rw[jj];rfl
 rw[s,e,t]
def WN:MtR X "list.count"<|Y5 X.K:=by
 intro U s σ H x Y v us Q I L r h;have(a,ns,k,rfl,rfl,hS,q):=h;cases L;have(u,rfl,t,rfl):=xq r;have(B,M,(o,n,E,G,l,hd),hz):=tu I hS;have hi:=Cz M;have(cls,dd,J,O):=o;simp only at G l hd;subst G l hd;have z:=hi.length;show mU fN (_,E,rfl) iQ (iK _ _)
  (aA4 a (c5 B) n n_ O (jK k t)<|isInt k) (E,λy P=>(eq_isInt k t hi y<|by simpa using P).at _ _,?_);show(c7 _,H,I.tok _,(_,rfl),?_);rw[List.toList_toArray,Sf k z λj R S=>isInt_at k hi j R S];show q
end Mr
namespace Z
open PySem L2 Mr Xe
def Kh:D->List D->Option D
 | ew ds,[b7 k]=>(sP ds).map λns=>b7 (ns.count k:Nat)
 |_,_=>n_
def WC:BmD K (Y5 K) Kh:=by
 intro x G H Q I J d l s e q;unfold Kh at e;set_option tactic.hygienic true in split at e;.rename_i L k;have(t,u,e):=oMq.mp e;cases e;have(v,M,rfl,z,B):=k8 s;rw[n8 B];cases z;rw[xI u]at l;have(p,O,rfl,n,E):=ro l;rw[tI E]at n;show(p,t,k,rfl,rfl,l6 n,q _ t8)
 .cases e
def UP(ns:Ϝ)k:Kh (ew<|ns.map b7) [b7 k]=aB (b7 (ns.count k:Nat)):=by change(sP<|ns.map b7).map _=_;rw[vw];rfl
def SW(K:Ζ)(te:TE)(m:MK):Prop:=∀⦃H₀ l Hf S σ H u a S'⦄,qv K H₀ l Hf S σ H u->m S=aB %[a|S']->∀Q:VK,
 (∀n t s v F,qi Hf n->qv K H₀ l n S' σ t s->qp K n t a v F->c8 F->(∀q∈F,H₀ q=n_/\q∉bt s)->Q v t)->te σ H Q
end Z
namespace Ms
open PySem PyProof.Rows Mr
noncomputable def aeZ(F:Ϝ)(k:Int):Ϝ:=if k∈F then F else F++[k]
def dd(ns:Ϝ):Ϝ:=ns.foldl aeZ []
def SA(h:Heap)(a:Addr)(l:Array<|Int×Value)(ep:Nat)(t:SetTable):Prop:=∃o,eL h a=aB o/\o.ExactSet/\x9 o = .set l ep t
end Ms
namespace Mr
open PySem PySem.Spec PyProof.Rows L2
def TU(xs:List V)(H:Hp)(Q:VK):Prop:=∃j:Int,xs=[c7 j]/\(-(2 ^ 62)<=j/\j<2 ^ 62)/\cC j<=sizeLine/\∀l,H l=n_->Q (c6 l) (rG H l<|eH<|(aH<|cC j).map λk:Nat=>c7<|0+k)
def LC(hc:X.calm=t_)(gl:Gl X "list")(ml:X.mg "list" = n_)(hg:Gl X "range")(hm:X.mg "range" = n_)(ha:PA X [b] S)
  (U:↑(lC [ri (fY "range" p) [b] [] pos] X.env=%[f_|eval (ri (fY "range" p) [b] [] pos)<|k7 X]::lC [] X.env)) (J:↑(lC [b] X.env=[%[f_|eval b<|k7 X]])) :
  PE X (ri (fY "list" p0) [ri (fY "range" p) [b] [] pos] [] x)<|VN TU S:=by
 intro oO s σ H Q I h;show mF<|yV I gl ml boot_list ?_ ⋯<|by rfl
 show bR ?_ U<|by rfl
 rw[U];change lg _ _ (spliced<|%[f_|eval (ri (fY "range" p) [b] [] pos)<|k7 X]::mH x (lC []<|k7 X)) _ _ s;show aA3 ?_;show Call_<|yV I hg hm boot_range<|bR (thn (ha pos oO s σ H _ I h) λus B L=>?_) J rfl;have(vs,H1,M,r1,j,G,(q3,q4),hn,q):=L;subst G;have(u,rfl,ru):=xq r1;have(t,rfl):=ru;have O:((cC j:Nat):Int)=wo 0 j 1:=by rw[rangeSize_one];split <;> lia
 have P:cC j<=2 ^ 24:=by rw[mB]at hn;show hn
 show call_range_1<|aA8 ?_;show call_list_range (n:=cC j) (M.ok.hd hc) (aAp ..) (small_one ⋯ ⋯ q3 q4) O.symm P λh' tk l c hk hS z=>?_;have E:(pF (d7 B) { cls:=iU "range", data:=j7 #[jK 0<|sq B,jK j t,jK 1 (sq B+1)] }).objs.size=B.heap.objs.size+1:=by first|rfl|simp[pF]
 skip;rw[E]at hS;have R:qB ((aH<|cC j).map λk:Nat=>c7<|0+k)<|b9 l:=by
  have hl:de (b9 l)=cC j:=by rw[aJ];show z.1
  have key:lL (b9 l)<|(aH<|cC j).map λk:Nat=>0+(k:Int):=JN (by simp[hl]) λk v n G Y=>by rw[aG]at G;have(tv,rfl):=z.2 k v G;rw[gMq]at Y;have(m,e3,e4):=oMq.mp Y;have(_,e5):=gSq.mp e3;rw[List.getElem_range]at e5;subst e5;subst e4;show(tv,by simp)
  have:=L2.vals_ints key;rw[mPq]at this;show this
 show(c6<|B.heap.objs.size+1,rG H1 (B.heap.objs.size+1)<|eH _,M.laid (t':=tk) (λb o e=>hk b o<|ak _ e) (cO _)<|show uf X.prog X.w _ h' _ (eH _)from (by simpa using hn,b9 l,c,R,by show hS),by rw[E];rfl,q _<|p5 (L0 M)<|cO _)
end Mr
namespace Z
open PySem L2 Mr
def Jx(a:ML):MK:=λS=>cq (a S) λx=>cq (ze x.1) λds=>xN (de ds<=qS)<|aB %[d8<|ds.map b8|x.2]
def M9(h:intOf d=aB z):d = b7 z:=by revert h;delta intOf;split <;> intro l <;> cases l;rfl
def KJ(ha:Wn K u a):SK K (VN TU u)<|Jx a:=by
 intro H₀ s Hf S σ H Y av S' R e Q q;have(x,I,e):=oBq.mp e;have(ds,n,e):=oBq.mp e;obtain⟨hl,e⟩|e:=qo e
 .cases e;show ha R (ds:=x.1) (S':=x.2) I _ λJ H1 Fs1 vs z B E=>?_;unfold ze at n;set_option tactic.hygienic true in split at n
  .rename_i j L;rw[L]at E;obtain⟨M,n⟩|n:=qo n
   .cases n;have(v,ws,rfl,O,P):=k8 E;cases n8 P;cases O;rw[qg]at hl;show(j,rfl,M,by rw[Jl];show hl,λp G=>?_);have(U,R2,X,n2,n3):=B.new (o:=.lst<|(aH j.toNat).map λk:Nat=>V.int<|0+k) G;show q _ _ _ (.ref p) [p] (z.trans U) R2 (qp.new pS X ?_)<|(zT.one B G).back z;show(by rw[qg,lMq,aX],λi d v t g2=>?_);have hi:i<j.toNat:=by
     have:=(gSq.mp t).1;rwa [qg]at this
    rw[zY hi]at t;rw[gMq,du hi]at g2;cases t;cases g2;show .int
   .cases n
  .cases n
 .cases e
def Pd(S)a:Jx a S=cq (a S) λx=>cq (ze x.1) λds=>xN (de ds<=qS)<|aB %[d8<|ds.map b8|x.2]:=rfl
end Z
namespace Z
open PySem PySem.Spec PyProof.Rows L2 Mr
inductive CC:Nat->D->PyData->Prop
 |non {n}:CC n .non .none
 |bl {n b}:CC n (.bl b)<|.bool b
 |int {n i}:CC n (.int i)<|.int i
 |str {n x} (h:PyData.canLay0 (.str x)=t_):CC n (.str x)<|.str x
 |list {n} {ds:List D}{ps:List PyData}(l:ds.length=ps.length) (e:∀(i:Nat) (d:D) (p:PyData),ds[i]?=aB d->ps[i]?=aB p->CC n d p):CC (n+1) (.list ds)<|.list ps
 |tup {n} {ds:List D}{ps:List PyData}(l:ds.length=ps.length) (e:∀(i:Nat) (d:D) (p:PyData),ds[i]?=aB d->ps[i]?=aB p->CC n d p):CC (n+1) (.tup ds)<|.tuple ps
def D9{α:Type}{ds:List D}{ps:List α}(l:de ds=de ps){p}(h:p∈ps):∃(i:Nat) (d:D),ds[i]?=aB d/\ps[i]?=aB p:=by have(i,hi):=aC.mp h;have hl:=(gSq.mp hi).1;show(i,_,gEg<|l ▸ hl,hi)
def Pt(h:∀p∈ps,mA p=t_):qc ps=t_:=by induction ps with
 |nil=>rfl
 |cons p ps l=>rw[qc,h p<|aa ..,l λq n=>h q<|mCo _ n];rfl
def Ql(h:∀p∈ps,pq p p=t_):sI ps ps=t_:=by induction ps with
 |nil=>rfl
 |cons p ps l=>rw[sI,h p<|aa ..,l λq n=>h q<|mCo _ n];rfl
def KY(h:∀p∈ps,j9 p<=n):nR ps<=n:=by induction ps with
 |nil=>rw[nR];show aY _
 |cons p ps l=>rw[nR];have:=h p<|aa ..;have:=l λq s=>h q<|mCo _ s;lia
def CC.lay(h:CC n d p):mA p=t_:=by induction h with
 |str h=>show h
 |list l _ s=>rw[mA];show Pt λp t=>let ⟨i,d,u,x⟩:=D9 l t;s i d p u x
 |tup l _ s=>rw[mA];show Pt λp t=>let ⟨i,d,u,x⟩:=D9 l t;s i d p u x
 |_=>rfl
def CC.mix(h:CC n d p):pq p p=t_:=by induction h with
 |list l _ s=>rw[pq];show Ql λp t=>let ⟨i,d,u,x⟩:=D9 l t;s i d p u x
 |tup l _ s=>rw[pq];show Ql λp t=>let ⟨i,d,u,x⟩:=D9 l t;s i d p u x
 |_=>rfl
def CC.deep(h:CC n d p):j9 p<=n:=by induction h with
 |list l _ s=>rw[j9];show gR<|KY λp t=>let ⟨i,d,u,x⟩:=D9 l t;s i d p u x
 |tup l _ s=>rw[j9];show gR<|KY λp t=>let ⟨i,d,u,x⟩:=D9 l t;s i d p u x
 |_=>simp[j9]
theorem Eb:∀{ds:List D}{ps}{vs}{l},qB vs l->de ds=de ps->de ds=de vs->(∀(i:Nat) d p v u,ds[i]?=aB d->ps[i]?=aB p->vs[i]?=aB v->qH v u->∃as,Reads h u p as)->∃as,ReadsAll h l ps as
 | [],[],[],l,r,_,_,_=>by cases r;show(_,.nil)
 |d::ds,p::ps,v::vs,l,r,l1,l2,e=>by cases r with
  | @cons _ u _ l n s=>
   have(as,t):=e 0 d p v u rfl rfl rfl n;have(bs,x):=Eb s (by simpa using l1) (by simpa using l2) λi d p v u a b c=>e (i+1) d p v u (by show a) (by show b)<|by show c
   show(_,.cons t x)
 | [],_::_,_,_,_,h,_,_=>by simp at h
 |_::_,[],_,_,_,h,_,_=>by simp at h
 | [],_,_::_,_,_,_,h,_=>by simp at h
 |_::_,_,[],_,_,_,h,_=>by simp at h
def CC.reads{σ:L2.St}(I:Inv X O σ H s)(h:CC n d p):∀{v}{u},rN X.K H d v->qH v u->∃as,Reads s.heap u p as:=by induction h with
 |non=>intro v u r x;cases r;cases x;show(_,.none)
 |bl=>intro v u r x;cases r;cases x;show(_,.bool _)
 |int=>intro v u r x;cases r;have(t,rfl):=x;show(_,.int _ _)
 |str=>intro v u r x;cases r;have(t,rfl):=x;show(_,.str _ _)
 |list l _ B=>intro v u r x;have(q,P,rfl,E,z):=ro r;cases x;have(G,J,hl,Q):=tu I<|l6 E;have(o,L,M,n,hd):=j6 hl;have(as,e):=Eb J l z.1 λi d p v u a b c x=>B i d p a b (z.2 i d v a c) x;show(_,aBg L M hd<|by show e)
 |tup l _ B=>intro v u r x;have(q,P,rfl,E,z):=r.tup_inv;cases x;have(G,J,(o,L,M,n,hd),Q):=I.tuple<|aA1 E;have(as,e):=Eb J l z.1 λi d p v u a b c x=>B i d p a b (z.2 i d v a c) x;show(_,aB3 L M hd<|by show e)
def Zv(K:Ζ)(b:Bool):R2:=λx y H Q=>∃n d p,CC n d p/\n<=64/\rN K H d x/\rN K H d y/\Q (pY b) H
def CC.shaped(h:CC n d p)(hn:n<=64):om p=t_:=by change(mA p && decide (j9 p<=64))=t_;rw[h.lay,d5<|bI h.deep hn];rfl
def Z4(l:ph X.A+64<lZ):EV X (lK .Eq)<|Zv X.K t_:=by intro L s σ H x y v u Q I t z h;have(n,d,p,hd,hn,B,E,q):=h;have(M,G):=hd.reads I B t;have(bs,J):=hd.reads I E z;show eq_dataH_same G J (hd.shaped hn) (hd.shaped hn) l hd.mix ?_;rw[same_self];show qI I q rfl
def aaO(x y:D):Option D:=xN (x=y/\∃n p,CC n x p/\n<=64)<|aB<|k9 t_
section
variable {K:Ζ}
def aba:FB K (Zv K t_) aaO:=by
 intro x y H Q s G d t u e q;obtain⟨⟨z,n,p,B,E⟩,l⟩|l:=qo e;.cases l;subst z;show(n,s,p,B,E,t,u,q _ .bl)
 .cases l
end
end Z
namespace Z
open PySem L2 Mr Xe
noncomputable def SG(H:Hp)(G:Δ):Hp:=λb=>if b∈G then n_ else H b
def Pu(h:b∈G):SG H G b=n_:=pZ h
def DK(h:b∉G):SG H G b=H b:=pW h
def aa5{Hf}N(s:qi Hf H)(r:ql K Hf H as vs Gs)(nd:c8 (bt Gs)) :
  qv K (SG H<|bt Gs) Hf Hf (as.map aB++ao (de N-de as) n_) (y7 N vs) H<|Gs++ao (de N-de as) []:=by
 have(l,x,h):=r;have fl:bt (Gs++ao (de N-de as) [])=bt Gs:=by rw[fAq,uP,aNq]
 show(by simp[y7,l],by simp[x],λi z e=>?_,λi e=>?_,by rw[fl];show nd,λp n=>?_,s,λb o e=>?_,λb h Q=>h,j4 _)
 .by_cases hi:i<de as
  .rw[gZq<|by simpa using hi,gMq]at e;have(a,B,E):=oMq.mp e;cases E;have t:=gEg<|show i<de vs by lia
   have u:=gEg<|show i<de Gs by lia
   show(_,_,?_,?_,h i z _ _ B t u);.delta y7;rw[gZq<|by simpa[←l]using hi,gMq,t];rfl
   .rw[gZq ∅];show u
  .rw[gYq<|by simpa using hi]at e;have G:=cV<|mGq e;cases G
 .by_cases hi:i<de as;.rw[gZq<|by simpa using hi,gMq,gEg hi]at e;cases e
  .have hl:=(gSq.mp e).1;rw[lAq,lMq,aU]at hl;rw[gYq ∅,bK,pZ ∅]
 .rw[fl]at n;show Pu n
 .by_cases m:b∈bt Gs;.rw[Pu m]at e;cases e
  .rw[DK m]at e;show e
def qv.chg{G:Δ}(R:qv K H₀ n Hf S σ H B)(E:∀q∈G,H₀ q=n_/\q∉bt B)(sf:qi Hf s)(L:∀b,b∉G->∀o,H b=aB o->z b=aB o)(sub:qi s z)(l:∀b,Hf b=n_->H b≠n_->b∉G->s b=n_):qv K H₀ n s S σ z B:=by
 have out:=λq x m=>(E q m).2 x;show(R.len,R.lenF,λi O e=>?_,R.emp,R.nd,R.fresh,sub,λb o e=>?_,λb P I=>?_,eW R.sf sf)
 .have(v,F,Q,J,r):=R.rep i O e;show(v,F,Q,J,r.keep sf (λq x=>?_) λq x=>?_);.have t:=qe J x;have hn:=(R.mem t).1;cases M:H q with
   |none=>show absurd M hn
   |some u=>show L q (out q t) u M
  .have t:=qe J x;show l q (R.mem t).2 (R.mem t).1<|out q t
 .show L b (λm=>by rw[(E b m).1]at e;cases e) o<|R.fr b o e
 .show l b (R.lim b P I) (OD R.fr I) λm=>I (E b m).1
def abJ{as:List AV}(r:qD K Hf (as.map oY) vs):ql K Hf H (as.map λa=>b8<|oY a) vs<|ao (de as) []:=by have:=OZ (H:=H) r;rw[mPq,lMq]at this;show this
noncomputable def Cq(x:Nat)(body:MS):List D->AS->Option E2
 | [],S=>aB<|gb S
 |d::ds,S=>cq (body<|fb S x<|aB<|b8 d) λo=>match o with
   | gb S'=>Cq x body ds S'
   |_=>n_
def Qt(x:Nat)(k:MK)(body:MS):MS:=λS=>cq (tx k S) λy=>cq (rP<|oY y.1) λds=>Cq x body ds y.2
def YA(ha:IL K J t m)(hb:IL K J u m'):IL K J (CG t u)<|pd m m':=by intro H₀ l Hf S σ H U X R e D q;have(o,z,e):=oBq.mp e;cases o with
 |nx Y=>show ha R z _ λB E H1 Fs1 G I L=>hb I e _ λM O H2 Fs2 P R2 Q=>q _ _ _ _ (eW G P) R2 λj s=>fq (Q j s)<|L j s
 |_=>cases e
def WO(hk:SK K te k)(hb:IL K J t body)(hJ:x∉J):IL K J (Hn (FV K te) (sO x) t)<|Qt x k body:=by
 intro H₀ E Hf S σ H Fs Sz R e D h;have(z,e1,e):=oBq.mp e;have(ds,e2,e):=oBq.mp e;have hk':SK K te<|tx k:=tc hk;show hk' R e1 _ λM H1 Fs1 v F t1 R1 r1 o1=>?_;have(d,hd):=vg (te:=te) e1;rw[hd]at r1;rw[hd]at e2;have(a,vs,rfl,g1,g2):=uX e2 (pj r1).2;show(a,rfl,(vs,R1.sub.seq g1),DE (λi l Y=>∃s O B,qv K H₀ E s O l Y B/\qi M s/\Cq x body (ds.drop i) O=aB (gb Sz)/\∀j∈J,l[j]?=σ[j]?) (M,z.2,Fs1,R1,j4 _,e,λZ Z=>rfl)
  (λi l Y _ ⟨s,O,B,P,I,_⟩=>P.sub.seq<|I.seq g1) ?_ ?_)
 .rintro i w l Y hw ⟨s,O,B,P,I,L,Q⟩;have(di,U,rw'):=g2.get' hw;have hlt:=(gSq.mp U).1;rw[az hlt]at L;have X:=(gSq.mp U).2;rw[X]at L;have(ob,e3,e4):=oBq.mp L;have hx:∀j∈J,(fb l x<|aB w)[j]?=l[j]?:=λj Q=>ar<|λz=>hJ<|by rw[z];show Q
  cases ob with
  |nx S2=>show hb (P.setD x<|y0 rw' I) e3 _ λHf2 σ2 H2 Fs2 s2 R2 h2=>(Hf2,S2,Fs2,R2,eW I s2,e4,λj G=>fq (fq (h2 j G)<|hx j G)<|Q j G)
  |_=>cases e4
 .rintro l Y ⟨s,O,B,P,I,L,Q⟩;rw[←g2.1,bT]at L;cases L;show h _ _ _ _ (eW t1.sf I) P Q
def Yd(hk:SK K te k):IL K J (zL<|Sl K "list" yz (va i)<|qR te wx)<|vc i k:=by
 intro H₀ L Hf S σ H Fs o R e D h;have(a0,e0,e):=oBq.mp e;have(x,e1,e):=oBq.mp e;have(avs,e2,e):=oBq.mp e;obtain⟨hl,e⟩|e:=qo e
 .cases e;have(p,vs,Gs,M,_,h1,_):=R.ow<|pU e0;show(c6 p,M,jE (rfl,vs,l6 h1),hk R e1 _ λHf1 H1 Fs1 v F t1 X r1 s=>?_);have(p',O,Gs',B,l,P,Q,E,G,U,I):=X.ow<|pU e2;rw[M]at B;cases B;have Y:=λm=>s.out p m<|qe l ⋯;show(p,O,v,rfl,rfl,P,by rw[←E.1];show hl,h _ _ _ _ t1.sf (X.turn M l ⋯ (vl pS Q<|(E.keepUpd G).snoc<|r1.keepUpd Y) ?_ λq hq=>?_) λZ Z=>rfl);.rw[fAq,aN];show e9 au (λm=>t6 (mAq.mp m) G Y,e9 nAq (U,s.nd,λa ha b hb e=>s.out b hb<|qe l<|mCo _<|e ▸ ha))
  .rw[fAq,aN]at hq;obtain z|z:=ae.mp hq;.show I q<|by rw[z];simp
   .obtain z|z:=mAq.mp z;.show I q<|mCo _ z
    .show(s.fr q z,λm=>s.out q z<|qN m)
 .cases e
def Xa(hk:SW K te k):SS K (C0 te<|sO i)<|qa i k:=by intro H₀ l Hf S σ H M o R e D h;have(x,s,e):=oMq.mp e;cases e;show hk R (a:=x.1) (S':=x.2) s _ λz O Fs1 v F B E G I L=>h _ _ _ _ B<|E.set i G I L
def Xt(hk:SK K te k)(hb:IL K J t body)(l:⇑(x∉J)):IL K J (Hn (FV K te) (sO x) t)<|Qt x k body:=WO hk hb l
def Qw(hk:SK K te k)(l:⇑(i∉J)):IL K J (C0 te<|sO i)<|qa i k:=Xq hk l
def Yg(hk:SK K te k):IL K J (zL<|Sl K "list" yz (va i)<|qR te wx)<|vc i k:=Yd hk
def Up:IL K J HA qO:=SV λQ Q Q h=>h
def TC(x)k body S:Qt x k body S=cq (tx k S) λy=>cq (rP<|oY y.1) λds=>Cq x body ds y.2:=rfl
def SSr(K:Ζ)(J:Θ)(t:TS)(m:MS)(k:MK):Prop:=∃t0 te,t=CG t0 (VC te)/\IL K J t0 m/\SK K te k
def Y1(hk:SK K te k):SSr K J (VC te) qO k:=(HA,te,rfl,Up,hk)
def Fi(ha:IL K J t m)(hr:SSr K J u m' k):SSr K J (CG t u) (pd m m') k:=by have(t0,te,rfl,l,n):=hr;show(CG t t0,te,rfl,YA ha l,n)
def GU:SS K t za:=by intro H₀ l Hf S σ H n o R e D h;cases e
def Oz{m}(l:Kf K c m)(ha:Ni K x i (CG t v) a)(hb:Ni K x i v b):Ni K x i (CG (RD c t HA) v)<|Gk i m a b:=by have e:CG (RD c t HA) v=RD c (CG t v) v:=rfl;rw[e];show @Zz K c m x i (CG t v) a v b l ha hb
def YY(f:D->Option D)(m:ME):ME:=λS=>cq (m S) λx=>cq (f x.1) λz=>if z.scal=t_ then aB %[z|x.2]else n_
def ac4(f)m S:YY f m S=cq (m S) λx=>cq (f x.1) λz=>if z.scal=t_ then aB %[z|x.2]else n_:=rfl
def adB{m}(hr:UnD K r f)(ha:SM K s m):SM K (tUn r s)<|YY f m:=by
 intro H₀ l Hf S σ H X d Y R e Q q;have(x,G,e):=oBq.mp e;have(z,I,e):=oBq.mp e;split at e;.rename_i L;cases e;show ha R G _ λM H1 Fs1 v1 O B P=>hr (y0 P B.sub) I λv U=>q _ _ _ v O B<|U.scal L
 .cases e
end Z
namespace Mr
open PySem PySem.Calls PySem.Spec PyProof.Rows L2
open PySem.MeetsSeq (size_erased plain_remove_loop entry_remove_loop)
theorem Px{t:Ω}{eq:Value->Bool}{j:Nat}E(z:eq t[j]=t_)(hz:t.size<=sizeLine):∀d i,i+d=j->(∀m H,i<=m->m<j->eq t[m]=f_) ->
  Meets (Builtin.«list.remove.loop» ([dS l,x,oi i],[])) λA R s=>eL (d7 s) l=aB (iU "list", n_,mY t n,#[])/\(∀y,y∈t->t7 A.in1 s y x (eq y))/\R (.ok<|.ret ly) { s with heap:=oN (d7 s) l (fk λxs=>h9 xs j) }
 |0,i,I,u=>λprog w A R s ⟨hl,B,h⟩=>by
  have(J,g,d,L,os):=s;obtain rfl:i=j:=by rfl'
  (wp_walk using wpAny_loadPart' hl);rw[show t[cC ((i:Nat):Int)]?=aB t[i] by simp[E]];show kU<|B _ (bq E) prog w _ _ ?_;rw[z];have G:(h9 t i).size<=sizeLine+1:=bI (size_erased t i)<|by rfl'
  (wp_walk using (ni hl rfl (hz:=hz) (_hz':=G)),wpAny_loadPart' hl);show h
 |d+1,i,I,u=>λprog w A R s ⟨hl,B,h⟩=>by
  have(J,g,O,L,os):=s;have hi:i<t.size:=by lia
  (wp_walk using wpAny_loadPart' hl);rw[show t[cC ((i:Nat):Int)]?=aB t[i] by simp[hi]];show kU<|B _ (bq hi) prog w _ _ ?_;rw[u i hi (ag _) ∅];wp_walk;rw[show((i:Int)+1)=((i+1:Nat):Int) by push_cast;rfl];show(mn plain_remove_loop _,lI entry_remove_loop ?_);rw[hQ plain_remove_loop _];show Px E z hz d (i+1) ∅ (λm H P M=>u m H (by rfl') M) prog w A R _ (hl,B,h)
def abn{t:Ω}{eq:Value->Bool}E(u:eq t[j]=t_)(hz:t.size<=sizeLine)(z:∀m B,m<j->eq t[m]=f_) :
  Meets (Builtin.«list.remove» ([dS l,x],[])) λA R s=>eL (d7 s) l=aB (iU "list", n_,mY t n,#[])/\(∀y,y∈t->t7 A.in1 s y x (eq y))/\R (.ok<|.ret ly) { s with heap:=oN (d7 s) l (fk λxs=>h9 xs j) }:=λprog w A R s ⟨hl,G,h⟩=>by have(I,g,d,J,os):=s;(wp_walk using wpAny_loadPart' hl);show(mn plain_remove_loop _,lI entry_remove_loop ?_);rw[hQ plain_remove_loop _];show Px E u hz j 0 (by rfl') (λm B Q H=>z m B H) prog w A R _ (hl,G,h)
def MR:∀{vs}{l},qB vs l->∀k:Nat,qB (ef vs k)<|ef l k:=by intro vs l h;induction h with
 |nil=>intro k;show lX
 |cons a t n=>intro k;cases k with
  |zero=>show t
  |succ k=>show iL a<|n k
end Mr
namespace Mo
open PySem PyProof.Rows Mr
section
variable {K:Type}[DecidableEq K]
noncomputable def fz(ks:List K)(ws:Ξ)(j:Nat):List<|K×Value:=((ks.zip ws).take j).foldl (λm p=>stored m p.1 p.2) []
end
end Mo
namespace Mr
open PySem PySem.W PySem.Spec PyProof.Rows L2 Mo
def fv(ns ms:Ϝ):List<|qk×V:=(ns.zip ms).foldl (λm p=>AQ m (aO p.1)<|c7 p.2) []
end Mr
namespace Z
open PySem L2 Mr
def dz(ns ms:Ϝ):List<|qk×D:=(ns.zip ms).foldl (λm p=>zw m (aO p.1)<|b7 p.2) []
end Z
namespace Z
open PySem PySem.Spec PyProof.Rows L2 Mr Xe
def Ru:zA X (iU "int")<|λxs H Q=>∃b,xs=[pY b]/\Q (c7<|if b=t_ then 1 else 0) H:=by intro n s σ H xs t Q I r h;have(b,rfl,q):=h;have(u,rfl,l):=xq r;cases l;show call_int_bool (c7<|if b=t_ then 1 else 0,H,I.tok _,(_,rfl),q)
noncomputable def Lf:List D->Option D
 | [k9 b]=>aB<|b7<|if b=t_ then 1 else 0
 |_=>n_
def Yq{K}:CbD K (λxs H Q=>∃b,xs=[pY b]/\Q (c7<|if b=t_ then 1 else 0) H) Lf:=by
 intro s H Q t d r e q;unfold Lf at e;split at e;.have(v,u,rfl,l,n):=k8 r;rw[n8 n];cases l;cases e;show(_,rfl,q _ t8)
 .cases e
end Z
namespace Mr
open PySem PySem.W L2 PySem.Calls
open PySem.Spec PyProof.Rows
noncomputable def Iu(X:Cx)(A:Around)(N:List Str)(qual:Str)(scope:lJ)(f:Addr)(cd:Value)(cl:List<|Str×Addr)(s:kS)(H:Hp):Cx where
 prog:=g9 X
 w:=X.w
 K:=X.K
 mg:=X.mg
 base:=X.base
 A:=sv A (envX qual scope s.heap.objs.size f cd cl)
 N:=N
 s₀:=s
 H₀:=H
 env:=envX qual scope s.heap.objs.size f cd cl
 outer:=X.stack
 stack:=envX qual scope s.heap.objs.size f cd cl::X.stack
 ex:=[]
 calm:=t_
 fn:=λQ=>f_
 pn:=[]
 xe:=λQ Q=>False
structure ED (X:Cx)(x m:Str)(scope:lJ)(cl:List<|Str×Addr):Prop where
 kind:scope.kind = .function
 co:scope.isCoroutine=f_
 gen:scope.isGenerator=f_
 nocell:∀y∈scope.names,y.2 ≠ .cell
 xl:scope.names.lookup x=aB .local
 ml:scope.names.lookup m=aB .free
 fr:∀y,scope.names.lookup y=aB .free->y=m
 cl:∃c,cl=[%[m|c]]/\X.env.cells.lookup m=aB c
 vis:X.env.kindOf m=aB .cell
def ED.look{cl}(L:ED X x m scope cl)(h:cl.lookup y=aB c):y=m/\X.env.cells.lookup m=aB c:=by have(n,e,l):=L.cl;subst e;rw[gY]at h;cases q:y == m with
 |true=>rw[q]at h;cases h;show(beq_iff_eq.mp q,l)
 |false=>rw[q]at h;cases h
def RS{σ:St}{i:Nat}(I:Inv X U σ H s)(L:ED X x m scope cl)(hd:aA2 A=n_)(Y:A.frames=X.A.frames)
  (hm:X.N[i]?=aB m) (hv:σ[i]?=aB (aB J)) (ru:qH v u) (M:h'.Ns s.heap.objs.size<|λy=>([%[x|u]]:List<|Str×Value).reverse.lookup y) (hk:∀b o,eL (d7 s) b=aB o->eL h' b=aB o) :
  Inv (Iu X A [x,m] qual scope f cd cl s H) [] [aB v,aB J] H { s with heap:=h',toks:=tk }:=by
 have l:=I.env0;have n:∀b:Addr,b∉(Iu X A [x,m] qual scope f cd cl s H).ex:=λb z=>absurd (show b∈([]:Δ)from z) ⋯;have(mm,hn,hl):=I.loc;have O:Vis X.env.scope m:=iq<|jE L.vis;have(um,rm,lm):=hl i m J hm hv O;have hxm:m≠x:=λz=>by have:=L.xl;rw[←z,L.ml]at this;cases this
 show((l.mod,L.kind,rfl,rfl,ag _,λy z c G E=>?_,λy t=>?_,λy c z Z=>(by cases z),λZ=>hd,?_,iq (rfl,rfl),λb z=>absurd z<|n b,l.bs,l.bsz,λb Z Z=>n b,λb z=>absurd z<|n b,l.funs,l.frf,l.tb),
  rfl,l.bare,Un.kept hk,(_,M,λj y R G E h3=>?_),λy c h=>?_,p5 l.hok<|ag _,λy c h=>?_,λp hp=>absurd (show p∈([]:Φ)from hp) ⋯,l.hok.kept hk,rfl);.rw[(L.look G).1,(L.look E).1]
 .have t:scope.names.lookup y=aB n4∨scope.names.lookup y=aB sD:=t;obtain t|t:=t;.show absurd rfl<|L.nocell _<|eF t
  .have(c,e,_):=L.cl;show(c,?_);change cl.lookup y=aB c;rw[L.fr y t,e,gY];simp
 .show X9<|fq Y I.ok.frames
 .have hj:j=0∨j=1:=by cases j with
   |zero=>show jE rfl
   |succ j=>cases j with
    |zero=>show iq rfl
    |succ j=>show absurd E ⋯
  obtain rfl|rfl:=hj;.cases G;cases E;show(u,ru,jE (L.xl,by simp))
  .cases G;cases E;show(um,rm,iq (iq L.ml,?_));have(c,e,P):=L.cl;show(c,?_,?_);.change cl.lookup m=aB c;rw[e,gY];simp
   .obtain⟨k,_⟩|⟨_,c2,S,o,Q,B⟩:=lm;.rw[L.vis]at k;cases k
    .rw[P]at S;cases S;show(o,hk _ _ Q,B)
 .have(_,P):=L.look h;have(R,o,Q,B):=I.cell m c P;show(R,o,hk _ _ Q,B)
 .show I.freeC m c (L.look h).2
def XW{σ:St}{i:Nat}
  (I:Inv X oO σ H s) (L:ED X x m scope cl) (hr:uw (k+1) A) (hA:A.frames=X.A.frames) (hm:X.N[i]?=aB m) (hv:σ[i]?=aB (aB vm)) (ru:qH v u)
  (ho:s.heap.get? f=aB (kla_obj "<lambda>" qual l body scope cl pm n E)) (U:s.heap.CodeRec (.ref n) qual)
  (hb:ou (kla_fn "<lambda>" qual l body scope cl pm (.ref n) E) ([u],[])=pure [%[x|u]])
  (ht:uw k (Iu X A [x,m] qual scope f (.ref n) cl s H).A->PE (Iu X A [x,m] qual scope f (.ref n) cl s H) body t) (h:t [aB v,aB vm] H Q) :
  lg (kZ X.prog X.w) A (call (.ref f) [u]) (EP X oO σ Q) E' s:=by
 have lim:s.heap.NoLimit:=I.nolimit;show wpAny_call<|nu (R:=λr P=>match r with|.ok (.ret u')=>CE X.stack X.prog X.w H s Q u' P|_=>False) (kla_callFunE hr.depth ho rfl L.co L.gen rfl U ?_) λr P G=>?_;.rw[hb];show lz<|oq L.nocell (λy hy=>by rw[mSq.mp hy];show L.xl) (λM Y O=>(lim.fresh _ O,?_)) L.kind;have B:∀b o,s.heap.get? b=aB o->M.get? b=aB o:=λb o e=>O.extBut b o (aS<|aw e)<|ak _ e;change mO _ _ (.expr body<|envX qual scope s.heap.objs.size f (.ref n) cl) _ _;have J:=RS (A:=A) (qual:=qual) (f:=f) (cd:=.ref n) (tk:=s.toks+1) I L hr.hd hA hm hv ru Y B;show kla_codeExpr<|lF (ht (hr.deeper _) [] _ _ H Q J h) (λv' P hs=>?_) λe P z=>z.elim;have(w,H',S,rv,q):=hs;show(w,H',S.os,S.bare,S.base,S.hok,rv,q)
 .cases r with
  |error e=>show G.elim
  |ok fl=>cases fl with
   |ret u'=>show I.after G
   |next=>show G.elim
   |brk=>show G.elim
   |cont=>show G.elim
def Nn{pos:Pos}(l:Ξ)(h:TriplesOk l)(hn:nC p (l++[oi pos.line,oi pos.col,c])=aB cv):nC p l=aB cv∨cv=c:=by fun_induction TriplesOk l with
 |case1=>
  simp only[cA,nC,oi]at hn;split at hn;.show iq<|fx (aB.inj hn)
  .cases hn
 |case2 a t b u x rest s=>
  simp only[dF,nC]at hn ⊢;split at hn;.rename_i n;rw[pZ n];show jE hn
  .rename_i n;rw[pW n];show s h hn
 |case3 l z B=>show j5 h
def TB{σ:St}
  (I:Inv X oO σ H s) (x:X.env.code = dS c) (C:codeHdIn X.K c P=t_) (U:%[P|X.env.qual ++ "<lambda>"]∈vM X.K) (L:defaultsOf l X.env=%[[]|[]]) (Y:nF scope X.env=pure cl)
  (h:∀(f G:Addr) M (vs:Ω) S t H' h' tk,Inv X oO σ H' { s with heap:=h',toks:=tk }->(∀b o,H b=aB o->H' b=aB o)->H' G=aB (.frz M<|.own P)->x9 M = j7 vs->vs[1]?=aB (XP (X.env.qual ++ "<lambda>") S) ->
   s.heap.objs.size<=f->H' f=n_->eL h' f=aB (kla_obj "<lambda>" (X.env.qual ++ "<lambda>") l body scope cl ((X.mg "__name__").getD ly) G t)->Q (dS f) { s with heap:=h',toks:=tk }) :
  lg (kZ X.prog X.w) A (eval (.Lambda l body scope pos)<|k7 X) Q E s:=by
 have hP:H P=aB (.tbl<|X.env.qual ++ "<lambda>"):=I.tb _ U;have C:CodeHd X.base c P:=codeHd_of_K I.mod.kin C;have(ps,hPs,ht,hbk):=L0 I P _ hP;have hg:s.heap.Ns lj X.mg:=I.mod.glob.keeps I.bk;have hgP:lj≠P:=λz=>by have(o,es,ep,e,_):=I.mod.glob;have:=(I.bs _ _ e).2;rw[z,hP]at this;cases this
 have hB':s.heap.BuiltinsAt X.mg P:=by
  have(bm,o,b1,b2,b3,b4,b5,b6):=I.mod.bmod;show(bm,o,b1,b2,λz=>?_,λz=>?_,I.bk _ _ b3,b4,b5,b6);.have(o',es,ep,e,d,_):=I.mod.glob;rw[z,e]at b3;cases b3;rw[d]at b6;cases b6
  .have:=(I.bs _ _ b3).2;rw[z,hP]at this;cases this
 cases hc:nC pos<|b9 ps with
 |some cv=>have(b,M,vs,S,e1,e2,e3,e4):=hbk pos cv hc;subst e1;show kla_eval L<|kla_makeFunctionHit (mg:=X.mg) Y I.ok.glob hg x (C.keeps I.bk) hPs ht hc hB' λt h' tk hk B=>?_;show h h'.objs.size b M vs S t H _ tk (I.un (Un.kept λb o e=>ak _<|hk b o e)<|I.hok.kept λb o e=>ak _<|hk b o e) (λZ Z e=>e) e2 e3 e4 B ?_<|bw _ rfl;show p5 (L0 I) B
 |none=>
  show kla_eval L<|kla_makeFunction (mg:=X.mg) Y I.ok.glob hg x (C.keeps I.bk) hPs ht hc hgP hB' λG t h' tk hx R hlt hrec htb=>?_;have(c₂,M,vs,S,e2,hoc,hd,hv):=hrec;cases e2;have hn:H G=n_:=p5 (L0 I) R;have kp:∀b o,b≠P->eL (d7 s) b=aB o->eL (pF h'<|kla_obj "<lambda>" (X.env.qual ++ "<lambda>") l body scope cl ((X.mg "__name__").getD ly) G t) b=aB o:=λb o hb e=>ak _<|hx b o hb e;have nP:∀b,H b=n_->b≠P:=λb n z=>by rw[z,hP]at n;cases n
  have O:∀b u,H b=aB u->b≠G:=λb u e=>rp e hn;have B:s.heap.objs.size<=h'.objs.size:=bI R<|cY hlt;show h h'.objs.size G M vs S t (rG H G<|.frz M<|.own P) _ tk (I.un (λb o e n Z Z=>kp b o (nP b n) e,λb o e n Z Z=>(o.slots,kp b o (nP b n) e),λb o e n Z=>?_,λb o e Z=>?_,λb xs e=>?_,λb o u e=>?_,λb q e=>?_) λb u e=>?_) (λb o e=>?_) pS hd hv B ?_<|bw _ rfl;.rw[pK<|aS<|bg (aw e) R];show n
  .by_cases hb:b=P;.cases hb;show(_,ak _ htb)
   .show(o,kp b o hb e)
  .rw[pK<|O _ _ e];show e
  .rw[pK<|O _ _ e];show e
  .rw[pK<|O _ _ e];show e
  .by_cases hb:b=G;.cases hb;rw[pS]at e;cases e;show(ak _ hoc,(_,ak _ hoc))
   .rw[pK hb]at e;by_cases hb2:b=P
    .cases hb2;rw[hP]at e;cases e;show(_,ak _ htb,?_,λp cv hcv=>?_);.rw[aM];show TriplesOk_snoc _ _ _ _ ht
     .rw[aM]at hcv;obtain z|z:=Nn (b9 ps) ht hcv;.have(b2,oc2,vs2,tq2,z1,z2,z3):=hbk p cv z;show(b2,oc2,vs2,tq2,z1,by rw[pK<|O _ _ z2];show z2,z3)
      .show(G,M,vs,S,z,pS,hd,hv)
    .show(L0 I b u e).stay (λb2 v J q=>kp b2 v ?_ q) (λb2 q=>?_) (λb2 xs q=>?_) λb2 o q=>?_
     .obtain rfl|J:=J;.show hb2
      .intro z;rw[z,hP]at J;cases J
     .rw[pK<|O _ _ q];show q
     .rw[pK<|O _ _ q];show q
     .rw[pK<|O _ _ q];show q
  .rw[pK<|O _ _ e];show e
  .rw[pK<|gG hlt];show p5 (L0 I) B
def Tw(X:Cx)(l:Φ)(σ:St)(A:Around)(n:Hp)(f:Addr)(t:Obj)(x:V->Hp->VK->Prop):Prop:=∀more H s v u Q,Inv X (l++more) σ H s->qi n H->eL (d7 s) f=aB t->qH v u->x v H Q ->
  lg (kZ X.prog X.w) A (call (dS f) [u]) (EP X (l++more) σ Q) (λZ Z=>False) s
structure Sy (X:Cx)(oO:Φ)(H:Hp)(h:Heap)(I S f:Addr)(oI so fo:Obj):Prop where
 fI:yu X oO H I
 fS:yu X oO H S
 ff:yu X oO H f
 hI:h.get? I=aB oI
 hS:h.get? S=aB so
 hf:h.get? f=aB fo
def Ma(turn:Tw X l σ A L f n M)(J:Inv X l σ H s)(O:Sy X l H s.heap I S f t so n)
  (cI:∀v,x9 t ≠ p8 v) (cS:∀v,x9 so ≠ p8 v) (cf:∀v,x9 n ≠ p8 v) (s0:qi L H) (r:qH v u) (h:M v H Q) :
  lg (kZ X.prog X.w) A (call (dS f) [u]) (λP G=>∃B x,Inv X l σ x G/\qH B P/\Q B x/\Sy X l x G.heap I S f t so n) (λZ Z=>False) s:=by
 have I2:Inv X (l++[%[I|t],%[S|so],%[f|n]]) σ H s:=J.pins_of λp hp=>by
  obtain z|z:=mAq.mp hp;.show J.pin p<|ah _ z
  .simp only[ae,cP,or_false]at z;obtain rfl|rfl|rfl:=z;.show(O.hI,O.fI.1,O.fI.2.1,O.fI.2.2.1,cI)
   .show(O.hS,O.fS.1,O.fS.2.1,O.fS.2.2.1,cS)
   .show(O.hf,O.ff.1,O.ff.2.1,O.ff.2.2.1,cf)
 show lF (turn _ H s v u Q I2 s0 O.hf r h) (λP G hq=>?_) λZ Z e=>e;have(B,x,E,rv,q):=hq;have R:=E.pin %[I|t] ⋯;have U:=E.pin %[S|so] ⋯;have Y:=E.pin %[f|n] ⋯;show(B,x,E.unpinned,rv,q,(R.2.1,O.fI.2),(U.2.1,O.fS.2),(Y.2.1,O.ff.2),R.1,U.1,Y.1)
end Mr
namespace Z
open PySem PySem.W L2 Mr
open PySem.Spec PyProof.Rows
noncomputable def SE(S:AS)(i:Nat):Option D:=cq (S[i]?) λx=>cq x λa=>(match a with|b8 d=>aB d|_=>n_)
def Yx(h:SE S i=aB d):S[i]?=aB (aB<|b8 d):=by skip;have(x,n,h):=oBq.mp h;have(a,s,l):=oBq.mp h;subst s;cases a with
 |sh t=>cases l;show n
 |_=>cases l
end Z
namespace Mr
open PySem PySem.Calls PySem.Spec PyProof.Rows L2
def Zm(K:Ζ):V->List V->Hp->VK->Prop:=λx vs H Q=>∃a xs k,x = c6 a/\vs=[k]/\tJ K H a xs/\yI k=t_/\xs.all yI=t_/\Q (c7 (xs.countP λy=>QN y k:Nat)) H
theorem Pm:∀{xs}{l},qB xs l->xs.all yI=t_->l.countP (JK x)=xs.countP λy=>QN y x
 |_,_,lX,_=>rfl
 |y::xs,u::l,iL r t,f=>by rw[gQ,fu]at f;rw[gZ,gZ,Jt r f.1,Pm t f.2]
def Xw:MtR X "list.count"<|Zm X.K:=by
 intro R s σ H x S v U Q I G r h;have(a,Y,k,rfl,rfl,hS,J,fs,q):=h;cases G;have(u,rfl,L):=xq r;have(l,z,(o,n,B,M,t,hd),hz):=tu I hS;have(cls,dd,E,O):=o;subst M t hd;show mU fN (_,B,rfl) iQ (iK _ _)
  (aA4 a (c5 l) n n_ O u<|JK k) (B,λy P=>ym L J z fs y<|by simpa using P,?_);show(c7 _,H,I.tok _,(_,rfl),?_);rw[Pm z fs];show q
end Mr
namespace Mr
open PySem PySem.W L2 PySem.Calls
open PySem.Spec PyProof.Rows
def FF(l:V->Hp->VK->Prop):List V->V->Int->Hp->VK->Prop
 | [],n,_,H,Q=>Q n H
 |x::xs,n,cb,H,Q=>l x H λv s=>qi H s/\∃c,v = c7 c/\(if c<cb then FF l xs x c s Q else FF l xs n cb s Q)
noncomputable def kwD:List<|Str×Value:=[%[eB "default"|ly]]
def YZ(q:Q (kQ<|decide<|a<b) s):lg (kZ P w) A (oH .Lt (jK a t)<|jK b u) Q E s:=CmpOf.ints_lt (λi=>if i=0 then a else b) (λi v h=>h) 0 1 _ _ _ _ _ (t,rfl) (u,rfl) q
def L9(hh:aA2 A=n_)(hu:ph A+64<lZ)(turn:Tw X P σ A.in1 H0 f fo kq)(cf:∀v,x9 fo ≠ p8 v)(hlI:a≠I)(R:S≠I)(hfI:f≠I)(hfS:f≠S) :
  ∀r j H s xb ub cb tb c oI,de xs-(j+1)=r->j+1<=de xs->Inv X P σ H s->qi H0 H->tJ X.K H a xs->Sy X P H s.heap I S f oI (lE "list" #[ub,jK cb tb] c) fo->t9 (d7 s) I a (j+1)->qH xb ub ->
   FF kq (xs.drop<|j+1) xb cb H Q ->
   mO (kZ X.prog X.w) A (.builtin "min.loop" ([dS I,dS f,dS S],kwD)) (λr s'=>match r with|.ok (.ret u)=>EP X P σ Q u s'|_=>False) s:=by
 have B:(toString "min" ++ toString ".loop" : String) = "min.loop" := by rfl
 intro r;induction r with
 |zero=>
  intro j H s xb ub cb tb c oI hr hj J s0 hS O hit rb hM;have hin:j+1=de xs:=by lia
  have(n,rv,pl,hz):=tu J hS;have hsz:n.toArray.size=de xs:=by rw[aE];show fx (n7 rv)
  have W:=aA5 (prog:=g9 X) (w:=X.w) (A:=A.in1) hh I a hlI<|c5 n;show lI fR ?_;simp only[hQ cB _];change lg _ A.in1 (oB (dS S) >>= _) _ _ _;show kU<|nA O.hS rfl ?_;change lg _ A.in1 (tryCatch (oj<|dS I) _ >>= _) _ _ _;show kU<|mC<|W.done _ _ _ (by rw[hsz,←hin];show hit,j6 pl) λh' E t=>?_;have J1:Inv X P σ H { s with heap:=h',toks:=E }:=xA (fp:=[I]) J t λb hb=>by rw[mSq.mp hb];show O.fI
  have hS':=t S _ (by simpa using R) O.hS;have s1:=fL.update h' S<|fk λZ=>(#[]:Ω);change lg _ A.in1 (updateSeq S (λZ=>#[]) >>= _) _ _ _;show kU ?_;show ni hS' rfl<|kU<|nV<|lz ?_;have J2:Inv X P σ H { s with heap:=oN h' S (fk λZ=>(#[]:Ω)),toks:=E }:=xA (s:={ s with heap:=h',toks:=E }) (fp:=[S]) J1 (λb o hb e=>fq (s1.2 b<|λz=>hb<|by simp[z]) e) λb hb=>by rw[mSq.mp hb];show O.fS
  rw[cQ<|by simp +arith[*]]at hM;show(xb,H,J2,rb,hM)
 |succ r ih=>
  intro j H s xb ub cb tb c oI hr hj J s0 hS O hit rb hM;have G:j+1<de xs:=by lia
  have(n,rv,pl,hz):=tu J hS;have hsz:n.toArray.size=de xs:=by rw[aE];show fx (n7 rv)
  have W:=aA5 (prog:=g9 X) (w:=X.w) (A:=A.in1) hh I a hlI<|c5 n;show lI fR ?_;simp only[hQ cB _];change lg _ A.in1 (oB (dS S) >>= _) _ _ _;show kU<|nA O.hS rfl ?_;change lg _ A.in1 (tryCatch (oj<|dS I) _ >>= _) _ _ _;show kU<|mC<|W.item (j+1) _ _ _ (by rw[hsz];show G) (hit,j6 pl) λv h' E hP hst' t=>?_;have hv:n[j+1]?=aB v:=by simpa using hP
  have(u2,hu2,rx):=rv.get (i:=j+1) (x:=xs[j+1])<|gEg G;rw[hv]at hu2;cases hu2;have(L,hoI',hoc,hod):=id hst'.1;have J1:Inv X P σ H { s with heap:=h',toks:=E }:=xA (fp:=[I]) J t λb hb=>by rw[mSq.mp hb];show O.fI
  have O1:Sy X P H h' I S f L (lE "list" #[ub,jK cb tb] c) fo:=(O.fI,O.fS,O.ff,hoI',t S _ (by simpa using R) O.hS,t f _ (by simpa using hfI) O.hf);rw[az G]at hM;change lg _ A.in1 (tryCatch (nH [v]<|call (dS f) [v]) _ >>= _) _ _ _;show kU<|mC<|lP<|lF (Ma turn J1 O1 (λv z=>by rw[hod]at z;cases z) (λv z=>by cases z) cf s0 rx hM) (λu' s2 he=>?_) λZ Z hF=>j5 hF;have(v',H2,J2,rv2,(U,ck,rfl,Y),M):=he;have(l,rfl):=rv2;have hit2:t9 (d7 s2) I a<|j+1+1:=(L,M.hI,hoc,hod);change lg _ A.in1 (tryCatch (nH [v,jK ck l]<|oH .Lt (jK ck l) (jK cb tb) >>= _) _ >>= _) _ _ _;show kU<|mC<|lP<|kU<|YZ ?_;show kU<|lP<|mq ?_;show kU<|nV<|lz ?_;by_cases hb':ck<cb
  .have s1:=fL.update s2.heap S<|fk λZ=>#[v,jK ck l];obtain⟨c2,hc2⟩:∃c2,eL (oN (d7 s2) S<|fk λZ=>#[v,jK ck l]) S=aB (lE "list" #[v,jK ck l] c2):=(_,mQ M.hS λZ=>#[v,jK ck l]);rw[pZ hb']at Y;simp only[hb',decide_true,if_true];show kU ?_;show ni M.hS rfl<|kU<|nV ?_;rw[B];have J3:Inv X P σ H2 { s2 with heap:=oN (d7 s2) S (fk λZ=>#[v,jK ck l]),toks:=sq s2 }:=xA (fp:=[S]) J2 (λb o hb e=>fq (s1.2 b<|λz=>hb<|by simp[z]) e) λb hb=>by rw[mSq.mp hb];show M.fS
   show lz (mn cB _,ih (j+1) H2 _ _ v ck l c2 L ∅ G J3 (eW s0 U) (U.seq hS) (M.fI,M.fS,M.ff,fq (s1.2 I<|mr R) M.hI,hc2,fq (s1.2 f hfS) M.hf) (L,fq (s1.2 I<|mr R) M.hI,hoc,hod) rx Y)
  .rw[pW hb']at Y;simp only[hb',decide_false,eG,if_false];show kU<|nV ?_;rw[B];show lz (mn cB _,ih (j+1) H2 _ xb ub cb tb c L ∅ G J2 (eW s0 U) (U.seq hS) M hit2 rb Y)
def Ur(l:V->Hp->VK->Prop):List V->Hp->VK->Prop
 | [],H,Q=>Q nc H
 |x::xs,H,Q=>l x H λv n=>qi H n/\∃c,v = c7 c/\FF l xs x c n Q
def W9 a v:argsOk "min" ([a],[%[eB "key"|v],%[eB "default"|ly]]):=by kernel_rfl
def Kq(hh:aA2 A=n_)(hu:ph A+64<lZ)(turn:Tw X u σ A.in1 H0 f fo kq)(cf:∀v,x9 fo ≠ p8 v)
  (J:Inv X u σ H s) (s0:qi H0 H) (hS:tJ X.K H a xs) (ff:yu X u H f) (hf:eL (d7 s) f=aB fo) (hM:Ur kq xs H Q) :
  lg (kZ X.prog X.w) A (call (gp "min") [dS a] [%[eB "key"|dS f],%[eB "default"|ly]]) (EP X u σ Q) E s:=by
 have n:(toString "min" ++ toString ".loop" : String) = "min.loop" := by rfl
 have(B,rv,pl,hz):=tu J hS;have G:=j6 pl;have(ol,hol,_):=id G;have hll:a<s.heap.objs.size:=aw hol;have S:f<s.heap.objs.size:=aw hf;show kmk_tree PySem.F.kind_min PySem.F.plain_min PySem.F.entry_min (W9 _ _) ?_;change lg _ A.in1 (sT "min" ["key","default"] 0 ([],[%[eB "key"|dS f],%[eB "default"|ly]]) >>= _) _ _ s;show kU<|wpAny_of_eq (show sT "min" ["key","default"] 0 ([],[%[eB "key"|dS f],%[eB "default"|ly]])=pure [aB<|dS f,aB ly]from rfl) ?_;show kU<|lz ?_;show kU<|wpAny_pyIter_list G ?_;show kU<|mW ?_<|aY _;rw[n];have U:(pF (d7 s) { cls:=iU "list_iterator", data:=j7 #[dS a,jK 0 0] }).objs.size=s.heap.objs.size+1:=ot ..;have kp:∀b o,eL (d7 s) b=aB o->eL (pF (pF (d7 s) { cls:=iU "list_iterator", data:=j7 #[dS a,jK 0 0] })<|lE "list" #[] 0) b=aB o:=λb o e=>ak _<|ak _ e;have gI:eL (pF (pF (d7 s) { cls:=iU "list_iterator", data:=j7 #[dS a,jK 0 0] })<|lE "list" #[] 0) s.heap.objs.size=aB { cls:=iU "list_iterator", data:=j7 #[dS a,jK 0 0] }:=ak _<|bw _ rfl;have gS:eL (pF (pF (d7 s) { cls:=iU "list_iterator", data:=j7 #[dS a,jK 0 0] })<|lE "list" #[] 0) (s.heap.objs.size+1)=aB (lE "list" #[] 0):=by rw[←U];show bw _ rfl
 rw[U];generalize hI:s.heap.objs.size=I at *;have Y:a≠I:=aS hll;have L:I+1≠I:=jT I;have hfI:f≠I:=aS S;have hfS:f≠I+1:=aS<|dX S;have fI:yu X u H I:=J.fpOk (fM hI)<|p5 (L0 J)<|fM hI;have fS:yu X u H<|I+1:=J.fpOk (by rw[hI];show cO I)<|p5 (L0 J)<|by rw[hI];show cO I
 show lz (mn cB _,?_);have W:=aA5 (prog:=g9 X) (w:=X.w) (A:=A.in1) hh I a Y<|c5 B;cases xs with
 |nil=>
  have O:B.toArray.size=0:=by rw[aE];show fx (n7 rv)
  show lI fR ?_;rw[hQ cB _];change lg _ A.in1 (oB (dS _) >>= _) _ _ _;show kU<|nA gS rfl ?_;change lg _ A.in1 (tryCatch (oj<|dS I) _ >>= _) _ _ _;show kU<|mC<|W.done _ _ _ (by rw[O];show(_,gI,rfl,rfl),(G.push _).push _) λh' P t=>?_;have J1:Inv X u σ H { s with heap:=h',toks:=P }:=xA (fp:=[I]) J (λb o hb e=>t b o hb<|kp b o e) λb hb=>by rw[mSq.mp hb];show fI
  change lg _ A.in1 (rule _ >>= _) _ _ _;show kU<|wpAny_rule<|lz (nc,H,J1,rfl,hM)
 |cons x0 xs=>
 have O:B.toArray.size=de xs+1:=by rw[aE];show fx (n7 rv)
 show lI fR ?_;rw[hQ cB _];change lg _ A.in1 (oB (dS _) >>= _) _ _ _;show kU<|nA gS rfl ?_;change lg _ A.in1 (tryCatch (oj<|dS I) _ >>= _) _ _ _;show kU<|mC<|W.item 0 _ _ _ (by rw[O];show kB _) ((_,gI,rfl,rfl),(G.push _).push _) λv h' P hP hst' t=>?_;have hv:B[0]?=aB v:=by simpa using hP
 have(u2,hu2,rx):=rv.get (i:=0) (x:=x0) rfl;rw[hv]at hu2;cases hu2;have(R,hoI',hoc,hod):=id hst'.1;have J1:Inv X u σ H { s with heap:=h',toks:=P }:=xA (fp:=[I]) J (λb o hb e=>t b o hb<|kp b o e) λb hb=>by rw[mSq.mp hb];show fI
 have O1:Sy X u H h' I (I+1) f R (lE "list" #[] 0) fo:=(fI,fS,ff,hoI',t _ _ (by simpa using L) gS,t f _ (by simpa using hfI)<|kp _ _ hf);change lg _ A.in1 (tryCatch (nH [v]<|call (dS f) [v]) _ >>= _) _ _ _;show kU<|mC<|lP<|lF (Ma turn J1 O1 (λv z=>by rw[hod]at z;cases z) (λv z=>by cases z) cf s0 rx hM) (λu' s2 he=>?_) λZ Z hF=>j5 hF;have(v',H2,J2,rv2,(s2',ck,rfl,hM2),M):=he;have(l,rfl):=rv2;have s1:=fL.update s2.heap (I+1)<|fk λZ=>#[v,jK ck l];obtain⟨c2,hc2⟩:∃c2,eL (oN (d7 s2) (I+1)<|fk λZ=>#[v,jK ck l]) (I+1)=aB (lE "list" #[v,jK ck l] c2):=(_,mQ M.hS λZ=>#[v,jK ck l]);change lg _ A.in1 (updateSeq (I+1) (λZ=>#[v,jK ck l]) >>= _) _ _ _;show kU ?_;show ni M.hS rfl ?_;rw[n];have J3:Inv X u σ H2 { s2 with heap:=oN (d7 s2) (I+1) (fk λZ=>#[v,jK ck l]),toks:=sq s2 }:=xA (fp:=[I+1]) J2 (λb o hb e=>fq (s1.2 b<|λz=>hb<|by simp[z]) e) λb hb=>by rw[mSq.mp hb];show M.fS
 show lz (mn cB _,nu (L9 (xs:=x0::xs) hh hu turn cf Y L hfI hfS _ 0 H2 _ x0 v ck l c2 R rfl (gR<|aY _) J3 (eW s0 s2') (s2'.seq hS) (M.fI,M.fS,M.ff,fq (s1.2 I<|mr L) M.hI,hc2,fq (s1.2 f hfS) M.hf) (R,fq (s1.2 I<|mr L) M.hI,hoc,hod) rx hM2) λr s' h=>?_);cases r with
 |error e=>show j5 h
 |ok fl=>cases fl <;> first|show h|show h.elim
def LB(K:Ζ)(i:Nat)(te:TA)(tb:TE):TE:=λσ H Q=>te σ H λvs l=>∃a xs n,vs=[c6 a]/\σ[i]?=aB (aB n)/\tJ K l a xs /\
 ∀s,qi l s->Ur (λv H Q=>tb [aB v,aB n] H Q) xs s Q
def Ow(hr:uw (k+1+1) X.A)(hc:X.calm=t_)(hg:Gl X "min")(hm:X.mg "min" = n_)(t:X.env.code = dS c)(C:codeHdIn X.K c P=t_)(E:%[P|X.env.qual ++ "<lambda>"]∈vM X.K)
  (G:defaultsOf l X.env=%[[]|[]]) (O:nF scope X.env=pure cl) (L:ED X x m scope cl) (hN:X.N[i]?=aB m) (ha:PA X [e] te)
  (hb:∀pm J u n,ou (kla_fn "<lambda>" (X.env.qual ++ "<lambda>") l body scope cl pm (dS n) J) ([u],[])=pure [%[x|u]])
  (ht:∀f n s H,uw k (Iu X X.A.in1 [x,m] (X.env.qual ++ "<lambda>") scope f (dS n) cl s H).A->PE (Iu X X.A.in1 [x,m] (X.env.qual ++ "<lambda>") scope f (dS n) cl s H) body tb)
  (he:↑(mH pos (lC [e]<|k7 X)=%[f_|eval e<|k7 X]::mH pos (lC []<|k7 X))) (R:↑((mH pos<|lC [e]<|k7 X).any (·.1)=f_)) :
  PE X (ri (fY "min" p) [e] [(aB "key", .Lambda l body scope B,kp),(aB "default", MU .none j cp,dp)] pos)<|LB X.K i te tb:=by
 intro oO s σ H Q I h;show mF<|yV I hg hm boot_min ?_ ⋯<|by rfl
 show callWith_kw (thn (ha pos oO s σ H _ I h) λus s1 S=>kws_cons ?_) he R rfl rfl;have(vs,H1,U,r1,a,xs,vm,e1,Y,hS,hM):=S;subst e1;have(u,rfl,ru):=xq r1;cases ru;show TB U t C E G O λf n oc ws tq J H2 h' tk I2 sm hc' hd hv hge hn hf=>kws_cons<|wpAny_Constant_none<|kws_nil ?_;have M:qi H1 H2:=sm;show Kq (U.ok.hd hc) hr.units ?_ (λv z=>by cases z) I2 (j4 _) (M.seq hS) (U.fpOk hge hn) hf<|hM H2 M;intro more H3 s3 v u3 Q3 I3 s03 hf3 rv hk;show XW I3 L hr.in1 rfl hN Y rv hf3 ?_ (hb _ _ _ _) (λr=>ht f n s3 H3 r) hk;have(q1,_):=L0 I3 n _<|s03 _ _ hc';show(n,oc,ws,tq,rfl,q1,hd,hv)
end Mr
namespace Z
open PySem PySem.W L2 Mr Xe
open PySem.Spec PyProof.Rows
def FR:D->List D->Option D
 | ew ds,[k]=>cq (Ml k) λx=>(Ap ds).map λxs=>b7 (xs.countP λy=>QN y x:Nat)
 |_,_=>n_
def Ys{K}:BmD K (Zm K) FR:=by
 intro x J H Q L M d l n e q;unfold FR at e;split at e;.have(y,s,e):=oBq.mp e;have(O,t,e):=oMq.mp e;cases e;have(v,P,rfl,u,z):=k8 n;rw[n8 z];have(rfl,B):=Ed s u;have(p,R,rfl,E,G):=ro l;have(rfl,I):=yM t G;show(p,_,_,rfl,rfl,l6 E,B,I,q _ t8)
 .cases e
def QJ(l:MK)(n d:D):Option Int:=cq (l [aB<|b8 d,aB<|b8 n]) λy=>(match y.1 with|b8 k=>intOf k|_=>n_)
def HU(l:MK)(n:D):List D->D->Int->Option D
 | [],s,_=>aB s
 |d::ds,s,cb=>cq (QJ l n d) λc=>if c<cb then HU l n ds d c else HU l n ds s cb
def O3(l:MK)(n:D):List D->Option D
 | []=>aB j0
 |d::ds=>cq (QJ l n d) λc=>HU l n ds d c
def Gv(i:Nat)(l:ML)(n:MK):ME:=λS=>cq (l S) λx=>cq (SE x.2 i) λs=>(O3 n s x.1).map λd=>%[d|x.2]
section
variable {K:Ζ}
def Qx(hb:SK K tb kb)(s:qi Hf H)(r:rN K Hf d v)(B:rN K Hf n u)(e:QJ kb n d=aB c)Q(q:∀l,qi H l->Q (c7 c) l):tb [aB v,aB u] H Q:=by
 have(y,E,e):=oBq.mp e;have G:qD K Hf [d,n] [v,u]:=.cons r<|.cons B .nil;have R:=HW (N:=[(""), ""]) s G;have I:=R;show hb I E Q λJ l L w F t R2 x ow=>?_;split at e;.rename_i k hk;rw[hk]at x;have M:=M9 e;cases x with
  |sh z=>rw[M]at z;cases z;show q l t.sh
 .cases e
def UJ(hb:SK K tb kb)(P:rN K Hf I J)Q:∀{ds}{vs}{u}{n}{cb}{d}{H},qi Hf H->qD K Hf ds vs->rN K Hf u n->HU kb I ds u cb=aB d->(∀z v,qi H z->rN K Hf d v->Q v z) ->
  FF (λv H Q=>tb [aB v,aB J] H Q) vs n cb H Q:=by intro ds;induction ds with
 |nil=>intro vs u n cb d H s l B e q;cases vs with
  |cons=>show absurd l.1 ⋯
  |nil=>cases e;show q H n (j4 _) B
 |cons x ds L=>intro vs u n cb d H s l B e q;cases vs with
  |nil=>show absurd l.1 ⋯
  |cons v vs=>
   have(c,R,e):=oBq.mp e;have M:=l.2 0 x v rfl rfl;have rt:qD K Hf ds vs:=(by have:=l.1;simpa using this,λi a b S U=>l.2 (i+1) a b (by show S)<|by show U);show Qx hb s M P R _ λz t=>(t,c,rfl,?_);by_cases O:c<cb;.rw[pZ O]at e ⊢;show L (eW s t) rt M e λE w G=>q E w<|eW t G
   .rw[pW O]at e ⊢;show L (eW s t) rt B e λE w G=>q E w<|eW t G
def MZ(hl:SQ K te l)(hb:SK K tb kb):SR K (LB K i (qR te wx) tb)<|Gv i l kb:=by
 intro H₀ G Hf S σ H Fs d S' R e Q q;have(x,e1,e):=oBq.mp e;have(dm,e2,e):=oBq.mp e;have(d',E,e):=oMq.mp e;cases e;show hl R e1 _ λn O Fs1 p1 t P s I u=>?_;have(vm,F,hv,hF,rm):=s.rep i _<|Yx e2;have z:=by cases rm with|sh r=>show r
 show(p1,t,vm,rfl,hv,I,λU B=>?_);generalize x.1=J at *;cases J with
 |nil=>cases E;rw[n8 u];have L:yY n O Fs1 n U Fs1:=(j4 _,B,λZ h=>h,λb h g=>absurd h g);show q n U Fs1 nc (lr P L) (s.laid B) .non
 |cons d0 J=>cases t with
  |nil=>show absurd u.1 ⋯
  |cons v0 vs=>have(c,e4,E):=oBq.mp E;have X:=u.2 0 d0 v0 rfl rfl;have rt:qD K n J vs:=(by have:=u.1;simpa using this,λi a b I h2=>u.2 (i+1) a b (by show I)<|by show h2);show Qx hb (eW s.sub B) X z e4 _ λH' M=>(M,c,rfl,?_);show UJ hb z Q (eW (eW s.sub B) M) rt X E λY w s3 rw=>?_;have sa:=eW (eW B M) s3;have L:yY n O Fs1 n Y Fs1:=(j4 _,sa,λZ h=>h,λb h g=>absurd h g);show q n Y Fs1 w (lr P L) (s.laid sa)<|y0 rw<|eW s.sub sa
end
def QZ(S)i l n:Gv i l n S=cq (l S) λx=>cq (SE x.2 i) λs=>(O3 n s x.1).map λd=>%[d|x.2]:=rfl
end Z
namespace Z
open PySem L2 Mr Xe
noncomputable def VF(l:Ϝ):List V:=l.reverse.map λz=>c7<|-z
def EI(K:Ζ):Sp:=λvs H Q Z=>∃p q xs l,vs=[c6 p,c6 q]/\p≠q/\H p=aB (eH xs)/\H q=aB (eH<|l.map c7)/\de xs+de l<aAo/\Q nc (rG (rG H p<|eH<|xs++VF l) q<|eH [])
def RH(h:EI K vs H Q E):de vs=2:=by have(p,q,l,n,rfl,_):=h;rfl
def Vo(K:Ζ):TS:=Jk (SB<|Ux (P5 λi j=>pY<|decide<|j<i) (VN (λxs H Q=>∃x n,xs=[x]/\aa0 K x H n/\Q (c7 n) H)<|qR (va 1) wx)<|tC<|c7 0)
 (zL<|Sl K "list" yz (va 0)<|qR (tUn (rU λi=>c7<|-i)<|aa4 K "list" (λx vs=>X3 x vs)<|va 1) wx)
def UF(l)y:VF (l++[y])=c7 (-y)::VF l:=by delta VF;rw[bU];rfl
def Q6(h:EI K vs H Q E):Vo K { nx:=λZ t=>Q nc t,rt:=Q } (y7 ["_law_turn","_law_opened"] vs) H:=by
 have(p,q,L,M,rfl,G,X,Y,hl,hq):=h;change Vo K _ [aB<|c6 p,aB<|c6 q] H;show UR (λσ t=>σ=[aB<|c6 p,aB<|c6 q]/\∃s u,t p=aB (eH s)/\t q=aB (eH<|u.map c7)/\(∀b,b≠p->b≠q->t b=H b)/\s++VF u=L++VF M) (λZ t=>match t q with|aB (eH l)=>de l|_=>0) (rfl,L,M,X,Y,λZ Z Z=>rfl,rfl) ?_ ?_
 .rintro σ t ⟨rfl,s,u,R,g2,U,S⟩;show(c6 q,rfl,c6 q,de (u.map c7),rfl,jE (_,l6 g2,rfl),_,_,rfl,rfl,_,rfl,?_);obtain z|⟨B,y,z⟩:=dJ u
  .subst z;change Q nc t;have e:t=rG (rG H p<|eH<|L++VF M) q (eH []):=by
    funext b;by_cases hb:b=q;.subst hb;rw[pS];show g2
    .rw[pK hb];by_cases I:b=p;.subst I;rw[pS,R,←S];simp[VF]
     .rw[pK I];show U b I hb
   rw[e];show hq
  .rw[dN]at z;subst z;have J:de s+de (B++[y])=de L+de M:=by have:=congrArg de S;simpa[VF]using this
   rw[pZ ⋯];show(c6 p,rfl,jE (rfl,_,l6 R),c6 q,rfl,jE (rfl,_,l6 g2),q,_,c7 y,rfl,rfl,g2,by simp,?_);show(y,rfl,p,s,c7<|-y,rfl,rfl,by rw[pK G];show R,by skip;lia,?_);have O:l8 ((B++[y]).map c7)=B.map c7:=by simp
   show((rfl,s++[c7<|-y],B,pS,by simp only[pK<|mr G,pS,O],λb b1 b2=>by rw[pK b1,pK b2];show U b b1 b2,by rw[af,←S,UF];rfl),?_);simp only[pK<|mr G,pS,g2,O];simp
 .intro σ t P P' hm hc;have(v,e1,x,n,O,e3,e4):=hc;have(i,j,e5,e6,k,e7,e8):=e4;show(v,e1,x,n,O,e3,i,j,e5,e6,k,e7,hm _ _ e8)
noncomputable def Zu(l:List AV):Option Ϝ:=l.mapM λa=>match a with|b8 (b7 z)=>aB z|_=>n_
theorem P9:∀{n}{l},Zu n=aB l->n=l.map λz=>b8<|b7 z
 | [],l,e=>by cases e;rfl
 |a::n,l,e=>by
  delta Zu at e;rw[km]at e;have(z,s,e):=oBq.mp e;have(u,t,e):=oBq.mp e;cases e;rw[aq,←P9 t];split at s;.cases s;rfl
  .cases s
theorem JP:∀l:Ϝ,Zu (l.map λz=>b8<|b7 z)=aB l
 | []=>rfl
 |y::l=>by unfold Zu;rw[aq,km];have:=JP l;unfold Zu at this;rw[this];rfl
noncomputable def hmA(l:Ϝ):List AV:=l.reverse.map λz=>b8<|b7<|-z
def Rv(R:qv K H₀ n Hf S σ H Fs)(e:S[i]?=aB (aB<|d8 avs))(s1:σ[i]?=aB (aB v))(L:qW (d8 avs) path=aB as)(h:Hj H v path<|c6 p)
  (M:S[j]?=aB (aB<|d8 J)) (ez:Zu J=aB l) (s:i≠j) (hl:de as+de l<aAo) :
  ∃q,σ[j]?=aB (aB<|c6 q)/\∀Q E,(∀O t,qv K H₀ n Hf (fb (fb S i<|aB<|putAt (d8 avs) path<|as++hmA l) j<|aB<|d8 []) σ O t->Q nc O)->EI K [c6 p,c6 q] H Q E:=by
 have hz:=P9 ez;subst hz;have(q,ws,Gs,u,t2,x,g2,g3,g4,g5,g6):=R.ow M;have B:ws=l.map c7:=by
  have r:qp K Hf H (d8<|l.map λz=>b8<|b7 z) (c6 q)<|q::bt Gs:=vl x g2 g3;have:=r.rep R.sub;rw[qZ,mPq]at this;have(q',us,e1,P,U):=ro this;cases e1;rw[x]at P;cases P;show tI (ns:=l) (H:=H) (K:=K) ?_;have e4:(oY∘λz:Int=>b8<|b7 z)=b7:=by funext z;rfl
  rw[e4]at U;show U
 subst B;have(v',F,X,m2,r,nd,oo,_):=R.move e;rw[s1]at X;cases X;have(p',vs',Es,k1,k2,k3,k4,k5,_):=r.path nd L;have G:=h.one k1;cases G;have I:p≠q:=λz=>by have:=(g6 q ⋯).2;rw[←z]at this;show this<|qe (by rw[ar<|mr s];show m2) k5
 have(vs,l1,l2,l3):=R.grow e s1 L h;show(q,u,λQ E hq=>(p,q,vs,l,rfl,I,l1,x,by rw[←l2];show hl,?_));have rr:qD K Hf (l.reverse.map λz=>b7<|-z)<|VF l:=by have:=vy (K:=K) (H:=Hf)<|l.reverse.map λz=>-z;rw[mPq,mPq]at this;show this
 have Y:=OZ (H:=H) rr;rw[mPq]at Y;have(t,R1):=l3 (hmA l) (VF l) _ Y (by rw[uP];show bA)<|λb hb=>by rw[uP]at hb;cases hb
 have(q',ws',Gs',u1,u2,u3,u4,u5,u6,u7,u8):=R1.ow (i:=j) (avs:=l.map λz=>b8<|b7 z)<|by rw[ar s];show M
 rw[u]at u1;cases u1;show hq _ _ (R1.turn u u2 ⋯ (F':=[q]) (vl (Gs:=[]) pS u4 .nil) ⋯ λb hb=>u8 b (by rw[mSq.mp hb];show aa ..))
def CO(i j:Nat):Θ->MS:=λpath S=>cq (qQ S i) λavs=>cq (qW (d8 avs) path) λas=>cq (qQ S j) λn=>cq (Zu n) λl=>xN (i≠j/\de as+de l<qS)<|aB<|gb<|fb (fb S i<|aB<|putAt (d8 avs) path<|as++hmA l) j<|aB<|d8 []
def Jh(i j:Nat)(l:MP):MS:=λS=>cq (l S) λx=>CO i j x.1 x.2
def QA(R:qv K H₀ l Hf S σ H B)(s1:σ[i]?=aB (aB v))(h:Hj H v path w)(e:CO i j path S=aB o)E :
  ∃q,σ[j]?=aB (aB<|c6 q)/\∀Q:VK,(∀S' s n,o = gb S'->qv K H₀ l Hf S' σ s n->Q nc s)->EI K [w,c6 q] H Q E:=by
 have(G,u,e):=oBq.mp e;have(U,z,e):=oBq.mp e;have(X,I,e):=oBq.mp e;have(Y,L,e):=oBq.mp e;obtain⟨⟨t,hl⟩,e⟩|e:=qo e
 .cases e;have(p,vs,rfl,_):=DL R (pU u) s1 z h;have(q,M,k):=Rv R (pU u) s1 z h (pU I) L t<|by show hl
  show(q,M,λQ O=>k Q E λs n P=>O _ s n rfl P)
 .cases e
def Xm:Ni K x i (zL<|En (EI K) [] E0<|qR (va x)<|qR (va j) wx)<|CO i j:=by intro path H₀ l Hf S σ H I o R A e D h;have(v,p,L,M,O,P,t,u,n):=A;have(q,z,k):=QA R u n e E0;show(c6 p,t,c6 q,z,k (λQ s=>D.nx σ s) λQ s B E G=>?_);subst E;show h _ _ _ _ (j4 _) G
def VU(s:SPh K i tp pf):SS K (zL<|En (EI K) [] E0<|qR tp<|qR (va j) wx)<|Jh i j pf:=by intro H₀ l Hf S σ H P o R e D h;have(x,t,e):=oBq.mp e;show s R t _ λu Q Fs1 v w z B E G=>?_;have(q,I,k):=QA B E G e E0;show(c6 q,I,k (λZ n=>D.nx σ n) λU n L M O=>?_);subst M;show h _ _ _ _ z.sf O
def OI(i j)path S:CO i j path S=cq (qQ S i) λavs=>cq (qW (d8 avs) path) λas=>cq (qQ S j) λn=>cq (Zu n) λl=>xN (i≠j/\de as+de l<qS)<|aB<|gb<|fb (fb S i<|aB<|putAt (d8 avs) path<|as++hmA l) j<|aB<|d8 []:=rfl
def Yj(i j)l S:Jh i j l S=cq (l S) λx=>CO i j x.1 x.2:=rfl
def XS{g:TG}{tb:TS}{D:AU}(l:Nat->St->Hp->Prop)(E:l 0 σ H)(hl:∀i σ H,i<=de xs->l i σ H->tJ K H a xs)
  (G:∀i x σ H,(dw xs)[i]?=aB x->l i σ H->g x σ H λn z=>tb { D with nx:=l (i+1),ct:=l (i+1),bk:=D.nx } n z) (hd:∀σ H,l (de xs) σ H->D.nx σ H) :
  ∃W:Nat->Nat->St->Hp->Prop,(∃m,W 0 m σ H)/\∀i m σ H,W i m σ H ->
   ((Mr.Itv K a<|de xs).stop i H/\D.nx σ H)∨((Mr.Itv K a<|de xs).go i H/\∃N:St->Hp->Prop,(∀s t,N s t->∃B,B<m/\W (i+1) B s t)/\∀x t,(Mr.Itv K a<|de xs).yld i H x t->g x σ t λn z=>tb { D with nx:=N,ct:=N,bk:=D.nx } n z):=by
 show(λi m σ H=>m=de xs-i/\i<=de xs/\l i σ H,(de xs,by simp,aY _,E),?_);rintro i m σ H ⟨rfl,hi,p⟩;have q:=hl i σ H hi p;by_cases u:i<de xs;.show iq ((xs,q,rfl,u),l<|i+1,λs t I=>(de xs-(i+1),by omega,rfl,u,I),λx t y=>?_);have(e,y):=y;subst e;show G i x σ _ (by rw[XJ u];show y xs q) p
 .have e:i=de xs:=by rfl'
  subst e;show jE (ag _,hd σ H p)
def Qp(hk:SK K te k)(hb:SS K tb body):SS K (Hn (acL K<|qR te wx) (sO x) tb)<|Qr x k body:=by
 intro H₀ B Hf S σ H Fs o R e D h;have(y,G,e):=oBq.mp e;have(z,e1,G):=oBq.mp G;have(ds,e2,G):=oMq.mp G;subst G;have hk':SK K te<|tx k:=tc hk;show hk' R e1 _ λI H1 Fs1 v F t1 R1 r1 o1=>?_;have(d,hd):=vg (te:=te) e1;rw[hd]at r1;rw[hd]at e2;have(a,vs,rfl,g1,g2):=uX e2 (pj r1).2;have g3:=g2.reverse;show(a,vs,rfl,R1.sub.seq g1,XS (λi n U=>∃l J s,qv K H₀ B l J n U s/\qi I l/\rA x body (ds.reverse.drop i) J=aB o) (I,z.2,Fs1,R1,j4 _,e)
  (λi n U _ ⟨l,J,s,L,u,_⟩=>L.sub.seq<|u.seq g1) ?_ ?_);.rintro i w n U hw ⟨l,J,s,L,u,E⟩;have(di,M,rw'):=g3.get' hw;have hlt:=(gSq.mp M).1;rw[az hlt]at E;have O:=(gSq.mp M).2;rw[O]at E;have(ob,e3,X):=oBq.mp E;show hb (L.setD x<|y0 rw' u) e3 _ ?_;cases ob with
  |nx Y=>show λt P H2 Fs2 Q R2=>(t,Y,Fs2,R2,eW u Q,X)
  |ct Y=>show λt P H2 Fs2 Q R2=>(t,Y,Fs2,R2,eW u Q,X)
  |bk Y=>cases X;show λt P H2 Fs2 Q R2=>h _ _ _ _ (eW (eW t1.sf u) Q) R2
  |rt a=>cases X;show h
 .rintro n U ⟨l,J,s,L,u,E⟩;rw[←g2.1,←iz,bT]at E;cases E;show h _ _ _ _ (eW t1.sf u) L
def VA(x)k body S:Qr x k body S=cq (iRv k S) λy=>rA x body y.1 y.2:=rfl
def OF(f:D->D->Option D)(b m:ME):ME:=λS=>cq (b S) λx=>cq (m x.2) λy=>cq (f x.1 y.1) λd=>if x.1.scal=t_/\d.scal=t_ then aB %[d|y.2]else n_
def ZK(hr:FB K r f)(hb:SR K tb b)(ha:SM K n m):SM K (Ux r tb n)<|OF f b m:=by
 intro H₀ l Hf S σ H X d Y R e Q q;have(x,t,e):=oBq.mp e;have(y,u,e):=oBq.mp e;have(z,B,e):=oBq.mp e;split at e;.rename_i s;cases e;show hb R t _ λE H1 Fs1 v1 G I L=>ha I u _ λM H2 Fs2 v2 O R2 P=>?_;show hr (L.scal s.1) (y0 P R2.sub) B λv U=>q _ _ _ v (eW G.sf O) R2<|U.scal s.2
 .cases e
def YH(hk:SK K te k)(hb:SR K tb b):IL K J (C0 te<|YW (va i) tb Pg)<|Md i b k:=by intro H₀ Q Hf S σ H Fs o R e D h;have(x,e1,e):=oBq.mp e;have(a0,e0,e):=oBq.mp e;have(y,e2,e):=oBq.mp e;have(avs,e3,e):=oBq.mp e;have(j,M,e):=oBq.mp e;have(n,e5,e):=oMq.mp e;cases e;have U:SK K te<|tx k:=tc hk;show U R (a:=x.1) (S':=x.2) e1 _ λHf1 H1 Fs1 v F t1 R1 r1 o1=>?_;have(u,_,_,O,_):=R1.ow<|pU e0;show(_,O,hb R1 e2 _ λHf2 H2 Fs2 w t2 R2 r2=>?_);have(q',X,Y,B,s2',E,G,s,I,h5',t):=R2.ow<|pU e3;rw[O]at B;cases B;cases hy:y.1 with
 |int z=>
  rw[hy]at M r2;cases M;cases r2;obtain⟨x1,L⟩:∃d,x.1 = b8 d:=by have(w,_,e):=oMq.mp e1;rw[←e];show(_,rfl)
  rw[L]at r1;have rv:=y0 ((pj r1).2) t2.sf;have P:=λq l=>(s.owned q l).2;show(u,X,_,n,rfl,rfl,E,by rw[←s.1];show e5,?_);have(v0,F0,t1',t2',r0,nd0,o0,R0):=R2.move<|pU e3;have R4:=R0.frz (λq l=>t q<|mCo _ l) P;have r4:=s.frozen (rL P) λq l=>A0 l;have r5:=y9 E (by rw[uu I];show G) r4;have R5:=R4.again (F:=u::bt Y) O r5 ⋯ λq l=>by rw[mSq.mp l];show t u ⋯
  have s5:(fb Fs2 i [u])[i]?=aB [u]:=by have hi:=(gSq.mp s2').1;rw[aA hi]
  have R6:=R5.turn O s5 ⋯ (y9 pS (by rw[uu I];show G)<|r4.set (y0 rv<|rL P) n) ⋯ λq l=>by rw[mSq.mp l,dC];show t u ⋯
  rw[dC]at R6;rw[L]at h;show h _ _ _ _ (eW (eW t1.sf t2.sf)<|rL P) R6 λZ Z=>rfl
 |_=>rw[hy]at M;cases M
def X8(hk:SK K te k)(hb:SR K tb b):IL K J (C0 te<|YW (va i) tb Pg)<|Md i b k:=YH hk hb
def Wb(f)b m S:OF f b m S=cq (b S) λx=>cq (m x.2) λy=>cq (f x.1 y.1) λd=>if x.1.scal=t_/\d.scal=t_ then aB %[d|y.2]else n_:=rfl
abbrev MFn:=List AV->Option (AV×AV×AV)
noncomputable def Ex(l n j s:Nat)(m:MS)(k:MK):MFn:=λas=>if de as=l then cq (m<|as.map aB++ao (n-de as) n_) λo=>match o with
  | gb S'=>cq (k S') λx=>cq (q9 x.2[j]?) λa=>(q9 x.2[s]?).map λc=>%[x.1|%[a|c]]
  |_=>n_
 else n_
def T6(K:Ζ)(j u:Nat)(f:MFn):Sp:=λvs H Q Z=>∃Hf as Gs r,qi Hf H/\ql K Hf H as vs Gs/\c8 (bt Gs)/\f as=aB r /\
 ∀l n v w t F F' s,vs[j]?=aB w->vs[u]?=aB t->qi Hf l->(∀b,b∉bt Gs->∀o,H b=aB o->n b=aB o)->qi l n->(∀b,Hf b=n_->H b≠n_->b∉bt Gs->l b=n_)->qp K l n r.1 v F->qp K l n r.2.1 w F'->qp K l n r.2.2 t s->c8 (F++F'++s)->(∀q∈F++F'++s,H q=n_∨q∈bt Gs)->Q v n
def KZ{l:List Δ}{j:Nat}(n:j≠s)(nd:c8 (bt l))(u:l[j]?=aB F)(x:l[s]?=aB t):∀a∈F,a∉t:=λa ha hb=>by have:=uU nd u ha;show this<|qe (by rw[ar n];show x) hb
def On{t}N(h:IL K [j,l] t m)(hk:SK K te k)(J:j<B/\l<B/\j≠l)(Y:T6 K j l (Ex B (de N) j l m k) vs H Q E):CG t (VC te) { nx:=λZ O=>Q nc O,rt:=Q } (y7 N vs) H:=by
 have(Hf,as,G,r,s,P,nd,e,q):=Y;delta Ex at e;split at e;.have(o,e1,R):=oBq.mp e;cases o with
  |nx S'=>
   have(x,e3,e4):=oBq.mp R;have(a,e5,e6):=oBq.mp e4;have(c,e7,e8):=oMq.mp e6;subst e8;show h (aa5 N s P nd) e1 _ λHf' σ' O Fs' s' R' hJ=>?_;show hk R' e3 _ λu S Fs2 v F t2 R2 r2 I=>?_;have hl:=P.1;have key:∀{i:Nat}{a:AV},i∈[j,l]->i<B->q9 x.2[i]?=aB a->∃w n,vs[i]?=aB w/\Fs2[i]?=aB n/\qp K u S a w n/\c8 n/\∀q∈n,SG H (bt G) q=n_:=λ{i a} hi hlt ha=>by
    have(w',n,U,s2,r1,L,oo,_):=R2.move<|qE ha;have hw:=gEg<|show i<de vs by lia
    have M:(y7 N vs)[i]?=aB (aB vs[i]):=by delta y7;rw[gZq<|by simp;lia,gMq,hw];rfl
    rw[hJ i hi,M]at U;cases U;show(_,n,hw,s2,r1,L,λq hq=>(oo q hq).1)
   have(w1,F1,g1,g2,g3,g4,g5):=key ⋯ J.1 e5;have(w2,F2,k1,X,k3,k4,k5):=key (i:=l) ⋯ J.2.1 e7;have un:∀q,SG H (bt G) q=n_->H q=n_∨q∈bt G:=λq h=>by
    by_cases m:q∈bt G;.show iq m
    .rw[DK m]at h;show jE h
   show q u S v w1 w2 F F1 F2 g1 k1 R2.sf (λb hb o e=>R2.fr b o<|by rw[DK hb];show e) R2.sub (λb h1 h2 hb=>R2.lim b h1<|by rw[DK hb];show h2) r2 g3 k3 ?_ λp hp=>?_
   .show e9 nAq (e9 nAq (I.nd,g4,λa ha b hb e=>I.out a ha<|qe g2<|e ▸ hb),k4,λa ha b hb e=>?_);subst e;obtain z|z:=mAq.mp ha;.show I.out a z<|qe X hb
    .show KZ J.2.2 R2.nd g2 X a z hb
   .obtain z|z:=mAq.mp hp
    .obtain z|z:=mAq.mp z;.show un p<|I.fr p z
     .show un p<|g5 p z
    .show un p<|k5 p z
  |_=>cases R
 .cases e
def K3{t}N(h:SSr K [j,l] t m k)(s:j<n/\l<n/\j≠l)(u:T6 K j l (Ex n (de N) j l m k) vs H Q E):t { nx:=λZ x=>Q nc x,rt:=Q } (y7 N vs) H:=by have(t0,G,rfl,z,B):=h;show On N z B s u
def S9(u:T6 K j t (Ex l n j t m k) vs H Q E):de vs=l:=by
 have(Hf,z,B,r,s,x,nd,e,q):=u;delta Ex at e;split at e;.rename_i h;rw[←x.1,h]
 .cases e
def Gr(i i':Nat)(f:MFn)(k:MK)(a:MA):MK:=λS=>cq (tx k S) λz=>cq (qQ z.2 i) λavs=>cq (qQ z.2 i') λl=>cq (a<|fb (fb z.2 i n_) i' n_) λx=>cq (f<|b8 (oY z.1) :: d8 avs :: d8 l::x.1.map λa=>b8<|oY a) λr=>xN (i≠i'/\x.2[i]?=aB n_/\x.2[i']?=aB n_)<|aB %[r.1|fb (fb x.2 i<|aB r.2.1) i'<|aB r.2.2]
def Nq(hk:SK K te k)(ha:SA K ta a):SW K (En (T6 K 1 2 f) [] E0<|qR te<|qR (va i)<|qR (va i') ta)<|Gr i i' f k a:=by
 intro H₀ s Hf S σ H Fs av S' R e Q q;have(z,e0,e):=oBq.mp e;have(avs,e1,e):=oBq.mp e;have(M,O,e):=oBq.mp e;have(x,e2,e):=oBq.mp e;have(r,e3,e):=oBq.mp e;obtain⟨⟨t,hi,P⟩,e⟩|e:=qo e
 .cases e;have U:SK K te<|tx k:=tc hk;show U R e0 _ λHf0 H0 Fs0 v0 F0 t0 R0 r0 o0=>?_;have(d,hd):=vg (te:=te) e0;rw[hd]at r0 e3;have rd:=(pj r0).2;have(w,F,s1,s2,X,nd,o,R1):=R0.move<|pU e1;have(w2,J,u1,u2,Y,nd2,o2,R1'):=R1.move (i:=i') (av:=d8 M)<|by rw[ar t];show pU O
  rw[ar t]at u2;have dis:∀a∈F,a∉J:=KZ t R0.nd s2 u2;show(w,s1,w2,u1,ha R1' e2 _ λHf1 H1 Fs1 vs Gs t1 R2 r2 o3=>?_);have(L,r3,u):=R2.gives t1 r2 o3;have oF:∀q∈F,q∉bt (fb (fb Fs0 i []) i' []):=λq n m=>by
   obtain z|z:=rn m;.cases z
   .show(o q n).2 z
  have rF:=X.stp oF u;have rF2:=Y.stp (λq n=>(o2 q n).2) u;rw[aNq];have B:bt ([]::F::J::ao (de x.1) ([]:Δ))=F++J:=by simp only[fCq,cA,fCq,fCq,uP,aNq]
  have oG:∀q∈F++J,H₀ q=n_/\q∉bt Fs1:=λq n=>by
   obtain z|z:=mAq.mp n;.show((o q z).1,λm=>oF q z<|u.own q m)
   .show((o2 q z).1,λm=>(o2 q z).2<|u.own q m)
  show(_,_,_,r,L.sub,ql.cons (.sh<|y0 rd u.sf)<|ql.cons rF<|ql.cons rF2<|abJ r3,by rw[B];show e9 nAq (nd,nd2,λa ha b hb e=>dis a ha<|e ▸ hb),e3,?_);rw[B];intro E H' v w1 w1' Fv F' F2' hw hw' sf hs sub l k1 k2 k3 kn G;cases hw;cases hw';have R4:=L.chg oG sf hs sub l;have(n12,n3,d3):=nAq.mp kn;have(n1,n2,d2):=nAq.mp n12;have fr:∀q∈Fv++F'++F2',H₀ q=n_/\q∉bt Fs1:=λq n=>by
   obtain z|z:=G q n;.show(L.fr.free z,λm=>(L.mem m).1 z)
   .show oG q z
  have R5:qv K H₀ s E (fb x.2 i n_) σ H'<|fb Fs1 i []:=by rw[BD hi,BD<|R4.emp i hi];show R4
  have R6:=R5.again (F:=[]) s1 k2 n2 λq n=>((fr q<|by simp[n]).1,λm=>(fr q<|by simp[n]).2<|qN m);have I:(fb x.2 i<|aB r.2.1)[i']?=aB n_:=by rw[ar t];show P
  have R7:qv K H₀ s E (fb (fb x.2 i<|aB r.2.1) i' n_) σ H'<|fb (fb Fs1 i F') i' []:=by rw[BD I,BD<|R6.emp i' I];show R6
  have R8:=R7.again (F:=[]) u1 k3 n3 λq n=>((fr q<|by simp[n]).1,λm=>by
   obtain z|z:=rn<|qN m;.show d3 q (ah _ z) q n rfl
   .show(fr q<|by simp[n]).2 z);show q _ _ _ v Fv (eW (eW t0.sf u.sf) sf) R8 k1 n1 λq n=>((fr q<|by simp[n]).1,λm=>?_);obtain z|z:=rn m;.show d3 q (ai _ n) q z rfl
  .obtain z|z:=rn z;.show d2 q n q z rfl
   .show(fr q<|by simp[n]).2 z
 .cases e
def RF(i i')f k a S:Gr i i' f k a S=cq (tx k S) λz=>cq (qQ z.2 i) λavs=>cq (qQ z.2 i') λl=>cq (a<|fb (fb z.2 i n_) i' n_) λx=>cq (f<|b8 (oY z.1) :: d8 avs :: d8 l::x.1.map λa=>b8<|oY a) λr=>xN (i≠i'/\x.2[i]?=aB n_/\x.2[i']?=aB n_)<|aB %[r.1|fb (fb x.2 i<|aB r.2.1) i'<|aB r.2.2]:=rfl
end Z
namespace Mr
open PySem PySem.Calls PySem.Spec PyProof.Rows L2
def ZE:V->List V->Hp->VK->Prop:=λx vs H Q=>∃(a:Addr) (ns:Ϝ) (k:Int),x = c6 a/\vs=[c7 k]/\H a=aB (eH<|ns.map c7)/\k∈ns/\Q nc (rG H a<|eH<|ef (ns.map c7)<|ns.idxOf k)
theorem Ol:∀{ns:Ϝ}{l},qB (ns.map c7) l->∀{i:Nat}h {n},ns[i]?=aB n->JK (c7 k) l[i]=decide (n=k)
 | [],_,_,i,_,n,e=>by cases e
 |m::ns,u::l,iL r t,0,h,n,e=>by cases e;show Jt r rfl
 |m::ns,u::l,iL r t,i+1,h,n,e=>Ol t (jk h) e
def Wt:MtM X "list.remove" ZE:=by
 intro oO s σ H x vs v us Q I P R h;have(a,t,k,rfl,rfl,M,S,q):=h;cases P;have(u,rfl,U):=xq R;have(z,l,n,r,hl,e):=I.lstM M;have hn:de l=de t:=by have:=n7 r;rw[lMq]at this;show fx this
 have E:t.idxOf k<de l:=hn ▸ e9 iP S;have fl:(t.map c7).all yI=t_:=by rw[kF,fF];intro _ _;rfl
 show mU iR (_,e,rfl) PySem.F.entry_list_remove (PySem.F.args_list_remove_2 _ _)
  (abn (eq:=JK<|c7 k) (j:=t.idxOf k) (by show E) ?_ ?_ ?_) (e,λy Y=>ym U rfl r fl y<|by simpa using Y,?_);.rw[jw,Ol r E (n:=k)<|by rw[gEg<|hn ▸ E,gD]];show d5 (rfl:k=k)
 .rw[aE];rw[←hl];show z
 .intro j G J;have B:j<de l:=by show G
  have L:j<de t:=hn ▸ B;rw[jw,Ol r B<|gEg L];show d6 λw=>?_;have O:=gO (p:=(· == k)) J;rw[beq_eq_false_iff_ne]at O;show O w
 .show(nc,_,I.lset (its':=ef l<|t.idxOf k) M e ?_ ?_ ?_,rfl,q);.unfold h9;rw[dif_pos<|by show E];apply Array.toList_inj.mp;simp
  .show MR r _
  .rw[fc];split;.have:=z;lia
   .have:=z;rfl'
end Mr
namespace Z
open PySem L2 Mr Xe
def Vi(i:Nat)(b:ME):MS:=λS=>cq (qQ S i) λQ=>cq (b S) λy=>cq (intOf y.1) λk=>cq (qQ y.2 i) λavs=>cq (sP<|avs.map oY) λns=>cq (cq avs[ns.idxOf k]? X5) λQ=>if k∈ns then aB (gb<|fb y.2 i<|aB<|d8<|ef avs<|ns.idxOf k)else n_
def YC(hb:SR K tb b):SS K (zL<|Sl K "list" ZE (va i)<|qR tb wx)<|Vi i b:=by
 intro H₀ t Hf S σ H Fs o R e D h;have(a0,L,e):=oBq.mp e;have(y,M,e):=oBq.mp e;have(k,O,e):=oBq.mp e;have(P,E,e):=oBq.mp e;have(G,Q,e):=oBq.mp e;have(d0,U,e):=oBq.mp e;split at e
 .rename_i X;cases e;have(a,Y,u):=oBq.mp U;have u:=NY u;subst u;have(p,vs,Gs,x,_,h1,_):=R.ow<|pU L;show(c6 p,x,jE (rfl,vs,l6 h1),hb R M _ λHf1 H1 Fs1 v t1 z I=>?_);have(p',B,w,F',n,hp,hl,hw,rw',R2):=z.lose (pU E) Y;rw[x]at n;cases n;have(v0,F0,J,_,rr):=z.rep i _<|pU E;rw[x]at J;cases J;have l:=rr.rep z.sub;rw[qZ,xI Q]at l;have(p2,us,q2,s,h4):=ro l;cases q2;rw[tI h4]at s;have ev:B=G.map c7:=by rw[hp]at s;cases s;rfl
  subst ev;rw[V2 O]at I;cases I;show(p,G,k,rfl,rfl,s,X,h _ _ _ _ t1.sf R2)
 .cases e
def aaC(S)i b:Vi i b S=cq (qQ S i) λQ=>cq (b S) λy=>cq (intOf y.1) λk=>cq (qQ y.2 i) λavs=>cq (sP<|avs.map oY) λns=>cq (cq avs[ns.idxOf k]? X5) λQ=>if k∈ns then aB (gb<|fb y.2 i<|aB<|d8<|ef avs<|ns.idxOf k)else n_:=rfl
def Kps(i:Nat)(t:TS):Prop:=∀(D:AU) (σ:St) H (N:St->Hp->Prop),(∀l n,D.nx l n->l[i]?=σ[i]?->N l n)->t D σ H->t { D with nx:=N } σ H
def Vy:Kps i<|Ti (va d) (va k)<|tC v:=by intro D σ H N h t;have(x,l,y,s,a,H4,e,dp,n):=t;show(x,l,y,s,a,H4,e,dp,h _ _ n rfl)
def Ef(x i:Nat)(ns:Ϝ)(body:MS):Ϝ->AS->Option E2
 | [],S=>aB<|gb S
 |n::l,S=>cq (body<|fb S x<|aB<|b8<|b7 n) λo=>match o with
  | gb S'=>cq (qQ S' i) λavs=>cq (sP<|avs.map oY) λms=>if ms=ns then Ef x i ns body l S' else n_
  |_=>n_
def TH(x i:Nat)(body:MS):MS:=λS=>cq (qQ S i) λavs=>cq (sP<|avs.map oY) λns=>if x=i then n_ else Ef x i ns body ns S
def Lv(R:qv K H₀ n Hf S σ H z)(e:qQ S i=aB avs)(B:sP (avs.map oY)=aB ns):∃p:Addr,σ[i]?=aB (aB<|c6 p)/\H p=aB (eH<|ns.map c7):=by have(p,J,L,s,_,M,_):=R.ow<|pU e;have(O,P,t,_,E):=R.rep i _<|pU e;rw[s]at t;cases t;have l:=E.rep R.sub;rw[qZ,xI B]at l;have(Q,U,G,u,I):=ro l;cases G;rw[tI I]at u;show(p,s,u)
def Xs(hk:Kps i tb)(hb:SS K tb body):SS K (Hn (FV K<|va i) (sO x) tb)<|TH x i body:=by
 intro H₀ t Hf S σ H Fs o R e D h;have(Y,e1,e):=oBq.mp e;have(O,e2,e):=oBq.mp e;split at e;.cases e
 .rename_i hx;have(p,s1,h1):=Lv R e1 e2;show(c6 p,s1,p,rfl,(_,l6 h1),DE (xs:=O.map c7) (λk u P=>∃z I E l,qv K H₀ t z I u P E/\qi Hf z/\qQ I i=aB l/\sP (l.map oY)=aB O/\u[i]?=aB (aB<|c6 p)/\Ef x i O body (O.drop k) I=aB o) (Hf,S,Fs,Y,R,j4 _,e1,e2,s1,e)
   (λk u P _ ⟨z,I,E,l,J,Q,a1,a2,U,_⟩=>?_) ?_ ?_);.have(p',t1,t2):=Lv J a1 a2;rw[U]at t1;cases t1;show l6 t2
  .rintro k w u P hw ⟨z,I,E,l,J,Q,a1,a2,U,L⟩;rw[gMq]at hw;have(n,hn,rfl):=oMq.mp hw;have hlt:=(gSq.mp hn).1;rw[az hlt,(gSq.mp hn).2]at L;have(ob,e3,B):=oBq.mp L;cases ob with
   |nx X=>
    have(M,b1,B):=oBq.mp B;have(ms,b2,B):=oBq.mp B;split at B
    .rename_i hms;cases hms;show hk (λG H2=>∃s Fs2,qv K H₀ t s X G H2 Fs2/\qi Hf s,D.rt,_,_) _ _ _ ?_<|hb (J.setD x t8) e3 _ ?_;.rintro G H2 ⟨s,Fs2,R2,s2⟩ hs;show(s,X,Fs2,M,R2,s2,b1,b2,?_,B);rw[hs,ar hx];show U
     .show λs G H2 Fs2 s2 R2=>(s,Fs2,R2,eW Q s2)
    .cases B
   |ct X=>cases B
   |bk X=>cases B
   |rt a=>cases B
  .rintro u P ⟨z,I,E,l,J,Q,a1,a2,U,L⟩;rw[lMq,bT]at L;cases L;show h _ _ _ _ Q J
def abk(x i)body S:TH x i body S=cq (qQ S i) λavs=>cq (sP<|avs.map oY) λns=>if x=i then n_ else Ef x i ns body ns S:=rfl
def OP:AV->Bool
 | b8 d=>d.scal
 |_=>f_
noncomputable def Zx:Option AV->Bool
 |aB (b8 _)=>t_
 |n_=>t_
 |_=>f_
def KG:AV->Option (List AV)
 | d8 avs=>if avs.all OP=t_ then aB avs else n_
 |_=>n_
noncomputable def fzO:Option AV->Option AV:=Option.map λa=>b8<|oY a
def Vg(S:AS):AS:=S.map fzO
def N1(k:MK):MK:=λS=>cq (k<|Vg S) λx=>(KG x.1).map λavs=>%[d8 avs|S]
def frA:Nat->AS->AS
 |0,S=>S
 |n+1,S=>frA n<|fb S n<|fzO<|q9 S[n]?
theorem Tc:∀n S,n<=de S->frA n S=(S.take n).map fzO++S.drop n
 |0,S,_=>by rfl
 |n+1,S,h=>by
  have hn:n<de S:=h;have e:q9 S[n]?=S[n]:=by rw[gEg hn];rfl
  have lt:de (S.take n)=n:=by rw[lTq];lia
  rw[frA,Tc n _<|by rw[lZq];rfl',e,List.set_eq_take_append_cons_drop,pZ hn,ip ∅,kf,kG,il ∅,cQ<|by rfl',dB hn,mBq,af];rfl
def qv.noOwn(R:qv K H₀ Hf₀ Hf S σ H Fs)(h:S.all Zx=t_):bt Fs=[]:=by rw[gK];intro F x;have(i,hi,rfl):=gv x;have l:=R.lenF ▸ hi;have s:=gEg hi;have t:=gEg l;have hn:=fF.mp h _<|gRq l;cases n:S[i]with
 |none=>
  have:=R.emp i<|by rw[t,n]
  rw[s]at this;show aB.inj this
 |some a=>
  have(v,F,_,u,r):=R.rep i a<|by rw[t,n]
  rw[n]at hn;cases a with
  |sh d=>rw[s]at u;rw[aB.inj u];show (pj r).1
  |ow _=>cases hn
  |owd _=>cases hn
  |owl _=>cases hn
def We(h:KG a=aB avs):a = d8 avs/\avs.all OP=t_:=by
 delta KG at h;split at h
 .split at h;.rename_i c;cases h;show(rfl,c)
  .cases h
 .cases h
theorem ql.flat(n:∀p,Hf' p=n_->Hf p=n_):∀{avs}{vs}{Gs},ql K Hf' H avs vs Gs->avs.all OP=t_->ql K Hf H avs vs Gs
 | [],vs,Gs,r,_=>by have(rfl,rfl):=r.nil_inv;show .nil
 |a::as,vs,Gs,r,h=>by have(v,x,F,l,rfl,rfl,s,t):=r.cons_inv;simp only[gQ,fu]at h;show ql.cons ?_<|ql.flat n t h.2;cases a with
  |sh d=>have(e,u):=pj s;rw[e];show .sh<|u.scal h.1
  |ow _=>cases h.1
  |owd _=>cases h.1
  |owl _=>cases h.1
theorem qv.frA:∀n {Hf}{S}{Fs},qv K H₀ Hf₀ Hf S σ H Fs->∃Hf' l,yY Hf H Fs Hf' H l/\qv K H₀ Hf₀ Hf' (frA n S) σ H l
 |0,Hf,S,Fs,R=>(Hf,Fs,.refl,R)
 |n+1,Hf,S,Fs,R=>by rw[Z.frA];cases e:S[n]?.join with
  |some a=>have(t,Fs1,u,x):=R.fz e;have(s,Fs2,z,R2):=qv.frA n x;show(s,Fs2,u.trans z,R2)
  |none=>
   have:S.set n (fzO n_)=S:=by
    apply df;intro i;by_cases c:n=i;.subst c;cases h:S[n]? with
     |none=>rw[bE,pZ rfl,pW<|by rw[List.getElem?_eq_none_iff]at h;lia]
     |some o=>rw[h]at e;subst e;rw[bE,pZ rfl,pZ (gSq.mp h).1];rfl
    .rw[ar c]
   rw[this];show qv.frA n R
def RL S:(Vg S).all Zx=t_:=by delta Vg;rw[kF,fF];intro o _;cases o <;> rfl
def GH(hk:SK K te k):SK K te<|N1 k:=by
 intro H₀ Hf₀ Hf S σ H Fs a S' R e Q q
 .have(x,G,e):=oBq.mp e;have(I,J,e):=oMq.mp e;cases e;have(L,hf):=We J;have(M,Fs1,O,s):=R.frA<|de S;rw[Tc _ _<|ag _,bC,bT,aNq]at s;have P:=s.noOwn<|RL S;show hk s G Q λt U Fs2 v F n R2 B u=>?_;rw[L]at B;have E:∀p,t p=n_->Hf p=n_:=λp l=>by cases X:Hf p with
   |none=>rfl
   |some o=>rw[(lr O n).sf p o X]at l;cases l
  have new:=λp l=>t6 (u.new p l) id λz=>by rw[P]at z;cases z
  have out:=λp l m=>(R.mem m).1<|new p l;have(p,vs,Gs,rfl,rfl,Y,h2,h3):=B.ow_inv;show q Hf U Fs _ _ (j4 _,n.sh,λZ h=>h,λb h g=>absurd h g) (R.more n.sh (j4 _) (eW R.sub n.sh) (λq hq=>(R.mem hq).2) R.lim) (vl Y (E p h2)<|ql.flat E h3 hf) (u.nd,u.fr,out,λp l=>jE<|new p l)
def Qc(k)S:N1 k S=cq (k<|S.map fzO) λx=>(KG x.1).map λavs=>%[d8 avs|S]:=rfl
def DF:fzO n_=n_:=rfl
def De a:fzO (aB a)=aB (b8<|oY a):=rfl
end Z
namespace Mr
open PySem PySem.W L2 PySem.Calls
open PySem.Spec PyProof.Rows
def ED.of{cl}(kind:scope.kind = o5)(co:scope.isCoroutine=f_)(gen:scope.isGenerator=f_)(h:(scope.names.all λp=>(p.2 != n4) && (p.2 != sD || p.1 == m))=t_)
  (xl:scope.names.lookup x=aB j8) (ml:scope.names.lookup m=aB sD) (n:∃c,cl=[%[m|c]]/\X.env.cells.lookup m=aB c) (vis:aA6 (k7 X) m=aB n4):ED X x m scope cl:=(kind,co,gen,λy l z=>by have:=fF.mp h y l;rw[z]at this;show absurd this ⋯,xl,ml,λy l=>by have:=fF.mp h _<|eF l;simpa using this,n,vis)
def okC{K}{st}(F:Y3 K x qual st f fd)(S:pR N ps<|oX st)(len:∀vs H Q E,sp vs H Q E->de vs=de ps)
  (l:∀A outer s H vs Q E,uw k (sv A<|mE qual (oX st) s.heap.objs.size f fd.code)->sp vs H Q E ->
   ∃t,Km (Jv UN P w K mg base N qual (oX st) f fd.code A outer s H E).nox (uW st) t/\t { nx:=λZ z=>Q nc z,rt:=Q } (vf N vs) H):Dj P w K mg base UN (k+1) f fd ps sp:=by have(I,J,kV,B,pm,L,M,ct,G,rfl,lk,n):=F.ex;show ZH lk n S len λA outer s H vs Q E hr u=>?_;have(t,h,q):=l A outer s H vs Q E hr u;show(t,h.nox,q)
end Mr
namespace Mr
open PySem L2
def pl8(P:PE X l E)(Q:PE X n G)(R:PE X s H)(S:PE X t I)(U:PE X u J)(Y:PE X x L)(h7:PE X z M)(h8:PE X B O)(s1:wI l=t_)(s2:wI n=t_)(s3:wI s=t_)(s4:wI t=t_)(s5:wI u=t_)(s6:wI x=t_)(s7:wI z=t_)(s8:wI B=t_):PE X (.List [l,n,s,t,u,x,z,B] pos)<|abF<|qR E<|qR G<|qR H<|qR I<|qR J<|qR L<|qR M<|qR O wx:=by show qJ (X:=X) ?_;show @wW X _ _ _ _ P ?_ s1;show @wW X _ _ _ _ Q ?_ s2;show @wW X _ _ _ _ R ?_ s3;show @wW X _ _ _ _ S ?_ s4;show @wW X _ _ _ _ U ?_ s5;show @wW X _ _ _ _ Y ?_ s6;show @wW X _ _ _ _ h7 ?_ s7;show @wW X _ _ _ _ h8 ?_ s8;show oT
end Mr
namespace Mr
open PySem PySem.Spec PyProof.Rows L2
def qP(S:pR N P sc)(n:PE X e te)(s:↑(X.N=N))(hi:↑(X.N[i]?=aB x))(t:↥(Loc X.env.scope x))(u:↑(nS e (aB<|fY x l) pos.line X.env=pure f_))(hf:↥(X.fn x=t_∨X.env.scope.names.lookup x=aB j8)) :
  PS X (aA7 [fY x l] e pos)<|C0 te<|sO i:=aal (s ▸ S.nd) hi t n u hf
def Cc(S:pR N P sc)(l:↑(X.N=N))(hi:↑(X.N[i]?=aB x))(n:↥(Loc X.env.scope x))(hf:↥(X.fn x=t_∨X.env.scope.names.lookup x=aB j8)):PG X (fY x pos)<|sO i:=DI (l ▸ S.nd) hi n hf
section
variable {st:Stmt}
def rz(G:Fn X.prog X.w X.K X.mg X.base k x st ps sp f fd)(hr:uw n X.A)(ha:PA X (e::es) t)(hk:⇑(k<=n))(u:↑(Gl X x))(l:⇑((x == ("__debug__" : Str))=f_))
  (z:↑(lC (e::es) X.env=%[f_|eval e<|k7 X]::lC es X.env)) (s:↑((mH pos<|lC es<|k7 X).any (·.1)=f_)) :
  PE X (ri (fY x p) (e::es) [] pos)<|En sp [] E0 t:=adk G (hr.mono hk) ha u l z s
end
def sC(a:↑(l.kind = o5))(b:↑(l.isCoroutine=f_))(c:↑(l.isGenerator=f_))(d:↥(c8 N))(e:↑(N.take (de P)=P))(f:↥(∀x∈P,l.names.lookup x=aB j8∨l.names.lookup x=aB n4))(g:↥(∀y∈fX l,y.2 ≠ sD)):pR N P l:=(a,b,c,d,e,f,g)
def Kg{K}{st}(D:yO K mg x st ps f fd)(S:pR N ps<|oX st)
  (h:∀l A outer s H E,uw k (sv A<|mE x (oX st) s.heap.objs.size f l)->ph (sv A<|mE x (oX st) s.heap.objs.size f l)+64<lZ->ph (sv A<|mE x (oX st) s.heap.objs.size f l)+65<lZ ->
   ∃t,Km (Jv UN P w K mg base N x (oX st) f l A outer s H E).nox (uW st) t/\Z.SS K t m):Fn P w K mg base (k+1) x st ps (Z.tE K<|Z.sY (de ps) (de N) m) f fd:=(D,D.F.ok S (λn H Q E h=>Z.IS h) λl A outer s H n Q E hr hh=>by have(t,a,b):=h l A outer s H E hr hr.units<|aAx hr;show(t,a,Z.Dx N b hh))
def K5{K}{st}(D:yO K mg x st ps f fd)(S:pR N ps<|oX st)
  (h:∀l A outer s H E,pR N ps (oX st)->uw k (sv A<|mE x (oX st) s.heap.objs.size f l)->ph (sv A<|mE x (oX st) s.heap.objs.size f l)+64<lZ->ph (sv A<|mE x (oX st) s.heap.objs.size f l)+65<lZ ->
   ∃t,Z.SS K t m/\Km (Jv UN P w K mg base N x (oX st) f l A outer s H E).nox (uW st) t):Fn P w K mg base (k+1) x st ps (Z.tE K<|Z.sY (de ps) (de N) m) f fd:=(D,D.F.ok S (λn H Q E h=>Z.IS h) λl A outer s H n Q E hr hh=>by have(t,b,a):=h l A outer s H E S hr hr.units<|aAx hr;show(t,a,Z.Dx N b hh))
def abT(n:ph X.A+1<lZ)(hi:PE X i ty)(s:PE X o l)(t:mL LM o=f_):PT X (aAl i [LM] [o] pos)<|tB<|Jf ty l:=NX (Iw n hi s) t
end Mr
namespace L2
open PySem PySem.Spec PyProof.Rows
def ab7(H:Hp):Prop:=∀b,H b=n_∨(∃o xs,H b=aB (.frz o<|eH xs))∨∃q,H b=aB (.tbl q)
def DW(K:Ζ)(h:Heap):Prop:=∀q∈vM K,(vM K).lookup q.1=aB q.2/\K.lookup q.1=n_/\eL h q.1=aB (W.tabObj #[])/\∃c,W.CodeHd h c q.1
structure Ent (K:Ζ)(a:Addr)(ob:Obj)(xs:List V)(H:Hp):Prop where
 what:∀b u,H b=aB u->(b=a/\K.lookup a=n_/\u = .frz ob (.lst xs))∨∃q,u = .tbl q/\%[b|q]∈vM K
 tb:W7 K H
def Ent.only{K}(e:Ent K a l xs H):ab7 H:=λb=>by cases q:H b with
 |none=>show jE rfl
 |some u=>
  obtain⟨_,_,z⟩|⟨n,z,_⟩:=e.what b u q;.show iq<|jE (l,xs,by rw[z])
  .show iq<|iq (n,by rw[z])
section
variable {K:Ζ}{mg mb:Str->Υ}{s₁:kS}{vs:Ξ}{ns:Ϝ}
def Ent.none(e:Ent K a { cls:=iU "list", data:=mY<|c5 vs } (ns.map c7) H)(ha:eL (d7 s₁) a=aB { cls:=iU "list", data:=mY<|c5 vs })(n:DW K<|d7 s₁)(h:eL (d7 s₁) b=aB o)(s:o.cls = iU "list" -> False∨∃l ep,x9 o = .dict l ep)(t:o.cls = ly->∃l ep,x9 o = .dict l ep):H b=n_:=by cases q:H b with
 |none=>rfl
 |some u=>
  obtain⟨z,_,_⟩|⟨x,_,z⟩:=e.what b u q
  .subst z;rw[ha]at h;cases h;obtain z|⟨_,_,z⟩:=s rfl;.show j5 z
   .cases z
  .have:=(n _ z).2.2.1;rw[h]at this;cases this;have(_,_,z):=t rfl;cases z
def Mi(G:Ent K a { cls:=iU "list", data:=mY<|c5 vs } (ns.map c7) H)
  (KX:K.In<|d7 s₁) (I:s₁.heap.Ns lj mg) (hb:s₁.heap.Ns mz mb) (R:∀x:Str,x ≠ "__name__" -> mb x=mI x) (J:s₁.heap.NoLimit) (hg:s₁.gens=#[]) (Q:DW K<|d7 s₁)
  (S:∃L o,mg "__builtins__" = aB (dS L)/\L≠mz/\eL (d7 s₁) L=aB o/\o.cls = iU "module" /\ o.dict=aB mz/\x9 o = .plain)
  (ha:eL (d7 s₁) a=aB { cls:=iU "list", data:=mY<|c5 vs }) (hr:uw k nB)
  (F:∀base:Heap,K.In base->base.Ns lj mg->Dj P w K mg base CX k fa fd [x] sp) (B:∀s u,nI s fd ([u],[]) [%[x|u]])
  (hok:CQ P w H<|d7 s₁) (U:sp [c6 a] H (λv Z=>v = pY t_) λZ Z Z=>False)
  (X:∀H e E,CX [] H s₁ (λZ Z Z=>False) e E->False) :
  mO (kZ P w) nB (.call (dS fa) ([dS a],[])) (λr E=>r = .ok (.ret<|kQ t_)/\OldK s₁.heap E.heap/\E.os=s₁.os/\nh E.gens) s₁:=by
 have l:∀{b:Addr}{m:Str->Υ},s₁.heap.Ns b m->(My s₁.heap H).Ns b m:=λ{b m} ⟨o,es,ep,e,d,r⟩=>(o,es,ep,FI e<|G.none ha Q e (λZ=>iq (es,ep,d)) λZ=>(es,ep,d),d,r);have M:K.In<|My s₁.heap H:=λb o e=>FI (KX b o e) (by cases q:H b with
  |none=>rfl
  |some u=>
   obtain⟨z,Y,_⟩|⟨q',_,z⟩:=G.what b u q;.rw[z,Y]at e;cases e
   .rw[(Q _ z).2.1]at e;cases e);have hM:Mod K mg<|My s₁.heap H:=(M,l I,(mb,l hb,R),let ⟨mc,h1,h2⟩:=J;(mc,l h1,h2),by have(L,o,b1,b2,b3,b4,b5):=S;show(L,o,b1,b2,FI b3 (G.none ha Q b3 (λz=>by rw[b4]at z;injection z with z;show absurd z ⋯) λz=>by rw[b4]at z;cases z),b4,b5));have e0:WM P w K mg (My s₁.heap H) nB [] s₁ H:=(rfl,hM,λb o e=>Xh e,fM<|RP _ _,trivial,λb hb=>absurd (show b∈([]:Δ)from hb) ⋯,hok,.of_eq hg,G.tb);show nu ((F _ M<|l I).run nB [] s₁ H ([dS a],[]) [dS a] [c6 a] _ _ hr e0 (B s₁<|dS a) (iL rfl lX) U) λr E h=>?_;cases r with
 |error e=>show(X H e E h).elim
 |ok fl=>cases fl with
  |next=>show j5 h
  |brk=>show j5 h
  |cont=>show j5 h
  |ret u=>have(v,H',os,bare,un,n,r',q):=h;have q':v = pY t_:=q;subst q';obtain rfl:u=kQ t_:=r';have nf:∀b:Addr,b∉Sj []:=λb z=>absurd (show b∈([]:Δ)from z) ⋯;show(rfl,(λb o e=>?_,λb o e=>un.there b o e ⋯),os,bare);cases q:H b with
   |none=>show jE<|un.keep b o e q (nf b) ⋯
   |some u=>
    obtain⟨z1,_,z⟩|⟨q',z,zm⟩:=G.what b u q;.subst z;have Y:=un.frzs b _ _ q;have(e1,_):=hok b _ q;have(e2,_):=n b _ Y;rw[e]at e1;cases e1;show jE e2
    .subst z;have(_,_,h3,c,hc):=Q _ zm;have O:eL (d7 s₁) b=aB (W.tabObj #[]):=h3;rw[e]at O;cases O;have(ps,e2,_):=n b _<|un.tbls b _ q;have t:=hc.tab h3;show iq<|jE (t.isCodeTable,rfl,#[],ps,rfl,by rw[Array.empty_append];show e2)
end
theorem xW{α:Type}{q}:∀{l:List<|Addr×α},l.lookup b=aB q->%[b|q]∈l
 | [],h=>by cases h
 | %[c|r]::l,h=>by rw[gY]at h;cases e:b == c with
  |true=>rw[e]at h;cases h;rw[beq_iff_eq.mp e];show .head _
  |false=>rw[e]at h;show .tail _<|xW h
def VZ{K}{mg mb:Str->Υ}{vs:Ξ}{ns:Ϝ}
  (KX:K.In<|d7 l) (L:l.heap.Ns lj mg) (hb:l.heap.Ns mz mb) (M:∀x:Str,x ≠ "__name__" -> mb x=mI x) (t:l.heap.NoLimit) (hg:l.gens=#[]) (J:DW K<|d7 l)
  (O:∃bm o,mg "__builtins__" = aB (dS bm)/\bm≠mz/\eL (d7 l) bm=aB o/\o.cls = iU "module" /\ o.dict=aB mz/\x9 o = .plain)
  (ha:eL (d7 l) a=aB { cls:=iU "list", data:=mY<|c5 vs }) (hi:lL vs ns) (hl:de ns<=sizeLine) (hr:uw k nB)
  (F:∀base:Heap,K.In base->base.Ns lj mg->Dj P w K mg base CX k fa fd [x] sp) (n:∀s u,nI s fd ([u],[]) [%[x|u]])
  (Q:∀H:Hp,ab7 H->tJ K H a (ns.map c7)->sp [c6 a] H (λv Z=>v = pY t_) λZ Z Z=>False)
  (R:∀H e S,CX [] H l (λZ Z Z=>False) e S->False) :
  mO (kZ P w) nB (.call (dS fa) ([dS a],[])) (λr S=>r = .ok (.ret<|kQ t_)/\OldK l.heap S.heap/\S.os=l.os/\nh S.gens) l:=by
 have rv:=vals_ints hi;have U:=hi.length;have X:∀(H:Hp) q,q∈vM K->uf P w H l.heap q.1 (.tbl q.2):=λH q B=>(#[],(J q B).2.2.1,trivial,λp cv z=>by cases z);have tN:∀q∈vM K,q.1≠a:=λq B z=>by have:=(J q B).2.2.1;rw[z,ha]at this;cases this
 cases hk:K.lookup a with
 |some o=>have e:=KX a o hk;rw[ha]at e;cases e;have Y:Ent K a { cls:=iU "list", data:=mY<|c5 vs } (ns.map c7)<|λb=>((vM K).lookup b).map HO.tbl:=(λb u z=>by have(q,E,G):=oMq.mp z;show iq (q,fx G,xW E),λq B=>by change((vM K).lookup q.1).map HO.tbl=_;rw[(J q B).1];rfl);show Mi Y KX L hb M t hg J O ha hr F n (λb u z=>?_) (Q _ Y.only<|iq (_,c5 vs,_,hk,rfl,rfl,rfl,by rw[aE,U];show hl,by show rv)) R;have(q,E,G):=oMq.mp z;rw[←G];show X _ %[b|q]<|xW E
 |none=>
  have Y:Ent K a { cls:=iU "list", data:=mY<|c5 vs } (ns.map c7)<|λb=>if b=a then aB (.frz { cls:=iU "list", data:=mY<|c5 vs }<|eH<|ns.map c7)else ((vM K).lookup b).map HO.tbl:=(λb u z=>by
   by_cases hb:b=a;.have I:=fq (pZ hb).symm z;cases I;show jE (hb,hk,rfl)
   .have I:=fq (pW hb).symm z;have(q,E,G):=oMq.mp I;show iq (q,fx G,xW E),λq B=>by show(fq (pW<|tN q B)) ?_;rw[(J q B).1];rfl);show Mi Y KX L hb M t hg J O ha hr F n (λb u z=>?_) (Q _ Y.only<|jE<|iq (_,pZ rfl)) R;by_cases hb:b=a;.have I:=fq (pZ hb).symm z;cases I;cases hb;show(ha,by rw[lMq];show hl,vs,_,rv,ha)
  .have I:=fq (pW hb).symm z;have(q,E,G):=oMq.mp I;rw[←G];show X _ %[b|q]<|xW E
def YK{l:W.OpenLaw}{U:(Str->Υ)->Heap->Prop}{K:Params->Ζ}{CX:lB->Sn}{sp:lB->Sp}
  (hn:l.most=aB n) (L:n<=sizeLine) (M:d.params.defaults=[]) (hr:uw k nB)
  (X:∀w h,J w h->(K w.params).In h) (hT:∀w h,J w h->DW (K w.params) h)
  (F:∀w (mg:Str->Υ) I h,(K w.params).In h->h.Ns lj mg->mg d.name=aB (dS I) ->
   ∃fd:lH,(∀s u,nI s fd ([u],[]) [%[x|u]]) /\
    ∀base:Heap,(K w.params).In base->base.Ns lj mg->Dj l.prog w (K w.params) mg base (CX w) k I fd [x] (sp w))
  (O:∀w H a (ns:Ϝ),de ns<=n->ab7 H->tJ (K w.params) H a (ns.map c7)->sp w [c6 a] H (λv Z=>v = pY t_) λZ Z Z=>False)
  (P:∀w H s e Q,CX w [] H s (λZ Z Z=>False) e Q->False) :
  W.WalkO q loose U J l.row.toRowW d []<|λf vs=>aBd f vs:=by show Att.Li hn M λw s₀ B mg mb I o pm cd doc a vs ns G Y ho hd hcd R E z t hg=>?_;have S:=X w _ Y;have(fd,hb,hF):=F w mg I _ S G.T.g R;show VZ S G.T.g G.T.b G.T.builtins G.T.nolimit hg (hT w _ Y) G.T.bmain E z (bI t L) hr hF hb (λH hO hS=>O w H a ns t hO hS) λH e Q=>P w H B e Q
end L2
namespace Mr
open PySem L2
variable {K:Ζ}{mg:Str->Υ}
structure At (K:Ζ)(x:Str)(st:Stmt)(f:Addr)(fd:lH):Prop where
 a:W.nsIn K lj x=aB (aB<|.ref f)
 F:Y3 K x x st f fd
section
variable {kV:Value}{osl:Array Υ}
def Ze(a:l7 K lj x=aB (aB<|dS f))(l:K.lookup f=aB (oc,od,.func<|x8 x x (xD st) (uW st) (oX st) ly kV doc pm an xQ ct,osl))
  (c:aAh K xQ x=t_) (k:aAg K (dS f)=t_):At K x st f<|x8 x x (xD st) (uW st) (oX st) ly kV doc pm an xQ ct:=(a,NS l c k)
end
abbrev BA(x q:Str)(st:Stmt)(ps:List Str)(n:Ξ):Prop:=∀(kV l pm:Value) (s:Option Addr) (t ct:Value),ou (x8 x q (xD st) (uW st) (oX st) ly kV l pm s t ct) (n,[])=pure (ps.zip n)
section
variable (F:Y3 K x q st f fd)
include F
def b1(h:autoParam (∀u,BA x q st [a] [u]) e_._auto_1):Bb K fd [a] []:=F.binds λQ Q Q Q Q Q n hl=>by obtain - | ⟨u, - | ⟨v,l⟩⟩:=n <;> cases hl;apply h
def b2(h:autoParam (∀u v,BA x q st [a,b] [u,v]) e_._auto_1):Bb K fd [a,b] []:=F.binds λQ Q Q Q Q Q n hl=>by obtain - | ⟨u, - | ⟨v, - | ⟨w,l⟩⟩⟩:=n <;> cases hl;apply h
def b3(h:autoParam (∀u v w,BA x q st [a,b,c] [u,v,w]) e_._auto_1):Bb K fd [a,b,c] []:=F.binds λQ Q Q Q Q Q n hl=>by obtain - | ⟨u, - | ⟨v, - | ⟨w, - | ⟨y,l⟩⟩⟩⟩:=n <;> cases hl;apply h
def b4(h:autoParam (∀u v w y,BA x q st [a,b,c,d] [u,v,w,y]) e_._auto_1):Bb K fd [a,b,c,d] []:=F.binds λQ Q Q Q Q Q n hl=>by obtain - | ⟨u, - | ⟨v, - | ⟨w, - | ⟨y, - | ⟨z,l⟩⟩⟩⟩⟩:=n <;> cases hl;apply h
end
def AK(X:K.In h)(G:h.Ns lj mg)(a:At K x st f fd)(b:Bb K fd ps []):yO K mg x st ps f fd:=(a.F,W.mg_of X G a.a,b)
end Mr
namespace Zl
open PySem L2 Mr Z
def Ab:MS:=(pd (zg (rQ<|pQ O7 (oQ 1)<|vJ rq<|oR (oQ 0) pE) (rV<|kSc<|pQ vd (oQ 0)<|oQ 1) qO)
 (rV<|kSc<|rC<|b7 0))
def pM:MF:=sY 2 2 Ab
open Zl renaming pM->pL
def Im:MS:=(pd (qa 2<|kSc<|rC<|b7 1)
 (pd (qa 3<|kSc<|rC<|b7 0)
 (pd (zg (rQ<|pQ CS (pQ vI (su pL<|oR (oQ 0)<|oR (rC<|b7 0) pE)<|rC<|b7 3)<|rC<|b7 0) (qa 2<|kSc<|pQ AR (pQ vI (su pL<|oR (oQ 0)<|oR (rC<|b7 0) pE)<|pQ Hu (rC<|b7 10)<|rC<|b7 40)<|rC<|b7 1) qO)
 (pd (zg (rQ<|pQ CS (pQ vI (su pL<|oR (oQ 0)<|oR (rC<|b7 1) pE)<|rC<|b7 3)<|rC<|b7 0) (qa 3<|kSc<|pQ vI (su pL<|oR (oQ 0)<|oR (rC<|b7 1) pE)<|pQ Hu (rC<|b7 10)<|rC<|b7 40) qO)
 (pd (qa 4<|kSc<|pQ AR (rC<|b7 1)<|pQ vI (pQ B3 (su pL<|oR (oQ 0)<|oR (rC<|b7 1) pE)<|rC<|b7 3)<|rC<|b7 66)
 (pd (qa 5<|kSc<|pQ AR (pQ B1 (oQ 2)<|pQ AR (pQ vI (pQ AR (pQ B1 (oQ 4)<|oQ 1)<|pQ vI (pQ B3 (su pL<|oR (oQ 0)<|oR (rC<|b7 0) pE)<|rC<|b7 3)<|rC<|b7 67)<|rC<|b7 67)<|rC<|b7 1)<|oQ 3)
 (pd (zg (rQ<|pQ AY (pQ vI (su pL<|oR (oQ 0)<|oR (rC<|b7 1) pE)<|rC<|b7 5)<|rC<|b7 4) (rV<|kSc<|pQ Cv (pQ Hu (rC<|b7 10)<|rC<|b7 60)<|oQ 5) qO)
 (rV<|Ad 5))))))))
def zp:MF:=sY 2 6 Im
def wU:MS:=(zg (rQ<|pQ O7 (pQ vd (oQ 2)<|oQ 4)<|pQ vd (oQ 2)<|oQ 3) (qa 3<|pO 4) qO)
def A6:MS:=(pd (qa 3<|kSc<|rC<|b7 0)<|pd (CP 4 (oR (vJ rq<|oR (oQ 2) pE) pE) wU)<|vc 1<|Of (lOf<|Zt (vv 2) (Dd<|oQ 3) FD)<|lOf<|Zt (vv 2) FD<|Dd<|oQ 3)
def Ih:MS:=(pd (qa 1<|qT pV)
 (pd (AO 2 (pO 0) A6)
 (rV<|MM<|vv 1)))
def A9:MF:=sY 1 5 Ih
def ye:MS:=(Bn 1 (oQ 4)<|pO 2)
def xS:MS:=(AO 4 (pO 3) ye)
def DG:MS:=(pd (qa 1 Eo)
 (pd (LF 2 3 (pO 0) xS)
 (rV<|Ad 1)))
def vF:MF:=sY 1 5 DG
def wO ns(h:0<=k):pM [o9 ns,b7 k]=i6 (cell ns<|cC k):=by
 by_cases c:k<(de ns)
 .have hk:cC k<de ns:=by simp +arith[*]
  have e:=wR hk;simp! [pM,Ab,c,Fo h,gEg hk,cell,e]
 .have hk:de ns<=cC k:=by lia
  have e:cn ns (cC k) 0=0:=by rw[gDq,bo hk];rfl
  simp! [pM,Ab,c,cell,e]
def ado ns:pM [o9 ns,b7 0]=i6 (cell ns 0):=wO ns ⋯
def adz ns:pM [o9 ns,b7 1]=i6 (cell ns 1):=wO ns ⋯
def Yn(ns)k:zp [o9 ns,b7 k]=i6 (CL ns k):=by have J:0<=cell ns 1 / 3 % 66:=cT _ ⋯;have L:cell ns 1 / 3 % 66<66:=cm _ ⋯;have b1:0<=((1+cell ns 1 / 3 % 66)*k+cell ns 0 / 3 % 67) % 67:=cT _ ⋯;have b2:((1+cell ns 1 / 3 % 66)*k+cell ns 0 / 3 % 67) % 67<67:=cm _ ⋯;have u:=K4 (i:=1+cell ns 1 / 3 % 66) (j:=k) ∅ ∅;have x:=λs:Int=>ZC (i:=s) (j:=((1+cell ns 1 / 3 % 66)*k+cell ns 0 / 3 % 67) % 67+1) ∅ ∅;have z:=λi:Int=>tG (i:=i) (j:=3) ⋯;have B:=λi:Int=>tG (i:=i) (j:=5) ⋯;have l:=λi:Int=>tG (i:=i) (j:=66) ⋯;have n:=λi:Int=>tG (i:=i) (j:=67) ⋯;have t:=λi:Int=>tG (i:=i) (j:=10 ^ 40) ⋯;have E:=λi:Int=>yr (i:=i) (j:=3) ⋯ ⋯;by_cases G:0<cell ns 0 % 3 <;> by_cases H:0<cell ns 1 % 3 <;> by_cases I:cell ns 1 % 5=4 <;>
  simp! [zp,Im,ado,adz,G,H,I,z,B,l,n,t,E,u,x,CL,Du,Mr.step,Mr.Mj]
def sZ{l:Λ}{r:Ϝ}(h:l[i]?=aB r):bt (l.take<|i+1)=bt (l.take i)++r:=by rw[eV,h];simp
def vp(l:Λ)i:de (l.take i).flatten<=de (bt l):=by have:=congrArg de<|congrArg bt<|aV i l;rw[fAq,lAq]at this;lia
def Di{l:Λ}{i:Nat}(h:(l.map dI)[i]?=aB d):∃r,l[i]?=aB r/\d=dI r:=by rw[gMq]at h;have(r,n,s):=oMq.mp h;show(r,n,fx s)
def Ds{ns:Ϝ}{i:Nat}(h:(ns.map b7)[i]?=aB d):∃z,ns[i]?=aB z/\d = b7 z:=by rw[gMq]at h;have(r,l,n):=oMq.mp h;show(r,l,fx n)
def QH:D->Ϝ
 | ew ds=>(sP ds).getD []
 |_=>[]
def OX r:QH (dI r)=r:=by change(sP<|r.map b7).getD []=r;rw[vw];rfl
def acG{ts:Λ}(h:a<de ts):atI (ts.map dI) (a:Int)=aB (dI<|cn ts a []):=by rw[Jy,Fo<|by rfl',aQ,gDq,gEg h];rfl
def TM:∃v,rA 4 wU (pT 0<|de r) [s0,s1,aB<|b8<|dI r,i6 0,v4]=aB (gb [s0,s1,aB<|b8<|dI r,i6 (qu r<|de r:Nat),v]):=by
 have key:=xY (x:=4) (body:=wU) (λi S=>∃v,S=[s0,s1,aB<|b8<|dI r,i6 (qu r i:Nat),v]) (ds:=pT 0<|de r) (S:=[s0,s1,aB<|b8<|dI r,i6 0,v4]) (v4,rfl) (by
  rintro i d S hd ⟨v,rfl⟩;have hi:i<de r:=by have:=(gSq.mp hd).1;rw[qg]at this;show this
  rw[zY hi,jI]at hd;cases hd;have l:qu r i<de r:=by
   obtain z|z:=Nat.eq_zero_or_pos i;.subst z;show hi
   .show kz ((vZ r i).1 z) hi
  have n:atI (r.map b7) (i:Int)=aB (b7<|cn r i 0):=by rw[Jy,Fo<|by rfl',aQ,gEg hi,wR hi];rfl
  have s:atI (r.map b7) ((qu r i:Nat):Int)=aB (b7<|cn r (qu r i) 0):=by rw[Jy,Fo<|by rfl',aQ,gEg l,wR l];rfl
  by_cases c:cn r i 0<cn r (qu r i) 0
  .show(_,?_,i6 i,rfl);have e:qu r (i+1)=i:=by change(if _ then _ else _)=_;rw[pZ c]
   simp! [wU,n,s,c,e]
  .show(_,?_,i6 i,rfl);have e:qu r (i+1)=qu r i:=by change(if _ then _ else _)=_;rw[pW c]
   simp! [wU,n,s,c,e]);have(t,e,v,rfl):=key;rw[qg]at e;show(v,e)
def Xd(hl:de l<=500000)(hr:∀r∈l,de r<=500000):A9 [dM l]=aB (d8<|(CD<|l.map good).map λr=>b8<|dI r):=by
 have key:=xY (x:=2) (body:=A6) (λi S=>∃z B u,S=[aB<|b8<|dM l,aB<|d8<|((l.take i).map good).map aI,z,B,u]) (S:=[aB<|b8<|dM l,aB<|d8 [],n_,n_,n_]) (n_,n_,n_,rfl) (by
  rintro i d S hd ⟨z,B,u,rfl⟩;have(r,n,rfl):=Di hd;have E:=hr r<|mGq n;have(v,e):=TM (r:=r) (s0:=aB<|b8<|dM l) (s1:=aB<|d8<|((l.take i).map good).map aI) (v4:=u);have s:=OA r;have t:de (r.drop<|qu r<|de r)+de (r.take<|qu r<|de r)<=qS:=by rw[aR,lTq];change _<=16777216;lia
  have G:de (l.take i)<qS:=by rw[lTq];change _<16777216;lia
  show([aB<|b8<|dM l,aB<|d8<|((l.take<|i+1).map good).map aI,aB<|b8<|dI r,i6<|qu r<|de r,v],?_,_,_,_,rfl);rw[sU n,mBq,mBq];simp! [A6,uK<|show de r<1000000 by lia,e,DB,O0 r _ s,Ij r _ s,t,←mBq,G];rfl);have(I,e,z,B,u,rfl):=key;rw[lMq,bC]at e;have H:(0)<=qS:=by decide
 simp! [A9,Ih,H,e]
end Zl
open Zl renaming pM->pL
namespace Zl
open PySem L2 Mr Z Xe
noncomputable def bare(l:Λ):Nat:=l.countP (·=([]:Ϝ))
section
variable {rs:Λ}(hl:rs.flatten.length<=500000)
include hl
end
end Zl
namespace Zl
open PySem L2 Mr Z
noncomputable def ud(p:Nat)(r:Ϝ):List<|qk×D:=r.map λe=>%[aO e|b7 (p:Int)]
def qd:Nat->Λ->List (qk×D)
 |_,[]=>[]
 |p,r::rs=>ud p r++qd (p+1) rs
theorem Br r:∀l p,qd p (l++[r])=qd p l++ud (p+de l) r
 | [],p=>by simp[qd]
 |s::l,p=>by change ud p s++qd (p+1) (l++[r])=(ud p s++qd (p+1) l)++_;simp only[Br r l<|p+1,af,lCq,show p+1+de l=p+(de l+1) by rfl']
theorem yN:∀l p,(qd p l).map (·.1)=l.flatten.map aO
 | [],p=>rfl
 |r::l,p=>by change(ud p r++qd (p+1) l).map (·.1)=_;simp only[mBq,yN l<|p+1,fCq,mBq];delta ud;rw[mPq];rfl
def GL(l)p:de (qd p l)=de (bt l):=by have:=congrArg de<|yN l p;rwa [lMq,lMq]at this
def FS(h:k∉kvs.map (·.1)):zw kvs k d=kvs++[%[k|d]]:=by delta zw;rw[pW];intro e;have(kv,hk,e):=hU.mp e;show h<|e9 mMq (kv,hk,of_decide_eq_true e)
theorem getD_app:∀{a b},k∉a.map (·.1)->l5 (a++b) k=l5 b k
 | [],b,_=>rfl
 |x::a,b,h=>by delta l5;rw[dF,dZ (by intro e;show h<|by rw[←of_decide_eq_true e];simp)];show getD_app λm=>h<|by simp only[aq,ae];show iq m
theorem LK:∀{r},e∈r->l5 (ud p r++b) (aO e)=aB (b7 p)
 | [],h=>by cases h
 |x::r,h=>by
  change((%[(aO x)|b7<|p]::(ud p r++b)).find? _).map _=_;by_cases c:x=e;.subst c;rw[fQ ⋯];rfl
  .rw[dZ<|by simp[c]];show LK<|pX (ae.mp h) λz=>c<|fx z
theorem zW{r:Ϝ}:∀{l:Λ}{i:Nat}p,c8 (bt l)->l[i]?=aB r->e∈r->l5 (qd p l) (aO e)=aB (b7 ((p+i:Nat):Int))
 | [],i,p,_,h,_=>by simp at h
 |s::l,0,p,hn,h,he=>by simp at h;subst h;show LK he
 |s::l,i+1,p,hn,h,he=>by
  rw[fCq,nAq]at hn;have n:=by show h
  have:=zW (p+1) hn.2.1 n he;rw[show p+1+i=p+(i+1) by rfl']at this;rw[←this];show getD_app ?_;delta ud;rw[mPq];intro m;have(x,t,u):=mMq.mp m;cases u;show hn.2.2 _ t _ (e9 mFq (r,mGq n,he)) rfl
def AD(hn:c8 (bt l))(hl:de (bt l)<=500000):vF [dM l]=aB (eT<|qd 0 l):=by have key:=Qy (x:=2) (y:=3) (k:=0) (body:=xS) (λi S=>∃E G n,S=[aB<|b8<|dM l,aB<|eT<|qd 0<|l.take i,E,G,n]) (ds:=l.map dI) (S:=[aB<|b8<|dM l,aB<|eT [],n_,n_,n_]) (n_,n_,n_,rfl) (by
  rintro i d S hd ⟨E,G,n,rfl⟩;rw[bD];have(r,hr,rfl):=Di hd;have t:=sZ hr;have H:=vp l<|i+1;have hi:i<de l:=(gSq.mp hr).1;have u:c8 (bt (l.take i)++r):=by
   rw[←t];have L:bt l=bt (l.take<|i+1)++bt (l.drop<|i+1):=by rw[←fAq,aV]
   rw[L]at hn;show(nAq.mp hn).1
  rw[t,lAq]at H;have M:=xY (x:=4) (body:=ye) (λj S=>∃n,S=[aB<|b8<|dM l,aB<|eT<|qd 0 (l.take i)++ud i (r.take j),i6 i,aB<|b8<|dI r,n]) (S:=[aB<|b8<|dM l,aB<|eT<|qd 0<|l.take i,i6 i,aB<|b8<|dI r,n]) (n,by simp[ud]) (by
   rintro j d S hd ⟨n,rfl⟩;have(z,I,rfl):=Ds hd;have O:de (qd 0 (l.take i)++ud i (r.take j))<qS:=IW (by rw[lAq,GL];unfold ud;rw[lMq,lTq];lia);have B:zw (qd 0 (l.take i)++ud i (r.take j)) (aO z) (b7<|i)=qd 0 (l.take i)++ud i (r.take<|j+1):=by
    rw[FS];.unfold ud;rw[sU I,mBq,af];rfl
    .rw[mBq,yN];intro m;have P:=sU I;obtain m|m:=mAq.mp m;.have(x,J,s):=mMq.mp m;cases s;show(nAq.mp u).2.2 _ J _ (mGq I) rfl
     .unfold ud at m;rw[mPq]at m;have(x,J,s):=mMq.mp m;cases s;have:=bz.sublist (bV (j+1) r) (nAq.mp u).2.1;rw[P]at this;show(nAq.mp this).2.2 _ J _ ⋯ rfl
   show(_,?_,i6 z,rfl);simp! [ye,O,B]);have(R,s,Q,rfl):=M;rw[lMq,bC]at s;show(_,?_,i6 i,aB<|b8<|dI r,Q,rfl);rw[sU hr,Br,lTq,eO<|by rfl'];simp! [xS,s]);have(U,e,E,G,n,rfl):=key;rw[bD,lMq,bC]at e;simp! [vF,DG,e]
theorem wX(P:AS->Prop)(μ:AS->Nat)(u:AS->Prop)(h:∀S,P S->∃b s,c S=aB %[b|s]/\(b=t_->∃t,body s=aB (gb t)/\P t/\μ t<μ S)/\(b=f_->u s)) :
  ∀l S,P S->μ S<l->∃S',sE c body l S=aB (gb S')/\u S'
 |0,S,_,x=>absurd x<|dg _
 |n+1,S,z,x=>by have(b,s,B,E,G):=h S z;rw[XT,B,ee];cases b with
  |true=>have(t,H,I,J):=E rfl;rw[H];show wX P μ u h n t I ∅
  |false=>show(s,rfl,G rfl)
end Zl
namespace Zl
open PySem L2 Mr Z Xe
noncomputable def kd(ks:Θ):List<|qk×D:=ks.map λk:Nat=>%[(aO (k:Int):qk)|k9 t_]
noncomputable def wd(ws:Θ):List AV:=ws.map λk:Nat=>b8<|b7 (k:Int)
def kd_any ks(t:Nat):(kd ks).any (λkv=>decide<|kv.1=(aO (t:Int):qk))=decide (t∈ks):=by induction ks with
 |nil=>rfl
 |cons k ks l=>
  unfold kd at l ⊢;simp only[aq,eU,l];by_cases h:t=k;.subst h;simp
  .have n:¬ (aO<|k:qk)=aO (t:Int):=λq=>h<|by have:=aO.inj q;lia
   simp[n,h]
def kd_get ks(t:Nat):fC (l5 (kd ks)<|aO (t:Int))=decide (t∈ks):=by delta l5;rw[dW,←kd_any,bL,gN,hU]
noncomputable def addN(kn:Θ)(t:Nat):Θ:=if t∈kn then kn else kn++[t]
def kd_put2 ks(t:Nat):zw (kd ks) (aO (t:Int)) (k9 t_)=kd (addN ks t):=by
 delta addN;by_cases h:t∈ks;.rw[pZ h];delta zw;rw[kd_any,d5 h];delta kd;rw[mPq];show mCq λk Q=>?_;change(if _ then _ else _)=_;split <;> rfl
 .rw[pW h];delta zw;rw[kd_any,d6 h];simp[kd]
def addN_len(kn)t:de (addN kn t)<=de kn+1:=by
 delta addN;split;.rfl'
 .simp
noncomputable def plc(l:Λ)(e:Int):Nat:=l.findIdx λr=>decide<|e∈r
def same_place{l:Λ}(hn:c8 (bt l)){i:Nat}{r s:Ϝ}(hi:l[i]?=aB r)(n:l[j]?=aB s)(t:e∈r)(u:e∈s):i=j:=by have a:=zW 0 hn hi t;have b:=zW 0 hn n u;rw[a]at b;have:=D.int.inj<|aB.inj b;lia
def plc_eq(hn:c8 (bt l)){r:Ϝ}(hi:l[i]?=aB r)(n:e∈r):plc l e=i:=by have hl:l.findIdx (λr=>decide<|e∈r)<de l:=fg (r,mGq hi,d5 n);have s:=gi (w:=hl);show same_place hn (gEg hl) hi (of_decide_eq_true s) n
structure Mp (rs:Λ):Prop where
 hn:rs.flatten.Nodup
 hl:rs.flatten.length<=1000
 hr:rs.length<=1000
 hneg:∀e∈rs.flatten, -e∈rs.flatten
def Mp.at(h:Mp l)(t:e∈bt l):∃r,l[plc l e]?=aB r/\e∈r:=by have(r,u,n):=mFq.mp t;have(i,s):=aC.mp u;show(r,by rw[plc_eq h.hn s n];show s,n)
def Mp.other(h:Mp l){k:Nat}{r:Ϝ}(hk:l[k]?=aB r)(n:e∈r):-e∈bt l:=h.hneg e<|e9 mFq (r,mGq hk,n)
def Mp.kv(h:Mp l)(n:e∈bt l):l5 (qd 0 l) (aO e)=aB (b7 (plc l e:Int)):=by have(r,s,t):=h.at n;have:=zW 0 h.hn s t;rwa [bD]at this
def Mp.lt(h:Mp l)(n:e∈bt l):plc l e<de l:=by have(r,s,_):=h.at n;show(gSq.mp s).1
def Mp.row(h:Mp l){k:Nat}{r:Ϝ}(hk:l[k]?=aB r):r.length<=1000:=by have:=dD.length_le<|aL<|mGq hk;have:=h.hl;lia
def KL(l:Λ)(k:Nat)(ks:Θ)(e:Int):Θ:=if plc l (-e)=k then ks else addN ks<|plc l<|-e
def nb(l:Λ)(k:Nat)(r:Ϝ):Θ:=r.foldl (KL l k) []
def YE(l)k ks e:de (KL l k ks e)<=de ks+1:=by
 delta KL;split;.rfl'
 .show addN_len _ _
theorem Jw(l)k:∀(r:Ϝ) ks,de (r.foldl (KL l k) ks)<=de ks+de r
 | [],ks=>ag _
 |e::r,ks=>by have n:=Jw l k r<|KL l k ks e;have s:=YE l k ks e;simp only[dr,lCq];lia
def BZ{α β:Type}{f:α->β->α}{a}{r:List β}{e}(l:r[i]?=aB e):(r.take<|i+1).foldl f a=f ((r.take i).foldl f a) e:=by have(hi,n):=gSq.mp l;rw[dB hi,iM,n];rfl
noncomputable def itr(f:Int->Int):Nat->Int->Int
 |0,e=>e
 |n+1,e=>f<|itr f n e
theorem Az(f)m e:∀n:Nat,itr f (n+m) e=itr f n (itr f m e)
 |0=>by rw[bD];rfl
 |n+1=>by rw[Nat.add_right_comm];change f (itr f (n+m) e)=f (itr f n<|itr f m e);rw[Az f m e n]
theorem ad8:∀(l E:Ϝ),c8 l->(∀x∈l,x∈E)->de l<=de E
 | [],E,_,_=>aY _
 |x::l,E,hn,h=>by have n:=au.mp hn;have s:=h x<|aa ..;have u:=ad8 l (E.erase x) n.2 (λy t=>by show(jx ?_).mpr<|h y<|mCo _ t;intro e;show n.1<|e ▸ t);rw[gB s]at u;have:=dh s;rw[lCq];lia
def TV{p:Nat->Prop}:∀n,p n->∃m,m<=n/\p m/\∀j,j<m->¬ p j:=by intro n;induction n using eQ with
 |_ n t=>
  intro h;by_cases c:∃j,j<n/\p j;.have(j,l,s):=c;have(m,z,u,x):=t j l s;show(m,by lia,u,x)
  .show(n,ag _,h,λj l s=>c (j,l,s))
set_option genInjectivity true in
structure One (f:Int->Int)(E:Ϝ):Prop where
 nd:E.Nodup
 to:∀e∈E,f e∈E
 inj:∀a∈E,∀b∈E,f a=f b->a=b
theorem One.itr_mem(h:One f E)(l:e∈E):∀n,itr f n e∈E
 |0=>l
 |n+1=>h.to _<|h.itr_mem l n
theorem One.itr_inj(h:One f E)(ha:a∈E)(hb:b∈E):∀n,itr f n a=itr f n b->a=b
 |0,e=>e
 |n+1,e=>h.itr_inj ha hb n<|h.inj _ (h.itr_mem ha n) _ (h.itr_mem hb n) e
def One.cut(h:One f E)(l:e∈E)(n:i<=j)(q:itr f i e=itr f j e):itr f (j-i) e=e:=by
 have s:itr f j e=itr f i (itr f (j-i) e):=by rw[←Az];congr 1;simp +arith[*]
 rw[s]at q;show(h.itr_inj l (h.itr_mem l _) i q).symm
structure Cy (f:Int->Int)(e:Int)(l:Ϝ):Prop where
 len:1<=l.length
 get:l=(aH l.length).map λn=>itr f n e
 back:itr f l.length e=e
 nd:l.Nodup
def One.cy(h:One f E)(t:e∈E):∃l,Cy f e l/\de l<=de E/\∀j,0<j->j<de l->itr f j e≠e:=by
 have u:∃k,1<=k/\k<=de E/\itr f k e=e:=by
  by_cases c:c8 ((aH<|de E+1).map λn=>itr f n e)
  .have:=ad8 _ E c<|λx H=>by have(n,_,rfl):=mMq.mp H;show h.itr_mem t n
   rw[lMq,aX]at this;rfl'
  .rw[cg,bO]at c;have:∃i j,i<j/\j<de E+1/\itr f i e=itr f j e:=by
    by_cases d:∃i j,i<j/\j<de E+1/\itr f i e=itr f j e;.show d
    .exfalso;show c ?_;show bz.imp_of_mem (λ{a b} ha hb hab q=>d (a,b,hab,bF.mp hb,q)) jl
   have(i,j,z,B,q):=this;show(j-i,by lia,by lia,h.cut t (cY z) q)
 have(k,I,P,J):=u;have(m,Q,(L,M),G):=TV (p:=λk=>1<=k/\itr f k e=e) k (I,J);show((aH m).map λn=>itr f n e,(by rw[lMq,aX];show L,by rw[lMq,aX],by rw[lMq,aX];show M,?_),by rw[lMq,aX];lia,λj B s q=>?_);.rw[cg,bO];show bz.imp_of_mem (λ{a b} ha hb hab q=>?_) jl;have O:=bF.mp hb;show G (b-a) ∅ (by lia,h.cut t (cY hab) q)
 .rw[lMq,aX]at s;show G j s (B,q)
def Cy.at(h:Cy f e l)(hi:i<de l):l[i]?=aB (itr f i e):=by have n:=congrArg (λx=>x[i]?) h.get;rw[n,gMq,du hi];rfl
def Cy.one(h:Cy f e l)(h':Cy f e l'):l=l':=by
 have key:∀{l l':Ϝ},Cy f e l->Cy f e l'->¬ de l<de l':=λ{l l'} h h' hlt=>by
  have s:=h'.at (i:=0) ∅;have n:=h'.at hlt;rw[h.back]at n;have:=h'.nd;have t:=(iN (i:=0) (j:=de l) ∅ this).mp<|by rw[s,n];rfl
  have:=h.len;lia
 have u:=key h h';have x:=key h' h;have hl:de l=de l':=by lia
 rw[h.get,h'.get,hl]
def Cy.self(h:Cy f e l):e∈l:=mGq<|h.at (i:=0)<|by have:=h.len;rfl'
def Cy.rot(h:Cy f e l)(u:j<de l):Cy f (itr f j e)<|l.drop j++l.take j:=by
 have n:de (l.drop j++l.take j)=de l:=by rw[lAq,aR,lTq];lia
 show(by rw[n];show h.len,?_,?_,?_)
 .show df λi=>?_;rw[n,gMq];by_cases hi:i<de l
  .rw[du hi,dt,←Az];by_cases s:i<de l-j;.rw[gZq<|by rw[aR];show s,eE,h.at ∅,eN j i]
   .rw[gYq<|by rw[aR];rfl',aR,fj ∅,h.at ∅];have t:i+j=(i-(de l-j))+de l:=by lia
    rw[t,Az,h.back]
  .rw[bo ∅,bo<|by rw[aX];rfl'];rfl
 .rw[n,←Az,eN,Az,h.back]
 .show e9 (lW ay)<|by rw[aV];show h.nd
def Cy.good(h:Cy f e l)(t:x∈l)(h':Cy f x l'):LY l'=LY l:=by have(j,s):=aC.mp t;have n:=(gSq.mp s).1;rw[h.at n]at s;have r:=h.rot n;rw[aB.inj s]at r;rw[h'.one r];show Lh h.nd j
structure P8 (f:Int->Int)(E:Ϝ)(L:Λ):Prop where
 cy:∀l∈L,∃e,Cy f e l
 dj:L.flatten.Nodup
 all:∀x,x∈L.flatten↔x∈E
theorem PZ:∀{L:Λ},c8 (bt L)->L.Pairwise λa b=>∀x∈a,∀y∈b,x≠y
 | [],_=>bz.nil
 |a::L,h=>by rw[fCq,nAq]at h;show e9 cW (λb hb x l y n=>h.2.2 x l y<|e9 mFq (b,hb,n),PZ h.2.1)
def P8.nd(h:P8 f E L):c8 (L.map LY):=by rw[cg,bO];have hd:=PZ h.dj;show bz.imp_of_mem (λ{a b} ha hb hab q=>?_) hd;have(e,c):=h.cy a ha;have l:=e9 (vx a).mem_iff c.self;rw[q]at l;show hab e c.self e ((vx b).mem_iff.mp l) rfl
def P8.sub(hf:One f E)(h:P8 f E L)(h':P8 f E M)(t:y∈L.map LY):y∈M.map LY:=by have(l,hl,rfl):=mMq.mp t;have(e,c):=h.cy l hl;have u:=(h.all e).mp<|e9 mFq (l,hl,c.self);have(m,s,n):=mFq.mp<|e9 (h'.all e) u;have(z,x):=h'.cy m s;show e9 mMq (m,s,fx (x.good n c))
def P8.perm(hf:One f E)(h:P8 f E L)(h':P8 f E M):aF (L.map LY)<|M.map LY:=e9 (bp h.nd h'.nd) λy=>(h.sub hf h',h'.sub hf h)
end Zl
open Zl.Mp renaming hneg->p9
namespace K51
open PySem L2 Mr Z Xe
def CH:MS:=(Bn 1 (oQ 3)<|pO 4)
def Ct:MS:=(UI 3 4 (pO 2) (Of (lOf<|Zt (vv 2) (Dd<|rC<|b7 1) FD)<|lOf<|Zt (vv 2) FD<|Dd<|rC<|b7 1) CH)
def Mm:MS:=(pd (qa 1 Eo)
 (pd (AO 2 (pO 0) Ct)
 (rV<|Ad 1)))
def Fd:MF:=sY 1 5 Mm
def uL:MS:=(pd (qa 7<|kSc<|zu (oQ 2)<|Fu xj<|oQ 6)<|zg (rQ<|BP (oQ 7)<|oQ 3) (pd (Bn 3 (oQ 7)<|kSc<|rC<|k9 t_)<|vc 4<|pO 7) qO)
def xv:MS:=(pd (EB 5<|Be 4)<|AO 6 (Ke (vv 0)<|oQ 5) uL)
def Gz:MS:=(pd (qa 2<|rH Zl.vF<|oS (pO 0) pV)
 (pd (qa 3<|FE (oQ 1)<|kSc<|rC<|k9 t_)
 (pd (qa 4<|qT<|oS (pO 1) pV)
 (pd (sE (rQ<|pQ CS (vJ rq<|oR (oQ 4) pE)<|rC<|b7 0) xv 100000)
 (rV<|GA<|oQ 3)))))
def zH:MF:=sY 2 8 Gz
def yF:MS:=(Bn 1 (oQ 5)<|kSc<|rC<|k9 t_)
def yK:MS:=(zg (rQ<|BP (oQ 3)<|oQ 1) (pd (qa 4<|rH K51.zH<|oS (pO 0)<|oS (pO 3) pV)<|pd (AO 5 (pO 4) yF)<|vc 2<|vh (Dr<|pO 4) [0] sV<|CU<|lOf<|Ke (vv 1)<|oQ 0) qO)
def Hz:MS:=(pd (qa 1 Eo)
 (pd (qa 2<|qT pV)
 (pd (CP 3 (oR (vJ rq<|oR (oQ 0) pE) pE) yK)
 (rV<|Ad 2))))
def zR:MF:=sY 1 6 Hz
def xR:MS:=(pd (qa 6<|kSc<|zu (oQ 1)<|Fu xj<|oQ 5)<|zg (rQ<|pQ AY (oQ 5)<|zu (oQ 3)<|zu (oQ 1)<|oQ 5) (pd (vc 4<|zK<|oS (kSc<|rC<|j3 "up")<|oS (pO 5) pV)<|qa 5<|kSc<|zu (oQ 2)<|Fu xj<|oQ 5)<|zg (rQ<|BP (oQ 6)<|oQ 3) (pd (Bn 3 (oQ 6)<|kSc<|Fu xj<|oQ 5)<|pd (vc 4<|zK<|oS (kSc<|rC<|j3 "down")<|oS (pO 5) pV)<|qa 5<|kSc<|zu (oQ 2)<|Fu xj<|oQ 5)<|pd (vc 4<|zK<|oS (kSc<|rC<|j3 "side")<|oS (pO 5) pV)<|qa 5<|kSc<|zu (oQ 2)<|oQ 5)
end K51
open K51 renaming xR->aAa
namespace K61
open PySem L2 Mr Z
def vz:MS:=(pd (qa 5<|kSc<|zu (oQ 1)<|Fu xj<|oQ 4)<|zg (rQ<|pQ Zc (oQ 5)<|oQ 2) (Bn 3 (oQ 5)<|kSc<|rC<|k9 t_) qO)
def IF:MS:=(pd (qa 3 Eo)
 (pd (AO 4 (pO 0) vz)
 (rV<|NC<|oQ 3)))
def zO:MF:=sY 3 6 IF
def Cb:MS:=(pd (qa 1<|rH Zl.vF<|oS (pO 0) pV)
 (rV<|ND (pO 0) [1] sV<|rH K61.zO<|oS (pO 1)<|oS (pO 2)<|oS (pO 0) pV))
def xE:MF:=sY 1 2 Cb
def zc:MS:=(Bn 1 (oQ 4)<|pO 2)
def wL:MS:=(AO 4 (pO 3) zc)
def ui:MS:=(zg (wj (rQ<|pQ Zc (zu (oQ 1)<|Fu xj<|oQ 4)<|oQ 2)<|rQ<|pQ (yp t_) (zu (oQ 1)<|Fu xj<|oQ 4)<|oQ 6) (vc 6<|kSc<|zu (oQ 1)<|Fu xj<|oQ 4) qO)
def yU:MS:=(pd (qa 6<|qT pV)<|pd (AO 4 (pO 3) ui)<|vc 5<|pO 6)
def El:MS:=(pd (qa 1 Eo)
 (pd (LF 2 3 (pO 0) wL)
 (pd (qa 5<|qT pV)
 (pd (LF 2 3 (pO 0) yU)
 (rV<|Ad 5)))))
def yc:MF:=sY 1 7 El
end K61
namespace K54
open PySem L2 Mr Z Xe
def pI:MS:=(pd (qa 4<|kSc<|vJ Yb<|oR (oQ 3) pE)<|zg (wj (rQ<|pQ AY (oQ 2)<|rC<|j3 "side")<|rQ<|pQ (yp t_) (oQ 4)<|oQ 1) (vc 1<|pO 4)<|zg (rQ<|pQ AY (oQ 2)<|rC<|j3 "side") (pd (EB 5<|Be 1)<|zg (rQ<|pQ Zc (oQ 5)<|oQ 4) (rV<|zK<|oS (pO 4)<|oS (pO 5) pV) qO) qO)
def vY:MS:=(pd (qa 1<|qT pV)
 (pd (O8 2 3 (pO 0) pI)
 (rV<|kSc<|rC j0)))
def sr:MF:=sY 1 6 vY
def vB:MS:=(zg (rQ<|pQ Zc (vJ rq<|oR (rOf<|rH K51.zR<|oS (pO 0) pV) pE)<|rC<|b7 1) za qO)
def rZ:MF:=sY 1 1 vB
def JE:MS:=(pd (Qm<|kSc<|su K54.rZ<|oR (oQ 0) pE)
 (pd (zg (rQ<|pQ AY (vJ rq<|oR (pQ vd (oQ 0)<|rC<|b7 0) pE)<|rC<|b7 0) (rV<|qT pV) qO)
 (pd (qa 1<|rH Zl.vF<|oS (pO 0) pV)
 (pd (qa 2<|rH K51.Fd<|oS (pO 0) pV)
 (pd (qa 3<|FE (rC<|b7 0)<|kSc<|rC j0)
 (pd (qa 4<|qT pV)
 (pd (qa 5<|kSc<|pQ vd (pQ vd (oQ 0)<|rC<|b7 0)<|rC<|b7 0)
 (pd (sE (rQ<|pQ O7 (vJ rq<|oR (oQ 4) pE)<|vJ KI<|oR (oQ 2) pE) aAa 100000)
 (rV<|Ad 4)))))))))
def D4:MF:=sY 1 7 JE
def sj:MS:=(pd (qa 2<|rH K54.sr<|oS (rH K54.D4<|oS (pO 1) pV) pV)<|zg (rQ<|pQ zz (oQ 2)<|rC j0) (rV<|Ad 2) qO)
def Bd:MS:=(pd (AO 1 (rH K51.zR<|oS (pO 0) pV) sj)
 (rV<|kSc<|rC j0))
def vq:MF:=sY 1 3 Bd
end K54
namespace K62
open PySem L2 Mr Z
def rB:MS:=(zg (wj (rQ<|BP (oQ 8)<|oQ 5)<|rQ<|pQ (yp f_) (pQ vd (oQ 1)<|oQ 8)<|rOf<|zK<|oS (pO 3)<|oS (pO 4) pV) (pd (Bn 5 (oQ 8)<|kSc<|rC<|k9 t_)<|vc 6<|pO 8) qO)
def uY:MS:=(pd (EB 7<|Be 6)<|AO 8 (Ke (vv 0)<|oQ 7) rB)
def Bj:MS:=(pd (qa 5<|FE (oQ 2)<|kSc<|rC<|k9 t_)
 (pd (qa 6<|qT<|oS (pO 2) pV)
 (pd (sE (rQ<|pQ CS (vJ rq<|oR (oQ 6) pE)<|rC<|b7 0) uY 100000)
 (rV<|GA<|oQ 5))))
def uj:MF:=sY 5 9 Bj
def tY:MS:=(zg (wj (rQ<|pQ (yp t_) (oQ 7)<|oQ 5)<|rQ<|pQ (yp f_) (pQ vd (oQ 1)<|oQ 7)<|rOf<|zK<|oS (pO 3)<|oS (pO 4) pV) (vc 5<|pO 7) qO)
def vN:MS:=(pd (AO 7 (Ke (vv 0)<|pQ vd (oQ 5)<|oQ 6) tY)<|qa 6<|kSc<|pQ AR (oQ 6)<|rC<|b7 1)
def G7:MS:=(pd (qa 5<|qT<|oS (pO 2) pV)
 (pd (qa 6<|kSc<|rC<|b7 0)
 (pd (sE (rQ<|pQ O7 (oQ 6)<|vJ rq<|oR (oQ 5) pE) vN 100000)
 (rV<|Ad 5))))
def uR:MF:=sY 5 8 G7
end K62
open K62 renaming uR->YP
namespace K07
open PySem L2 Mr Z Xe
def xB:MS:=(pd (qa 4<|kSc<|pQ AR (pQ AR (oQ 4)<|rC<|b7 1)<|pQ vI (oQ 0)<|pQ Hu (rC<|b7 10)<|rC<|b7 57)<|pd (qa 0<|kSc<|pQ Tp (oQ 0)<|pQ Hu (rC<|b7 10)<|rC<|b7 57)<|vc 3<|pO 4)
def xu:MS:=(pd (O9 6<|BI 3<|pQ vI (oQ 1)<|vJ rq<|oR (oQ 3) pE)<|qa 1<|kSc<|pQ B3 (oQ 1)<|pQ AR (vJ rq<|oR (oQ 3) pE)<|rC<|b7 1)
def GX:MS:=(pd (qa 3<|qT pV)
 (pd (qa 4<|kSc<|rC<|b7 0)
 (pd (CP 5 (oR (oQ 2) pE) xB)
 (pd (qa 6<|qT pV)
 (pd (CP 5 (oR (oQ 2) pE) xu)
 (rV<|Ad 6))))))
def zh:MF:=sY 3 7 GX
end K07
namespace K64
open PySem L2 Mr Z Xe
def yL:MS:=(pd (qa 1<|rH K54.vq<|oS (pO 0) pV)
 (zg (rQ<|pQ zz (oQ 1)<|rC j0) za qO))
def uQ:MF:=sY 1 2 yL
def Hd:MS:=(rV<|kSc<|pQ dLe (vJ rq<|oR (rOf<|vh (Dr<|Ke (vv 0)<|oQ 2) [1] (rQ<|pQ (yp f_) (oQ 0)<|oQ 1)<|pO 0) pE)<|rC<|b7 5)
def zq:MF:=sY 3 3 Hd
def Bx:MS:=(rV<|kSc<|pQ vd (rOf<|vh (Dr<|pO 1) [0,1] (rQ<|su K64.zq<|oR (oQ 1)<|oR (oQ 2)<|oR (oQ 0) pE)<|pO 0)<|rC<|b7 0)
def wG:MF:=sY 2 2 Bx
def uF:MS:=(pd (qa 3<|kSc<|su K64.wG<|oR (oQ 0)<|oR (oQ 2) pE)<|pd (vc 1<|pO 3)<|Vi 2<|oQ 3)
def DJ:MS:=(pd (qa 1<|qT pV)
 (pd (qa 2<|Jx<|oR (vJ rq<|oR (oQ 0) pE) pE)
 (pd (sE (rQ<|pQ CS (vJ rq<|oR (oQ 2) pE)<|rC<|b7 0) uF 100000)
 (rV<|Ad 1))))
def yQ:MF:=sY 1 4 DJ
def HI:MS:=(pd (qa 2<|vh (Zh<|oR (rC<|b7 5) pE) [1] (rQ<|pQ (yp t_) (oQ 0)<|oQ 1)<|pO 0)
 (rV<|kSc<|Gv 0 (vv 2)<|kSc<|rBM "list" FR (oQ 1)<|oR (oQ 0) pE))
def zS:MF:=sY 2 3 HI
def rR:MS:=(Md 4 (oQ 5)<|kSc<|rIf (rQ<|pQ AY (pQ vd (oQ 0)<|oQ 5)<|oQ 2) (oQ 3)<|oQ 2)
def AJ:MS:=(pd (qa 4<|CU<|vv 0)
 (pd (AO 5 (pO 1) rR)
 (rV<|Ad 4)))
def vT:MF:=sY 4 6 AJ
def xa:MS:=(pd (qa 3<|Ke (vv 1)<|pQ vd (oQ 2)<|rC<|b7 0)
 (pd (qa 4<|Ke (vv 1)<|pQ vd (oQ 2)<|rC<|b7 2)
 (pd (zg (rQ<|pQ (yp t_) (pQ vd (oQ 2)<|rC<|b7 2)<|rOf<|rH K62.uj<|oS (pO 0)<|oS (pO 1)<|oS (kSc<|pQ vd (oQ 2)<|rC<|b7 0)<|oS (pO 3)<|oS (pO 4) pV) (rV<|zK<|oS (kSc<|rC<|j3 "turn")<|oS (kSc<|pQ vd (oQ 2)<|rC<|b7 0)<|oS (pO 3)<|oS (pO 4) pV) qO)
 (rV<|zK<|oS (kSc<|rC<|j3 "turn")<|oS (kSc<|pQ vd (oQ 2)<|rC<|b7 1)<|oS (Ke (vv 1)<|pQ vd (oQ 2)<|rC<|b7 1)<|oS (Ke (vv 1)<|pQ vd (oQ 2)<|rC<|b7 3) pV))))
def uB:MF:=sY 3 5 xa
def xg:MS:=(pd (qa 3<|vh (Dr<|Ke (vv 0)<|oQ 2) [1] (rQ<|pQ zz (pQ vd (oQ 1)<|oQ 0)<|rC j0)<|pO 0)
 (pd (qa 4<|kSc<|su K64.zS<|oR (oQ 1)<|oR (rOf<|vh (Dr<|pO 3) [1] sV<|Ke (vv 1)<|oQ 0) pE)
 (pd (zg (rQ<|pQ zz (oQ 4)<|rC j0) (rV<|qT<|oS (zK<|oS (kSc<|rC<|j3 "lay")<|oS (pO 2)<|oS (pO 4) pV) pV) qO)
 (pd (qa 5<|rH K64.uB<|oS (pO 0)<|oS (pO 1)<|oS (pO 3) pV)
 (rV<|qT<|oS (pO 5)<|oS (zK<|oS (kSc<|rC<|j3 "lay")<|oS (pO 2)<|oS (ab8 (pO 5)<|rC<|b7 2) pV) pV)))))
def tO:MF:=sY 3 6 xg
def yi:MS:=(pd (zg (rQ<|pQ AY (pQ FO (oQ 2)<|rC<|b7 0)<|rC<|j3 "turn") (pd (qa 3<|rH K62.uj<|oS (pO 0)<|oS (pO 1)<|oS (kSc<|pQ FO (oQ 2)<|rC<|b7 1)<|oS (kSc<|pQ FO (oQ 2)<|rC<|b7 2)<|oS (kSc<|pQ FO (oQ 2)<|rC<|b7 3) pV)<|rV<|rH K64.vT<|oS (pO 1)<|oS (pO 3)<|oS (kSc<|pQ FO (oQ 2)<|rC<|b7 2)<|oS (kSc<|pQ FO (oQ 2)<|rC<|b7 3) pV) qO)
 (pd (qa 4<|CU<|vv 1)
 (pd (Md 4 (pQ FO (oQ 2)<|rC<|b7 1)<|kSc<|pQ FO (oQ 2)<|rC<|b7 2)
 (rV<|Ad 4))))
def uk:MF:=sY 3 5 yi
def qU:MS:=(pd (qa 2<|rH K64.uk<|oS (pO 1)<|oS (pO 2)<|oS (pO 5) pV)<|vc 3<|pO 5)
def uh:MS:=(AO 5 (rH K64.tO<|oS (pO 1)<|oS (pO 2)<|oS (pO 4) pV) qU)
def Eu:MS:=(pd (Qm<|kSc<|su K64.uQ<|oR (oQ 0) pE)
 (pd (qa 1<|rH K61.xE<|oS (pO 0) pV)
 (pd (qa 2<|vh (Dr<|pO 0) [] sV<|kSc<|rC j0)
 (pd (qa 3<|qT pV)
 (pd (Qr 4 (rH K64.yQ<|oS (pO 1) pV) uh)
 (rV<|zK<|oS (pO 2)<|oS (pO 3) pV))))))
def xT:MF:=sY 1 6 Eu
def uN:MS:=(pd (zg (rQ<|pQ AY (pQ vI (oQ 1)<|rC<|b7 17)<|rC<|b7 16) (rV<|qT<|oS (kSc<|rC<|b7 4) pV) qO)
 (pd (zg (rQ<|pQ AY (pQ vI (oQ 0)<|rC<|b7 3)<|rC<|b7 0) (rV<|qT<|oS (kSc<|pQ vI (oQ 1)<|rC<|b7 4) pV) qO)
 (pd (zg (wj (rQ<|pQ AY (pQ vI (oQ 0)<|rC<|b7 3)<|rC<|b7 1)<|rQ<|pQ CS (pQ vI (oQ 1)<|rC<|b7 3)<|rC<|b7 0) (rV<|qT<|oS (kSc<|rC<|b7 0)<|oS (kSc<|rC<|b7 3)<|oS (kSc<|rC<|b7 2)<|oS (kSc<|rC<|b7 1) pV) qO)
 (pd (zg (rQ<|pQ AY (pQ vI (oQ 0)<|rC<|b7 3)<|rC<|b7 1) (rV<|qT<|oS (kSc<|pQ vI (pQ B3 (oQ 1)<|rC<|b7 3)<|rC<|b7 4) pV) qO)
 (rV<|Ke (lOf<|qT<|oS (qT<|oS (kSc<|rC<|b7 0) pV)<|oS (qT<|oS (kSc<|rC<|b7 1) pV)<|oS (qT<|oS (kSc<|rC<|b7 2) pV)<|oS (qT<|oS (kSc<|rC<|b7 3) pV)<|oS (qT<|oS (kSc<|rC<|b7 0)<|oS (kSc<|rC<|b7 3)<|oS (kSc<|rC<|b7 2)<|oS (kSc<|rC<|b7 1) pV)<|oS (qT<|oS (kSc<|rC<|b7 0)<|oS (kSc<|rC<|b7 2)<|oS (kSc<|rC<|b7 3)<|oS (kSc<|rC<|b7 2) pV)<|oS (qT<|oS (kSc<|rC<|b7 0)<|oS (kSc<|rC<|b7 3) pV)<|oS (qT<|oS (kSc<|rC<|b7 3)<|oS (kSc<|rC<|b7 2)<|oS (kSc<|rC<|b7 1) pV) pV)<|pQ vI (oQ 1)<|rC<|b7 8)))))
def tT:MF:=sY 2 2 uN
def wZ:MS:=(pd (vc 1<|zK<|oS (kSc<|pQ vI (oQ 2)<|rC<|b7 5)<|oS (kSc<|pQ Cv (rC<|b7 1)<|pQ B1 (rC<|b7 2)<|pQ vI (pQ B3 (oQ 2)<|rC<|b7 5)<|rC<|b7 2) pV)<|qa 2<|kSc<|pQ B3 (oQ 2)<|rC<|b7 10)
def wY:MS:=(vc 1<|zK<|oS (pO 4)<|oS (kSc<|pQ Cv (rC<|b7 1)<|pQ B1 (rC<|b7 2)<|pQ vI (pQ B3 (oQ 2)<|rC<|b7 32)<|rC<|b7 2) pV)
def vA:MS:=(AO 4 (rH K64.tT<|oS (kSc<|su pL<|oR (oQ 0)<|oR (rC<|b7 2) pE)<|oS (pO 2) pV) wY)
def Eg:MS:=(pd (qa 1<|qT pV)
 (pd (qa 2<|kSc<|su pL<|oR (oQ 0)<|oR (rC<|b7 3) pE)
 (pd (zg (rQ<|pQ AY (pQ vI (pQ B3 (su pL<|oR (oQ 0)<|oR (rC<|b7 2) pE)<|rC<|b7 60)<|rC<|b7 2)<|rC<|b7 1) (pd (CP 3 (oR (rC<|b7 60) pE) wZ)<|rV<|Ad 1) qO)
 (pd (AO 2 (Zt (vv 0) (Dd<|rC<|b7 3)<|Dd<|rC<|b7 66) vA)
 (rV<|Ad 1)))))
def Bz:MF:=sY 1 5 Eg
def Cu:MS:=(pd (zg (rQ<|pQ AY (pQ vI (pQ B3 (su pL<|oR (oQ 0)<|oR (rC<|b7 2) pE)<|rC<|b7 60)<|rC<|b7 2)<|rC<|b7 1) (rV<|rH K07.zh<|oS (kSc<|su pL<|oR (oQ 0)<|oR (rC<|b7 0) pE)<|oS (kSc<|su pL<|oR (oQ 0)<|oR (rC<|b7 1) pE)<|oS (kSc<|rC<|b7 30) pV) qO)
 (rV<|vh (Zh<|oR (rC<|b7 60) pE) [0] sV<|kSc<|su Zl.zp<|oR (oQ 1)<|oR (oQ 0) pE))
def zN:MF:=sY 1 1 Cu
def zd:MS:=(zg (rQ<|pQ AY (oQ 5)<|rC<|b7 4) (pd za<|pd (qa 2<|qT<|oS (kSc<|vJ rq<|oR (oQ 1) pE) pV)<|vc 1<|qT pV) qO)
def yW:MS:=(pd (zg (wj (rQ<|pQ AY (oQ 5)<|rC<|b7 3)<|rQ<|pQ CS (vJ rq<|oR (oQ 3) pE)<|rC<|b7 0) za qO)<|zg (rQ<|pQ AY (oQ 5)<|rC<|b7 4) (pd za<|pd (qa 2<|qT<|oS (kSc<|vJ rq<|oR (oQ 1) pE) pV)<|vc 1<|qT pV) qO)
def wQ:MS:=(pd (zg (wj (rQ<|pQ AY (oQ 5)<|rC<|b7 1)<|rQ<|pQ CS (vJ rq<|oR (oQ 2) pE)<|rC<|b7 1) (Ha<|Be 2) qO)<|pd (zg (wj (rQ<|pQ AY (oQ 5)<|rC<|b7 3)<|rQ<|pQ CS (vJ rq<|oR (oQ 3) pE)<|rC<|b7 0) za qO)<|zg (rQ<|pQ AY (oQ 5)<|rC<|b7 4) (pd za<|pd (qa 2<|qT<|oS (kSc<|vJ rq<|oR (oQ 1) pE) pV)<|vc 1<|qT pV) qO)
def qm:MS:=(WH 7 1 (pIx 1 (RI 1)<|pQ vd (oQ 2)<|pQ Cv (vJ rq<|oR (oQ 2) pE)<|rC<|b7 1)<|Gk 1 (wj (rQ<|pQ (yp f_) (oQ 5)<|rOf<|zK<|oS (kSc<|rC<|b7 0)<|oS (kSc<|rC<|b7 2) pV)<|rQ<|pQ CS (vJ rq<|oR (oQ 4) pE)<|rC<|b7 0) (λpath=>pd ((X6 1 (EB 8<|OF B1 (oQ 6)<|BI 4<|rC<|b7 0)<|λpath=>pd ((P7 1<|pO 8) path)<|zg (rQ<|pQ AY (oQ 5)<|rC<|b7 0) (pd (vc 2<|kSc<|vJ rq<|oR (oQ 1) pE)<|vc 1<|qT<|oS (kSc<|Fu xj<|oQ 8) pV)<|vc 3<|pO 8) path) wQ)<|Gk 1 (wj (rQ<|pQ AY (oQ 5)<|rC<|b7 1)<|rQ<|pQ CS (vJ rq<|oR (oQ 2) pE)<|rC<|b7 1) (λpath=>pd ((λQ=>(Ha<|Be 2)) path) yW)<|Gk 1 (wj (rQ<|pQ AY (oQ 5)<|rC<|b7 3)<|rQ<|pQ CS (vJ rq<|oR (oQ 3) pE)<|rC<|b7 0) (λpath=>pd ((JC 1<|YY xj<|Be 3) path) zd)<|Gk 1 (rQ<|pQ AY (oQ 5)<|rC<|b7 4) (λpath=>pd ((CO 1 3) path)<|pd (qa 2<|qT<|oS (kSc<|vJ rq<|oR (oQ 1) pE) pV)<|vc 1<|qT pV)<|λQ=>qO)
def EG:MS:=(pd (qa 1<|qT<|oS (qT pV) pV)
 (pd (qa 2<|qT<|oS (kSc<|rC<|b7 0) pV)
 (pd (qa 3<|qT pV)
 (pd (qa 4<|rH K64.zN<|oS (pO 0) pV)
 (pd (O8 5 6 (rH K64.Bz<|oS (pO 0) pV) qm)
 (pd (Jh 1 3<|pIx 1 (RI 1)<|pQ vd (oQ 2)<|pQ Cv (vJ rq<|oR (oQ 2) pE)<|rC<|b7 1)
 (rV<|Ad 1)))))))
def zV:MF:=sY 1 9 EG
def II:MS:=(rV<|kSc<|vJ rq<|oR (rOf<|vh (Dr<|pO 0) [1] (rQ<|YN (oQ 0)<|oQ 1)<|pO 0) pE)
def zG:MF:=sY 2 2 II
def wD:MS:=(Bn 3 (oQ 4)<|kSc<|rC<|k9 t_)
def AG:MS:=(qa 5<|kSc<|pQ AR (oQ 5)<|rC<|b7 1)
def yf:MS:=(pd (qa 3 Eo)<|pd (TH 4 1 wD)<|pd (qa 5<|kSc<|rC<|b7 0)<|pd (sE (wj (rQ<|pQ O7 (oQ 5)<|pQ Cv (vJ rq<|oR (oQ 1) pE)<|rC<|b7 1)<|rQ<|pQ CS (su K64.zG<|oR (pQ vd (oQ 0)<|pQ vd (oQ 1)<|oQ 5)<|oR (oQ 3) pE)<|rC<|b7 5) AG 100000)<|O9 2<|BI 1<|oQ 5)
def KS:MS:=(pd (qa 1<|Jx<|oR (vJ rq<|oR (oQ 0) pE) pE)
 (pd (qa 2<|qT pV)
 (pd (sE (rQ<|pQ CS (vJ rq<|oR (oQ 1) pE)<|rC<|b7 0) yf 100000)
 (rV<|Ad 2))))
def Fx:MF:=sY 1 6 KS
def tU:MS:=(zg (rQ<|pQ O7 (rBM "list" Kh (oQ 0)<|oR (oQ 3) pE)<|rBM "list" Kh (oQ 0)<|oR (oQ 2) pE) (qa 2<|pO 3) qO)
def HV:MS:=(pd (qa 2<|kSc<|pQ vd (oQ 1)<|rC<|b7 0)
 (pd (AO 3 (pO 1) tU)
 (rV<|Ad 2)))
def Ba:MF:=sY 2 4 HV
def tW:MS:=(Md 1 (oQ 6)<|kSc<|pQ Cv (pQ AR (pQ vd (oQ 4)<|oQ 5)<|pQ vd (oQ 4)<|pQ AR (oQ 5)<|rC<|b7 2)<|pQ vd (oQ 1)<|oQ 6)
def CJ:MS:=(pd (qa 4<|N1<|vh (Dr<|pO 3) [1] sV<|kSc<|pQ vd (oQ 1)<|oQ 0)
 (pd (qa 5<|kSc<|vJ Lf<|oR (pQ (yp f_) (pQ vd (oQ 3)<|rC<|b7 2)<|rOf<|N1<|rH YP<|oS (pO 0)<|oS (pO 1)<|oS (kSc<|pQ vd (oQ 3)<|rC<|b7 0)<|oS (kSc<|pQ vd (oQ 4)<|rC<|b7 0)<|oS (kSc<|pQ vd (oQ 4)<|rC<|b7 2) pV) pE)
 (pd (Qt 6 (N1<|rH YP<|oS (pO 0)<|oS (pO 1)<|oS (kSc<|pQ vd (oQ 3)<|oQ 5)<|oS (kSc<|pQ vd (oQ 4)<|oQ 5)<|oS (kSc<|pQ vd (oQ 4)<|pQ AR (oQ 5)<|rC<|b7 2) pV) tW)
 (pd (vc 2<|zK<|oS (kSc<|rC<|j3 "turn")<|oS (kSc<|pQ vd (oQ 3)<|oQ 5)<|oS (kSc<|pQ vd (oQ 4)<|oQ 5)<|oS (kSc<|pQ vd (oQ 4)<|pQ AR (oQ 5)<|rC<|b7 2) pV)
 qO))))
def zI:MFn:=Ex 4 7 1 2 CJ<|kSc<|pQ vd (oQ 4)<|oQ 5
def uG:MS:=(pd (qa 4<|N1<|vh (Dr<|Ke (vv 0)<|oQ 3) [1] (rQ<|pQ Zc (pQ vd (oQ 1)<|oQ 0)<|Fu xj<|rC<|b7 1)<|pO 0)<|pd (qa 5<|N1<|vh (Dr<|pO 4) [1] sV<|kSc<|pQ vd (oQ 1)<|oQ 0)<|pd (qa 6<|vh (Zh<|oR (rC<|b7 5) pE) [5] (rQ<|pQ (yp t_) (oQ 0)<|oQ 1)<|pO 0)<|pd (zg (rQ<|pQ CS (vJ rq<|oR (oQ 6) pE)<|rC<|b7 0) (qa 7<|kSc<|su K64.Ba<|oR (oQ 1)<|oR (oQ 6) pE)<|qa 7<|Gr 1 2 K64.zI (pO 0)<|oS (pO 4) pV)<|pd (Md 1 (oQ 3)<|pO 7)<|vc 2<|zK<|oS (kSc<|rC<|j3 "lay")<|oS (pO 3)<|oS (pO 7) pV)
def Kv:MS:=(pd (qa 1<|vh (Dr<|pO 0) [] sV<|kSc<|Fu xj<|rC<|b7 1)
 (pd (qa 2<|qT pV)
 (pd (Qr 3 (rH K64.Fx<|oS (pO 0) pV) uG)
 (rV<|zK<|oS (pO 1)<|oS (pO 2) pV))))
def BG:MF:=sY 1 8 Kv
def K9:MS:=(pd (qa 1<|OC<|lOf<|vh (Zh<|oR (rC<|b7 6) pE) [0] sV<|kSc<|su Zl.zp<|oR (oQ 1)<|oR (oQ 0) pE)
 (pd (qa 2<|kSc<|su pL<|oR (oQ 0)<|oR (rC<|b7 3) pE)
 (pd (qa 3<|vh (Zh<|oR (rC<|b7 5) pE) [1,2] sV<|kSc<|pQ B1 (pQ vd (oQ 1)<|oQ 0)<|pQ Cv (rC<|b7 1)<|pQ B1 (rC<|b7 2)<|pQ vI (pQ B3 (oQ 2)<|pQ AR (oQ 0)<|rC<|b7 2)<|rC<|b7 2)
 (pd (qa 4<|qT<|oS (Of (lOf<|qT<|oS (kSc<|Fu xj<|pQ vd (oQ 1)<|rC<|b7 5) pV)<|lOf<|Zt (vv 3) FD<|Dd<|rC<|b7 4)<|oS (qT<|oS (kSc<|pQ vd (oQ 1)<|rC<|b7 5)<|oS (kSc<|pQ vd (oQ 3)<|rC<|b7 4) pV)<|oS (qT<|oS (kSc<|Fu xj<|pQ vd (oQ 3)<|rC<|b7 0) pV)<|oS (qT<|oS (kSc<|Fu xj<|pQ vd (oQ 3)<|rC<|b7 1)<|oS (kSc<|Fu xj<|pQ vd (oQ 3)<|rC<|b7 4) pV) pV)
 (rV<|Of (K7 4)<|lOf<|qT<|oS (qT<|oS (kSc<|Fu xj<|pQ vd (oQ 3)<|rC<|b7 2) pV)<|oS (qT<|oS (kSc<|Fu xj<|pQ vd (oQ 3)<|rC<|b7 3) pV) pV)))))
def C3:MF:=sY 1 5 K9
def Oq:MS:=(pd (qa 1<|rH K64.zV<|oS (pO 0) pV)
 (pd (zg (rQ<|pQ AY (pQ vI (pQ B3 (su pL<|oR (oQ 0)<|oR (rC<|b7 2) pE)<|rC<|b7 12)<|rC<|b7 5)<|rC<|b7 1) (qa 1<|rH K64.C3<|oS (pO 0) pV) qO)
 (pd (qa 2<|rH Zl.A9<|oS (Of (K7 1)<|lOf<|vh (Zh<|oR (pQ vI (pQ B3 (su pL<|oR (oQ 0)<|oR (rC<|b7 2) pE)<|rC<|b7 3)<|rC<|b7 4) pE) [] sV<|qT pV) pV)
 (pd (qa 3<|vh (Dr<|pO 2) [] sV<|CU<|vv 0)
 (pd (qa 4<|rH K64.xT<|oS (pO 3) pV)
 (pd (qa 5<|rH K64.BG<|oS (rH K61.yc<|oS (pO 2) pV) pV)
 (rV<|kSc<|Wz (vJ TZ<|oR (oQ 4)<|oR (rC<|.ty "tuple") pE)<|Wz (pQ aaO (oQ 4)<|oQ 5)<|pQ N7 (oQ 3)<|oQ 2)))))))
def Qh:MF:=sY 1 6 Oq
seal PE PA PS Km PT PW PC PG PGs PI PO PF EV zA UnR SR SK SL SQ SS Kf SA Wn SM FB CbD BmD UnD
set_option hygiene false
local macro_rules|`(tactic|and_intros)=>do let x<-("abT yv L8 pJ oU oP oT pv oW rz qP rE rJ we Pz wV Jp qL PN Xo Dk qC qJ Ju Ei CN zM xi Cc NJ A7 Jg Qa sQ vE VE aaS Qu Pf U8 Ws Fl tj Am Bo tw qr DP BF pP Cp Kb zE BR VG B8 BE Zo wu Ka O4 AI E7 aa6 D3 PH wz PW.pt".splitOn).toArray.mapM λs=>`(@$(Lean.mkIdent s.toName));`(tactic|apply_rules (maxDepth:=100000) only [$[$x:term],*])
local macro_rules|`(tactic|infer_instance)=>do let x<-("qz tH pB qt oZ sJ qb pH SR.kSc BH qw qM SK.lOf SK.rOf WC aao ZU uq XN Ee SU Y0 xn abj aba Bs Ga uC aaB acy Zb Aw VM Zf Yt aaJ FL abZ U2 A3 DU Qd Td UD aan VX WJ KJ rh Nv acC T2 Tr To Gp NN EZ GV WG YF N3 aaa Zj ZG J4 vS Yk abU RM ad2 abv NU ac7 QB Ao OO Xj OE Yz SD YB PP Vt Qp XX yH Us vn VI YC yh G6 JD Al Y6 Gc SL.q".splitOn).toArray.mapM λs=>`(@$(Lean.mkIdent s.toName));`(tactic|((first | apply qz | apply yh | apply yH | apply SD) <;> apply_rules (maxDepth:=100000) [$[$x:term],*] <;> first | decide | exact λ_ _ _ h=>h))
local macro_rules|`(tactic|bv_omega)=>do let i:=λs:String=>(s.splitOn.map λs=>Lean.mkIdent s.toName).toArray;let x:=i "PassesOwn.never aD bh bj rM PySem.boot_len qV dO dP Ji iS fN jb WN Q7 Wg kO S.nd Gj";let y:=i "Bt.len Bt.range Bt.enum Bt.sorted Bt.zip Bt.abs Bt.reversed";`(tactic|(intro _ _ _ _ _ _ S hr hu hu65;apply Exists.intro;apply And.intro;infer_instance;((first|refine pJ ?_|refine oU ?_ ?_)<;>and_intros<;>(try ((with_reducible intro _ _ _ _);and_intros))<;>first|rfl|exact nobehind _ (by decide) (by decide)|assumption|exact qK _|decide|exact λ_=>rfl|exact λ_ _=>rfl|exact Ge hr|(simp;done)|exact tR.none (by decide +kernel)|(first $[|exact $x]*)|(first $[|exact $y ‹_›]*)|exact JS rfl|exact IY hu|decide +kernel|trivial)))
set_option hygiene true
noncomputable def top(i:Nat):Stmt:=cn PySem.Challenge.pw_mapround_k64_colours_as_told.main.body i<|.Pass (0,0,0,0)
abbrev yR:Stmt:=top 5
def JY:pR ["m","places","place","turn","end"] ["m"]<|oX yR:=sC
abbrev yw(P w K mg base):=Fn P w K mg base 1 "places_at" yR ["m"]<|tE K Zl.vF
def Kc(D:yO K mg "places_at" yR ["m"] f fd)(B:Bt mg):yw P w K mg base f fd:=K5 D JY<|by bv_omega
abbrev E6:Stmt:=top 6
def Va:pR ["m","following","turn","end","behind"] ["m"]<|oX E6:=sC
abbrev QD(P w K mg base):=Fn P w K mg base 1 "nexts" E6 ["m"]<|tE K K51.Fd
def Uu(D:yO K mg "nexts" E6 ["m"] f fd)(B:Bt mg):QD P w K mg base f fd:=K5 D Va<|by bv_omega
abbrev BY:Stmt:=top 8
def Nh:pR ["m","start","place_of","known","waiting","here","end","there"] ["m","start"]<|oX BY:=sC
abbrev Iq(P w K mg base):=Fn P w K mg base 2 "reached" BY ["m","start"]<|tE K K51.zH
def Oj(D:yO K mg "reached" BY ["m","start"] f fd)(B:Bt mg)(l:yw P w K mg base u0 v0):Iq P w K mg base f fd:=K5 D Nh<|by bv_omega
abbrev Dq:Stmt:=top 9
def xK:pR ["m","known","found","start","places","place"] ["m"]<|oX Dq:=sC
abbrev GM(P w K mg base):=Fn P w K mg base 3 "pieces" Dq ["m"]<|tE K K51.zR
def QM(D:yO K mg "pieces" Dq ["m"] f fd)(B:Bt mg)(l:Iq P w K mg base u2 v2):GM P w K mg base f fd:=Kg D xK λQ Q Q Q Q Q hr s n=>(_,
   (oU (qP (i:=1) xK Dk)
   (oU (qP (i:=2) xK<|qJ oT)
   (oU (Am fy rfl (vE (by rfl) B.range<|oP (qL qV (by rfl) B.len eS<|oP (pv 0) oT) oT) (Cc (i:=3) xK)
    (pJ (we (NX<|Iw (Ge hr) (pv 3)<|pv 1) (oU (qP (i:=4) xK<|rz l hr<|oP (pv 0)<|oP (pv 3) oT) (oU (Am fy rfl (sQ<|pv 4) (Cc (i:=5) xK)
    (pJ<|Fl (Ge hr) (pv 1) (pv 5) Pz rfl))<|pJ<|tj<|wV aD bh bj rM (pv 2)<|oP (wJ (N:=["place","m"]) (fr:=[0]) rfl rfl (by trivial) rfl (by trivial) rfl (t5 (by trivial) rfl rfl (by show(rfl,trivial)) (by repeat (first|show trivial|show((by first|show λQ=>(_,rfl)|show λh=>(by obtain h|h:=h <;> cases h)),?_)))<|by show((rfl,rfl,rfl),trivial)) (sQ<|pv 4) (λQ Q Q Q=>xi)<|λQ Q Q Q=>(xH xC (by rfl) B.list eh<|oP (qC pP (pv 1) (pv 0)<|λQ Q=>rfl) oT)) oT)) tw)))
   (pJ<|rE<|pv 2)))),by infer_instance)
abbrev se:Stmt:=top 10
def zC:pR ["m"] ["m"]<|oX se:=sC
abbrev vU(P w K mg base):=Fn P w K mg base 4 "refuse_not_one_piece" se ["m"]<|tE K K54.rZ
def zt(D:yO K mg "refuse_not_one_piece" se ["m"] f fd)(B:Bt mg)(l:GM P w K mg base u3 v3):vU P w K mg base f fd:=Kg D zC λQ Q Q Q Q Q hr s n=>(_,
   (pJ<|we (qr O4 (qL qV (by rfl) B.len eS<|oP (rz l hr<|oP (pv 0) oT) oT) oW<|qK _) (pJ Mc) tw),by infer_instance)
abbrev IU:Stmt:=top 12
def Xp:pR ["m","place_of","following","came_by","things","end","there"] ["m"]<|oX IU:=sC
abbrev Vn(P w K mg base):=Fn P w K mg base 5 "walk" IU ["m"]<|tE K K54.D4
def Xc(D:yO K mg "walk" IU ["m"] f fd)(B:Bt mg)(l:vU P w K mg base u4 v4)(n:yw P w K mg base u0 v0)(s:QD P w K mg base u1 v1):Vn P w K mg base f fd:=K5 D Xp<|by bv_omega
abbrev uT:Stmt:=top 13
def C5:pR ["things","waiting","word","end","road","last"] ["things"]<|oX uT:=sC
abbrev zo(P w K mg base):=Fn P w K mg base 1 "first_crossing" uT ["things"]<|tE K K54.sr
def Dt(D:yO K mg "first_crossing" uT ["things"] f fd)(B:Bt mg):zo P w K mg base f fd:=K5 D C5<|by bv_omega
abbrev Av:Stmt:=top 14
def LO:pR ["m","piece","found"] ["m"]<|oX Av:=sC
abbrev GZ(P w K mg base):=Fn P w K mg base 6 "crossing" Av ["m"]<|tE K K54.vq
def LG(D:yO K mg "crossing" Av ["m"] f fd)(B:Bt mg)(n:GM P w K mg base u3 v3)(l:zo P w K mg base u6 v6)(s:Vn P w K mg base u5 v5):GZ P w K mg base f fd:=K5 D LO<|by bv_omega
abbrev uM:Stmt:=top 15
def yS:pR ["m","found"] ["m"]<|oX uM:=sC
abbrev zB(P w K mg base):=Fn P w K mg base 7 "refuse_crossed" uM ["m"]<|tE K K64.uQ
def Dw(D:yO K mg "refuse_crossed" uM ["m"] f fd)(B:Bt mg)(l:GZ P w K mg base u7 v7):zB P w K mg base f fd:=Kg D yS λQ Q Q Q Q Q hr s n=>(_,
   (oU (qP (i:=1) yS<|rz l hr<|oP (pv 0) oT)
   (pJ<|we (qr E7 (pv 1) Ju<|qK _) (pJ Mc) tw)),by infer_instance)
abbrev C1:Stmt:=top 18
def BS:pR ["turn","place_of","place","found","end","there"] ["turn","place_of","place"]<|oX C1:=sC
abbrev K2(P w K mg base):=Fn P w K mg base 1 "led_to" C1 ["turn","place_of","place"]<|tE K K61.zO
def Q0(D:yO K mg "led_to" C1 ["turn","place_of","place"] f fd)(B:Bt mg):K2 P w K mg base f fd:=Kg D BS λQ Q Q Q Q Q hr n l=>(_,
   (oU (qP (i:=3) BS Dk)
   (oU (Am fy rfl (sQ<|pv 0) (Cc (i:=4) BS)
    (oU (qP (i:=5) BS<|PN (Ge hr) (pv 1) (zM wz<|pv 4)<|by first|rfl|show trivial|(intro _ _;rfl))<|pJ<|we (qr O4 (pv 5) (pv 2)<|qK _) (pJ<|Fl (Ge hr) (pv 3) (pv 5) Pz rfl) tw))
   (pJ<|rE<|xH (Nd rfl) (by rfl) B.list eh<|oP (pv 3) oT))),by infer_instance)
abbrev xF:Stmt:=top 19
def Cf:pR ["m","place_of"] ["m"]<|oX xF:=sC
abbrev Dh(P w K mg base):=Fn P w K mg base 2 "neighbours" xF ["m"]<|tE K K61.xE
def Hq(D:yO K mg "neighbours" xF ["m"] f fd)(B:Bt mg)(l:yw P w K mg base u0 v0)(n:K2 P w K mg base u9 v9):Dh P w K mg base f fd:=Kg D Cf λQ Q Q Q Q Q hr t s=>(_,
   (oU (qP (i:=1) Cf<|rz l hr<|oP (pv 0) oT)
   (pJ<|rE<|Ud (N:=["place","turn","place_of"]) (fr:=[1]) rfl rfl (by trivial) rfl (by trivial) rfl rfl (G5.of (by trivial) rfl rfl rfl (by show(rfl,trivial)) (by repeat (first|show trivial|show((by first|show λQ=>(_,rfl)|show λh=>(by obtain h|h:=h <;> cases h)),?_)))<|by show((rfl,rfl,rfl),trivial)) (Qa (by rfl) B.enum<|oP (pv 0) oT) (λQ Q Q Q=>xi)<|λQ Q Q Q=>(rz n hr<|oP (pv 1)<|oP (pv 2)<|oP (pv 0) oT))),by infer_instance)
abbrev wM:Stmt:=top 20
def GD:pR ["near","colours","place","a","b","known","waiting","here","there"] ["near","colours","place","a","b"]<|oX wM:=sC
abbrev yX(P w K mg base):=Fn P w K mg base 1 "chain_among" wM ["near","colours","place","a","b"]<|tE K K62.uj
def Gi(D:yO K mg "chain_among" wM ["near","colours","place","a","b"] f fd)(B:Bt mg):yX P w K mg base f fd:=K5 D GD<|by bv_omega
abbrev BU:Stmt:=top 21
def OB:pR ["near","left","place"] ["near","left","place"]<|oX BU:=sC
abbrev Ik(P w K mg base):=Fn P w K mg base 1 "has_few" BU ["near","left","place"]<|tE K K64.zq
def Ox(D:yO K mg "has_few" BU ["near","left","place"] f fd)(B:Bt mg)(l:mg "MANY_COLOURS" = aB (jK 5 t_MANY_COLOURS)):Ik P w K mg base f fd:=Kg D OB λQ Q Q Q Q Q hr s n=>(_,
   (pJ<|rE<|Fp adY (qL qV (by rfl) B.len eS<|oP (wJ (N:=["there","left"]) (fr:=[1]) rfl rfl (by trivial) rfl (by trivial) rfl (t5 (by trivial) rfl rfl (by show(rfl,trivial)) (by repeat (first|show trivial|show((by first|show λQ=>(_,rfl)|show λh=>(by obtain h|h:=h <;> cases h)),?_)))<|by show((rfl,rfl,rfl),trivial)) (sQ<|qC pP (pv 0) (pv 2)<|λQ Q=>rfl) (λQ Q Q Q=>CB<|qr BE (pv 0) (pv 1) rfl)<|λQ Q Q Q=>(pv 0)) oT) (Pw (v:=c7 5) (by rfl) l (_,rfl))<|qK _),by infer_instance)
abbrev wN:Stmt:=top 22
def GI:pR ["near","left"] ["near","left"]<|oX wN:=sC
abbrev Ce(P w K mg base):=Fn P w K mg base 2 "first_to_go" wN ["near","left"]<|tE K K64.wG
def Gb(D:yO K mg "first_to_go" wN ["near","left"] f fd)(B:Bt mg)(l:Ik P w K mg base u12 v12):Ce P w K mg base f fd:=Kg D GI λQ Q Q Q Q Q hr s n=>(_,
   (pJ<|rE<|qC pP (wJ (N:=["place","near","left"]) (fr:=[0,1]) rfl rfl (by trivial) rfl (by trivial) rfl (t5 (by trivial) rfl rfl (by show(rfl,rfl,trivial)) (by repeat (first|show trivial|show((by first|show λQ=>(_,rfl)|show λh=>(by obtain h|h:=h <;> cases h)),?_)))<|by show((rfl,rfl,rfl),(rfl,rfl,rfl),trivial)) (sQ<|pv 1) (λQ Q Q Q=>CB<|abA<|rz l hr<|oP (pv 1)<|oP (pv 2)<|oP (pv 0) oT)<|λQ Q Q Q=>(pv 0)) oW<|λQ Q=>rfl),by infer_instance)
abbrev yC:Stmt:=top 23
def xx:pR ["near","order","left","place"] ["near"]<|oX yC:=sC
abbrev Ew(P w K mg base):=Fn P w K mg base 3 "taken_out" yC ["near"]<|tE K K64.yQ
def J6(D:yO K mg "taken_out" yC ["near"] f fd)(B:Bt mg)(l:Ce P w K mg base u13 v13):Ew P w K mg base f fd:=Kg D xx λQ Q Q Q Q Q hr s n=>(_,
   (oU (qP (i:=1) xx<|qJ oT)
   (oU (qP (i:=2) xx<|LC rfl (by rfl) B.list (by rfl) B.range<|oP (qL qV (by rfl) B.len eS<|oP (pv 0) oT) oT)
   (oU (Bo fy (qr B8 (qL qV (by rfl) B.len eS<|oP (pv 2) oT) oW<|qK _)<|oU (qP (i:=3) xx<|rz l hr<|oP (pv 0)<|oP (pv 2) oT)<|oU (tj<|wV aD bh bj rM (pv 1)<|oP (pv 3) oT)<|pJ<|tj<|wV aD iR PySem.F.type_list_remove Wt (pv 2)<|oP (pv 3) oT)
   (pJ<|rE<|pv 1)))),by infer_instance)
abbrev Dv:Stmt:=top 24
def HD:pR ["colours","barred","free"] ["colours","barred"]<|oX Dv:=sC
abbrev LI(P w K mg base):=Fn P w K mg base 3 "rarest" Dv ["colours","barred"]<|tE K K64.zS
def QS(D:yO K mg "rarest" Dv ["colours","barred"] f fd)(hC:fd.code = dS n)(u:W.codeHdIn K n t=t_)(x:%[t|(("rarest" : Str) ++ ".<locals>.") ++ "<lambda>"]∈vM K)(B:Bt mg)(l:mg "MANY_COLOURS" = aB (jK 5 t_MANY_COLOURS)):LI P w K mg base f fd:=(D,okC D.F HD (λZ Z Z Z=>IS) λA outer s H z Q E hr h=>(_,(oU (yv (i:=2) (N:=["colour","barred"]) (fr:=[1]) rfl HD.nd rfl (by trivial) rfl (by trivial) rfl (by trivial) rfl (t5 (by trivial) rfl rfl (by show(rfl,trivial)) (by repeat (first|show trivial|show((by first|show λZ=>(_,rfl)|show λh=>(by obtain h|h:=h <;> cases h)),?_)))<|by show((rfl,rfl,rfl),trivial)) (vE (by rfl) B.range<|oP (Pw (v:=c7 5) (by rfl) l (_,rfl)) oT) (λZ Z Z Z=>CB<|qr AI (pv 0) (pv 1) rfl)<|λZ Z Z Z=>(pv 0))<|pJ<|rE<|Ow (i:=0) (k:=0) hr rfl (by rfl) B.min hC u x rfl rfl (ED.of rfl rfl rfl (by trivial) rfl rfl (_,rfl,rfl) rfl) rfl (oP (pv 2) oT) (λZ Z Z Z=>rfl)<|λZ Z Z Z hr=>(wV aD fN jb Xw (pv 1)<|oP (pv 0) oT)),Dx _ (K:=K) (qz (tH (i:=2)<|DU (qt pH qM) (qF<|qb (Ga t_) (oZ 0)<|oZ 1)<|sJ 0)<|yh<|eM<|MZ (i:=0) (N3 2)<|eM<|ZG (T:= "list") Ys (oZ 1)<|qt (oZ 0) qM) h))
abbrev wg:Stmt:=top 25
def xf:pR ["colours","places","a","b","changed","place"] ["colours","places","a","b"]<|oX wg:=sC
abbrev BB(P w K mg base):=Fn P w K mg base 1 "change_chain" wg ["colours","places","a","b"]<|tE K K64.vT
def EU(D:yO K mg "change_chain" wg ["colours","places","a","b"] f fd)(B:Bt mg):BB P w K mg base f fd:=Kg D xf λQ Q Q Q Q Q hr n l=>(_,
   (oU (qP (i:=4) xf<|xH xC (by rfl) B.list eh<|oP (pv 0) oT)
   (oU (Am fy rfl (sQ<|pv 1) (Cc (i:=5) xf)
    (pJ<|JO (VD (qr zE (qC pP (pv 0) (pv 5)<|λQ Q=>rfl) (pv 2)<|qK _) (pv 3)<|pv 2)<|Jo (pv 4) (pv 5) Dm))
   (pJ<|rE<|pv 4))),by infer_instance)
abbrev vR:Stmt:=top 26
def EW:pR ["near","colours","laid","one","three"] ["near","colours","laid"]<|oX vR:=sC
abbrev Bm(P w K mg base):=Fn P w K mg base 2 "turn_to_free" vR ["near","colours","laid"]<|tE K K64.uB
def ES(D:yO K mg "turn_to_free" vR ["near","colours","laid"] f fd)(B:Bt mg)(l:yX P w K mg base u11 v11):Bm P w K mg base f fd:=K5 D EW<|by bv_omega
abbrev wa:Stmt:=top 27
def vo:pR ["near","colours","place","laid","free","turn"] ["near","colours","place"]<|oX wa:=sC
abbrev A4(P w K mg base):=Fn P w K mg base 4 "steps_to_lay" wa ["near","colours","place"]<|tE K K64.tO
def EN(D:yO K mg "steps_to_lay" wa ["near","colours","place"] f fd)(B:Bt mg)(n:LI P w K mg base u15 v15)(l:Bm P w K mg base u17 v17):A4 P w K mg base f fd:=Kg D vo λQ Q Q Q Q Q hr t s=>(_,
   (oU (yv (i:=3) (N:=["there","colours"]) (fr:=[1]) rfl vo.nd rfl (by trivial) rfl (by trivial) rfl (by trivial) rfl (t5 (by trivial) rfl rfl (by show(rfl,trivial)) (by repeat (first|show trivial|show((by first|show λQ=>(_,rfl)|show λh=>(by obtain h|h:=h <;> cases h)),?_)))<|by show((rfl,rfl,rfl),trivial)) (sQ<|qC pP (pv 0) (pv 2)<|λQ Q=>rfl) (λQ Q Q Q=>CB<|qr E7 (qC pP (pv 1) (pv 0)<|λQ Q=>rfl) Ju<|qK _)<|λQ Q Q Q=>(pv 0))
   (oU (qP (i:=4) vo<|rz n hr<|oP (pv 1)<|oP (wJ (N:=["there","colours"]) (fr:=[1]) rfl rfl (by trivial) rfl (by trivial) rfl (t5 (by trivial) rfl rfl (by show(rfl,trivial)) (by repeat (first|show trivial|show((by first|show λQ=>(_,rfl)|show λh=>(by obtain h|h:=h <;> cases h)),?_)))<|by show((rfl,rfl,rfl),trivial)) (sQ<|pv 3) (λQ Q Q Q=>xi)<|λQ Q Q Q=>(qC pP (pv 1) (pv 0)<|λQ Q=>rfl)) oT)
   (oU (we (qr E7 (pv 4) Ju<|qK _) (pJ<|rE<|qJ<|oP (CN<|oP Ei<|oP (pv 2)<|oP (pv 4) oT) oT) tw)
   (oU (qP (i:=5) vo<|rz l hr<|oP (pv 0)<|oP (pv 1)<|oP (pv 3) oT)
   (pJ<|rE<|qJ<|oP (pv 5)<|oP (CN<|oP Ei<|oP (pv 2)<|oP (qC Ar (pv 5) oW<|λQ Q=>rfl) oT) oT))))),by infer_instance)
abbrev wH:Stmt:=top 28
def yq:pR ["near","colours","step","places","changed"] ["near","colours","step"]<|oX wH:=sC
abbrev B4(P w K mg base):=Fn P w K mg base 2 "behind_step" wH ["near","colours","step"]<|tE K K64.uk
def GF(D:yO K mg "behind_step" wH ["near","colours","step"] f fd)(B:Bt mg)(n:yX P w K mg base u11 v11)(l:BB P w K mg base u16 v16):B4 P w K mg base f fd:=Kg D yq λQ Q Q Q Q Q hr t s=>(_,
   (oU (we (qr zE (qC (aAb pP Ar) (pv 2) oW<|λQ Q=>rfl) Ei<|qK _) (oU (qP (i:=3) yq<|rz n hr<|oP (pv 0)<|oP (pv 1)<|oP (qC (aAb pP Ar) (pv 2) oW<|λQ Q=>rfl)<|oP (qC (aAb pP Ar) (pv 2) oW<|λQ Q=>rfl)<|oP (qC (aAb pP Ar) (pv 2) oW<|λQ Q=>rfl) oT)<|pJ<|rE<|rz l hr<|oP (pv 1)<|oP (pv 3)<|oP (qC (aAb pP Ar) (pv 2) oW<|λQ Q=>rfl)<|oP (qC (aAb pP Ar) (pv 2) oW<|λQ Q=>rfl) oT) tw)
   (oU (qP (i:=4) yq<|xH xC (by rfl) B.list eh<|oP (pv 1) oT)
   (oU (JO (qC (aAb pP Ar) (pv 2) oW<|λQ Q=>rfl)<|Jo (pv 4) (qC (aAb pP Ar) (pv 2) oW<|λQ Q=>rfl) Dm)
   (pJ<|rE<|pv 4)))),by infer_instance)
abbrev AB:Stmt:=top 29
def Kx:pR ["m","near","colours","log","place","step"] ["m"]<|oX AB:=sC
abbrev Gd(P w K mg base):=Fn P w K mg base 8 "coloured" AB ["m"]<|tE K K64.xT
def Ll(D:yO K mg "coloured" AB ["m"] f fd)(B:Bt mg)(l:zB P w K mg base u8 v8)(t:Dh P w K mg base u10 v10)(u:Ew P w K mg base u14 v14)(n:A4 P w K mg base u18 v18)(s:B4 P w K mg base u19 v19):Gd P w K mg base f fd:=K5 D Kx<|by bv_omega
abbrev yy:Stmt:=top 31
def Je:pR ["_law_script","_law_k"] ["_law_script","_law_k"]<|oX yy:=sC
abbrev vC(P w K mg base):=Fn P w K mg base 1 "_law_cell_at" yy ["_law_script","_law_k"]<|tE K pL
def JU(D:yO K mg "_law_cell_at" yy ["_law_script","_law_k"] f fd)(B:Bt mg):vC P w K mg base f fd:=K5 D Je<|by bv_omega
abbrev Do:Stmt:=top 32
def RW:pR ["_law_script","_law_k","_law_step","_law_shift","_law_turn","_law_road_here"] ["_law_script","_law_k"]<|oX Do:=sC
abbrev FW(P w K mg base):=Fn P w K mg base 2 "_law_road" Do ["_law_script","_law_k"]<|tE K Zl.zp
def RU(D:yO K mg "_law_road" Do ["_law_script","_law_k"] f fd)(B:Bt mg)(l:vC P w K mg base u21 v21):FW P w K mg base f fd:=K5 D RW<|by bv_omega
abbrev yA:Stmt:=top 33
def JA:pR ["_law_style","_law_cell"] ["_law_style","_law_cell"]<|oX yA:=sC
abbrev EM(P w K mg base):=Fn P w K mg base 1 "_law_letters" yA ["_law_style","_law_cell"]<|tE K K64.tT
def JV(D:yO K mg "_law_letters" yA ["_law_style","_law_cell"] f fd)(B:Bt mg):EM P w K mg base f fd:=by
 show(D,D.F.ok JA (λZ Z Z Z=>IS) λn A outer s H t Q E hr h=>?_);have u:=hr.units;have l:=aAx hr;show(_,?_,Dx _ (K:=K) (qz (yH (qF<|qb xn (qb Aw (oZ 1) pH) pH) (yh<|rh<|pB (eM pH) qw) vn)
   (qz (yH (qF<|qb xn (qb Aw (oZ 0) pH) pH) (yh<|rh<|pB (eM<|qb Aw (oZ 1) pH) qw) vn)
   (qz (yH (Al (qF<|qb xn (qb Aw (oZ 0) pH) pH)<|qF<|qb Bs (qb Aw (oZ 1) pH) pH) (yh<|rh<|pB (eM pH)<|pB (eM pH)<|pB (eM pH)<|pB (eM pH) qw) vn)
   (qz (yH (qF<|qb xn (qb Aw (oZ 0) pH) pH) (yh<|rh<|pB (eM<|qb Aw (qb SU (oZ 1) pH) pH) qw) vn)
   (yh<|UD (SL.q<|SK.lOf<|rh<|pB (rh<|pB (eM pH) qw)<|pB (rh<|pB (eM pH) qw)<|pB (rh<|pB (eM pH) qw)<|pB (rh<|pB (eM pH) qw)<|pB (rh<|pB (eM pH)<|pB (eM pH)<|pB (eM pH)<|pB (eM pH) qw)<|pB (rh<|pB (eM pH)<|pB (eM pH)<|pB (eM pH)<|pB (eM pH) qw)<|pB (rh<|pB (eM pH)<|pB (eM pH) qw)<|pB (rh<|pB (eM pH)<|pB (eM pH)<|pB (eM pH) qw) qw)<|qb Aw (oZ 1) pH))))) h);show oU ?_ ?_;.show(we (qr zE (rJ wu (pv 1) oW) oW<|qK _) (pJ<|rE<|qJ<|oP oW oT) tw)
 show oU ?_ ?_;.show(we (qr zE (rJ wu (pv 0) oW) oW<|qK _) (pJ<|rE<|qJ<|oP (rJ wu (pv 1) oW) oT) tw)
 show oU ?_ ?_;.show(we (PW.pt<|DP (qr zE (rJ wu (pv 0) oW) oW<|qK _)<|BF<|qr B8 (rJ wu (pv 1) oW) oW<|qK _) (pJ<|rE<|qJ<|oP oW<|oP oW<|oP oW<|oP oW oT) tw)
 show oU ?_ ?_;.show(we (qr zE (rJ wu (pv 0) oW) oW<|qK _) (pJ<|rE<|qJ<|oP (rJ wu (rJ BR (pv 1) oW) oW) oT) tw)
 show pJ ?_;show rE ?_;show qC (r:=QQ K) ?_ ?_ ?_ ?_;.show pP
 .show pl8 ?_ ?_ ?_ ?_ ?_ ?_ ?_ ?_ ?_ ?_ ?_ ?_ ?_ ?_ ?_ ?_ <;> first|rfl|show qJ<|oP oW oT|show qJ<|oP oW<|oP oW oT|show qJ<|oP oW<|oP oW<|oP oW oT|show qJ<|oP oW<|oP oW<|oP oW<|oP oW oT
 .show rJ wu (pv 1) oW
 .show λZ Z=>rfl
abbrev A5:Stmt:=top 34
def RQ:pR ["_law_turn","_law_opened"] ["_law_turn","_law_opened"]<|oX A5:=sC
def QK(D:yO K mg "_law_home" A5 ["_law_turn","_law_opened"] f fd)(B:Bt mg):Fn P w K mg base 1 "_law_home" A5 ["_law_turn","_law_opened"] (EI K) f fd:=(D,D.F.ok RQ (λl H Q E h=>RH h) λn A outer s H l Q E hr h=>(_,(pJ<|Bo fy (qr B8 (qL qV (by rfl) B.len eS<|oP (pv 1) oT) oW<|qK _)<|pJ<|tj<|wV aD bh bj rM (pv 0)<|oP (zM wz<|Jp aD dO dP Ji<|pv 1) oT),Q6 h))
abbrev BO:Stmt:=top 35
def Ng:pR ["_law_cell","_law_order","_law_many_here","_law_names_here","_law_last","_law_k","_law_given"] ["_law_cell","_law_order","_law_many_here"]<|oX BO:=sC
abbrev HL(P w K mg base):=Fn P w K mg base 1 "_law_names" BO ["_law_cell","_law_order","_law_many_here"]<|tE K K07.zh
def NA(D:yO K mg "_law_names" BO ["_law_cell","_law_order","_law_many_here"] f fd)(B:Bt mg):HL P w K mg base f fd:=K5 D Ng<|by bv_omega
abbrev C4:Stmt:=top 36
def Rr:pR ["_law_script","_law_word_here","_law_cell","_law_k","_law_letter"] ["_law_script"]<|oX C4:=sC
abbrev KA(P w K mg base):=Fn P w K mg base 2 "_law_word" C4 ["_law_script"]<|tE K K64.Bz
def R9(D:yO K mg "_law_word" C4 ["_law_script"] f fd)(B:Bt mg)(l:vC P w K mg base u21 v21)(n:EM P w K mg base u23 v23):KA P w K mg base f fd:=K5 D Rr<|by bv_omega
abbrev BV:Stmt:=top 37
def Nk:pR ["_law_script"] ["_law_script"]<|oX BV:=sC
abbrev HE(P w K mg base):=Fn P w K mg base 3 "_law_roads" BV ["_law_script"]<|tE K K64.zN
def M4(D:yO K mg "_law_roads" BV ["_law_script"] f fd)(B:Bt mg)(s:HL P w K mg base u24 v24)(t:FW P w K mg base u22 v22)(l:vC P w K mg base u21 v21):HE P w K mg base f fd:=Kg D Nk λQ Q Q Q Q Q hr u n=>(_,
   (oU (we (qr zE (rJ wu (rJ BR (rz l hr<|oP (pv 0)<|oP oW oT) oW) oW) oW<|qK _) (pJ<|rE<|rz s hr<|oP (rz l hr<|oP (pv 0)<|oP oW oT)<|oP (rz l hr<|oP (pv 0)<|oP oW oT)<|oP oW oT) tw)
   (pJ<|rE<|wJ (N:=["_law_k","_law_script"]) (fr:=[0]) rfl rfl (by trivial) rfl (by trivial) rfl (t5 (by trivial) rfl rfl (by show(rfl,trivial)) (by repeat (first|show trivial|show((by first|show λQ=>(_,rfl)|show λh=>(by obtain h|h:=h <;> cases h)),?_)))<|by show((rfl,rfl,rfl),trivial)) (vE (by rfl) B.range<|oP oW oT) (λQ Q Q Q=>xi)<|λQ Q Q Q=>(rz t hr<|oP (pv 1)<|oP (pv 0) oT))),by infer_instance)
abbrev Ax:Stmt:=top 38
def sk:pR ["_law_script","_law_turns","_law_above","_law_opened","_law_roads_here","_law_letter","_law_sign","_law_here","_law_road_here"] ["_law_script"]<|oX Ax:=sC
abbrev Hb(P w K mg base):=Fn P w K mg base 4 "_law_planar" Ax ["_law_script"]<|tE K K64.zV
def KW(D:yO K mg "_law_planar" Ax ["_law_script"] f fd)(B:Bt mg)(s:HE P w K mg base u26 v26)(t:KA P w K mg base u25 v25)(l:Fn P w K mg base 1 "_law_home" A5 ["_law_turn","_law_opened"] (EI K) fL_home fdL_home):Hb P w K mg base f fd:=Kg D sk λQ Q Q Q Q Q hr u n=>(_,
   (oU (qP (i:=1) sk<|qJ<|oP (qJ oT) oT)
   (oU (qP (i:=2) sk<|qJ<|oP oW oT)
   (oU (qP (i:=3) sk<|qJ oT)
   (oU (qP (i:=4) sk<|rz s hr<|oP (pv 0) oT)
   (oU (Am fy rfl (sQ<|rz t hr<|oP (pv 0) oT) (NJ rfl<|A7 (Cc (i:=5) sk)<|A7 (Cc (i:=6) sk) Jg)
    (oU (qP (i:=7) sk<|qC pP (pv 1) (qC pP (pv 2) (rJ D3 (qL qV (by rfl) B.len eS<|oP (pv 2) oT) oW)<|λQ Q=>rfl)<|λQ Q=>rfl)<|oU (we (PW.pt<|DP (qr BE (pv 5) (CN<|oP oW<|oP oW oT) rfl)<|BF<|qr B8 (qL qV (by rfl) B.len eS<|oP (pv 4) oT) oW<|qK _) (oU (qP (i:=8) sk<|rJ Ka (pv 6)<|wV aD dO dP Gj (pv 4)<|oP oW oT)<|oU (tj<|wV aD bh bj rM (pv 7)<|oP (pv 8) oT)<|pJ<|we (qr zE (pv 5) oW<|qK _) (oU (tj<|wV aD bh bj rM (pv 2)<|oP (qL qV (by rfl) B.len eS<|oP (pv 1) oT) oT)<|pJ<|tj<|wV aD bh bj rM (pv 1)<|oP (qJ<|oP (zM wz<|pv 8) oT) oT)<|pJ<|tj<|wV aD bh bj rM (pv 3)<|oP (pv 8) oT) tw)<|oU (we (PW.pt<|DP (qr zE (pv 5) oW<|qK _)<|BF<|qr B8 (qL qV (by rfl) B.len eS<|oP (pv 2) oT) oW<|qK _) (pJ<|tj<|Jp aD dO dP Ji<|pv 2) tw)<|oU (we (PW.pt<|DP (qr zE (pv 5) oW<|qK _)<|BF<|qr B8 (qL qV (by rfl) B.len eS<|oP (pv 3) oT) oW<|qK _) (pJ<|tj<|wV aD bh bj rM (pv 7)<|oP (zM wz<|Jp aD dO dP Ji<|pv 3) oT) tw)<|pJ<|we (qr zE (pv 5) oW<|qK _) (oU (tj<|rz l hr<|oP (pv 7)<|oP (pv 3) oT)<|oU (qP (i:=2) sk<|qJ<|oP (qL qV (by rfl) B.len eS<|oP (pv 1) oT) oT)<|pJ<|tj<|wV aD bh bj rM (pv 1)<|oP (qJ oT) oT) tw))
   (oU (tj<|rz l hr<|oP (qC pP (pv 1) (qC pP (pv 2) (rJ D3 (qL qV (by rfl) B.len eS<|oP (pv 2) oT) oW)<|λQ Q=>rfl)<|λQ Q=>rfl)<|oP (pv 3) oT)
   (pJ<|rE<|pv 1))))))),
   (qz (tH (i:=1)<|rh<|pB (rh qw) qw)
   (qz (tH (i:=2)<|rh<|pB (eM pH) qw)
   (qz (tH (i:=3)<|rh qw)
   (qz (tH (i:=4)<|BH<|pB (sJ 0) qw)
   (qz (PP (BH<|pB (sJ 0) qw)<|aaK (UY (Pq 1)<|qb uC (oZ 2)<|qb FL (vS uq<|qt (oZ 2) qM) pH)<|Oz (Al (qF<|qb (Ga f_) (oZ 5)<|SK.rOf<|Gp<|pB (eM pH)<|pB (eM pH) qw)<|qF<|qb Bs (vS uq<|qt (oZ 4) qM) pH) (GC (aa3 (UX (ZK VM (oZ 6)<|GV (i:=4) pH) ⋯)<|GC (ZX<|sJ 8)<|yH (qF<|qb xn (oZ 5) pH) (qz (Ao (i:=2)<|eM<|vS uq<|qt (oZ 1) qM)<|Ao (i:=1)<|rh<|pB (eM<|QB Gc<|oZ 8) qw)<|Ao (i:=3)<|sJ 8)<|qz (yH (Al (qF<|qb xn (oZ 5) pH)<|qF<|qb Bs (vS uq<|qt (oZ 2) qM) pH) (KQ<|EZ (i:=2)) vn)<|qz (yH (Al (qF<|qb xn (oZ 5) pH)<|qF<|qb Bs (vS uq<|qt (oZ 3) qM) pH) GU vn)<|yH (qF<|qb xn (oZ 5) pH) (qz GU<|qz (tH (i:=2)<|rh<|pB (eM<|vS uq<|qt (oZ 1) qM) qw)<|Ao (i:=1)<|rh qw) vn)<|Oz (Al (qF<|qb xn (oZ 5) pH)<|qF<|qb Bs (vS uq<|qt (oZ 2) qM) pH) (GC (ZF<|KQ<|EZ (i:=2))<|qz (yH (Al (qF<|qb xn (oZ 5) pH)<|qF<|qb Bs (vS uq<|qt (oZ 3) qM) pH) GU vn)<|yH (qF<|qb xn (oZ 5) pH) (qz GU<|qz (tH (i:=2)<|rh<|pB (eM<|vS uq<|qt (oZ 1) qM) qw)<|Ao (i:=1)<|rh qw) vn)<|Oz (Al (qF<|qb xn (oZ 5) pH)<|qF<|qb Bs (vS uq<|qt (oZ 3) qM) pH) (GC (WA<|adB Gc<|EZ (i:=3))<|yH (qF<|qb xn (oZ 5) pH) (qz GU<|qz (tH (i:=2)<|rh<|pB (eM<|vS uq<|qt (oZ 1) qM) qw)<|Ao (i:=1)<|rh qw) vn)<|Zz (qF<|qb xn (oZ 5) pH) (GC (Xm (j:=3))<|qz (tH (i:=2)<|rh<|pB (eM<|vS uq<|qt (oZ 1) qM) qw)<|Ao (i:=1)<|rh qw)<|ZF vn)
   (qz (VU (j:=3)<|UY (Pq 1)<|qb uC (oZ 2)<|qb FL (vS uq<|qt (oZ 2) qM) pH)
   (yh<|Nv 1))))))))
abbrev C8:Stmt:=top 39
def QW:pR ["_law_turns","_law_rows","_law_turn","_law_at","_law_k"] ["_law_turns"]<|oX C8:=sC
abbrev Lc(P w K mg base):=Fn P w K mg base 1 "_law_good" C8 ["_law_turns"]<|tE K Zl.A9
def QE(D:yO K mg "_law_good" C8 ["_law_turns"] f fd)(B:Bt mg):Lc P w K mg base f fd:=K5 D QW<|by bv_omega
abbrev Aq:Stmt:=top 40
def KF:pR ["_law_m","_law_at","_law_place","_law_turn","_law_end","_law_beside_here","_law_row"] ["_law_m"]<|oX Aq:=sC
abbrev GT(P w K mg base):=Fn P w K mg base 1 "_law_beside" Aq ["_law_m"]<|tE K K61.yc
def Ky(D:yO K mg "_law_beside" Aq ["_law_m"] f fd)(B:Bt mg):GT P w K mg base f fd:=K5 D KF<|by bv_omega
abbrev BW:Stmt:=top 41
def Od:pR ["_law_beside_here","_law_colours","_law_place","_law_a","_law_b","_law_met","_law_k","_law_there"] ["_law_beside_here","_law_colours","_law_place","_law_a","_law_b"]<|oX BW:=sC
abbrev Hx(P w K mg base):=Fn P w K mg base 1 "_law_chain" BW ["_law_beside_here","_law_colours","_law_place","_law_a","_law_b"]<|tE K YP
def M8(D:yO K mg "_law_chain" BW ["_law_beside_here","_law_colours","_law_place","_law_a","_law_b"] f fd)(B:Bt mg):Hx P w K mg base f fd:=K5 D Od<|by bv_omega
abbrev DA:Stmt:=top 42
def Q8:pR ["_law_row","_law_held"] ["_law_row","_law_held"]<|oX DA:=sC
abbrev Kz(P w K mg base):=Fn P w K mg base 1 "_law_many" DA ["_law_row","_law_held"]<|tE K K64.zG
def Rj(D:yO K mg "_law_many" DA ["_law_row","_law_held"] f fd)(B:Bt mg):Kz P w K mg base f fd:=Kg D Q8 λQ Q Q Q Q Q hr n l=>(_,
   (pJ<|rE<|qL qV (by rfl) B.len eS<|oP (wJ (N:=["_law_there","_law_held"]) (fr:=[1]) rfl rfl (by trivial) rfl (by trivial) rfl (t5 (by trivial) rfl rfl (by show(rfl,trivial)) (by repeat (first|show trivial|show((by first|show λQ=>(_,rfl)|show λh=>(by obtain h|h:=h <;> cases h)),?_)))<|by show((rfl,rfl,rfl),trivial)) (sQ<|pv 0) (λQ Q Q Q=>CB<|NX<|ab0 (Ge hr) (pv 0)<|pv 1)<|λQ Q Q Q=>(pv 0)) oT),by infer_instance)
abbrev EY:Stmt:=top 43
def yo:pR ["_law_beside_here","_law_left","_law_out_here","_law_held","_law_place","_law_k"] ["_law_beside_here"]<|oX EY:=sC
abbrev Pr(P w K mg base):=Fn P w K mg base 2 "_law_out" EY ["_law_beside_here"]<|tE K K64.Fx
def VY(D:yO K mg "_law_out" EY ["_law_beside_here"] f fd)(B:Bt mg)(n:Kz P w K mg base u31 v31):Pr P w K mg base f fd:=Kg D yo λQ Q Q Q Q Q hr s l=>(_,
   (oU (qP (i:=1) yo<|LC rfl (by rfl) B.list (by rfl) B.range<|oP (qL qV (by rfl) B.len eS<|oP (pv 0) oT) oT)
   (oU (qP (i:=2) yo<|qJ oT)
   (oU (Bo fy (qr B8 (qL qV (by rfl) B.len eS<|oP (pv 1) oT) oW<|qK _) (oU (qP (i:=3) yo Dk) (oU (Am fy rfl (sQ<|pv 1) (Cc (i:=4) yo)
    (pJ<|Fl (Ge hr) (pv 3) (pv 4) Pz rfl))<|oU (qP (i:=5) yo oW)<|oU (Bo fy (PW.pt<|DP (qr Zo (pv 5) (rJ D3 (qL qV (by rfl) B.len eS<|oP (pv 1) oT) oW)<|qK _)<|BF<|qr B8 (rz n hr<|oP (qC pP (pv 0) (qC pP (pv 1) (pv 5)<|λQ Q=>rfl)<|λQ Q=>rfl)<|oP (pv 3) oT) oW<|qK _)<|pJ<|qP (i:=5) yo<|rJ Cp (pv 5) oW)<|pJ<|tj<|wV aD bh bj rM (pv 2)<|oP (wV aD dO dP Gj (pv 1)<|oP (pv 5) oT) oT)))
   (pJ<|rE<|pv 2)))),
   (qz (tH (i:=1)<|KJ<|qt (vS uq<|qt (oZ 0) qM) qM)
   (qz (tH (i:=2)<|rh qw)
   (qz (G6 100000 (qF<|qb Bs (vS uq<|qt (oZ 1) qM) pH)<|qz (tH (i:=3) Qd)<|qz (Xs (x:=4) (i:=1) Vy<|OE (i:=3) (eM Zj)<|oZ 4)<|qz (tH (i:=5)<|eM pH)<|qz (G6 100000 (Al (qF<|qb Zb (oZ 5)<|qb FL (vS uq<|qt (oZ 1) qM) pH)<|qF<|qb Bs (J4<|qt (qb uC (oZ 0)<|qb uC (oZ 1)<|oZ 5)<|qt (oZ 3) qM) pH)<|tH (i:=5)<|eM<|qb Ee (oZ 5) pH)<|OO (i:=2)<|GV (i:=1)<|oZ 5)
   (yh<|Nv 2)))))
abbrev C9:Stmt:=top 44
def Sh:pR ["_law_colours","_law_free","_law_best","_law_colour"] ["_law_colours","_law_free"]<|oX C9:=sC
abbrev LZ(P w K mg base):=Fn P w K mg base 1 "_law_pick" C9 ["_law_colours","_law_free"]<|tE K K64.Ba
def RO(D:yO K mg "_law_pick" C9 ["_law_colours","_law_free"] f fd)(B:Bt mg):LZ P w K mg base f fd:=K5 D Sh<|by bv_omega
abbrev B0:Stmt:=top 45
def Au:pR ["_law_beside_here","_law_colours","_law_log","_law_near","_law_had","_law_at","_law_place"] ["_law_beside_here","_law_colours","_law_log","_law_near"]<|oX B0:=sC
abbrev Ir(P w K mg base):=Fn P w K mg base 2 "_law_freed" B0 ["_law_beside_here","_law_colours","_law_log","_law_near"]<|T6 K 1 2 K64.zI
def MW(D:yO K mg "_law_freed" B0 ["_law_beside_here","_law_colours","_law_log","_law_near"] f fd)(B:Bt mg)(l:Hx P w K mg base u30 v30):Ir P w K mg base f fd:=(D,D.F.ok Au (λn H Q E h=>S9 h) λt A outer s H n Q E hr h=>(_,(oU (yv (i:=4) (N:=["_law_there","_law_colours"]) (fr:=[1]) rfl Au.nd rfl (by trivial) rfl (by trivial) rfl (by trivial) rfl (t5 (by trivial) rfl rfl (by show(rfl,trivial)) (by repeat (first|show trivial|show((by first|show λZ=>(_,rfl)|show λh=>(by obtain h|h:=h <;> cases h)),?_)))<|by show((rfl,rfl,rfl),trivial)) (sQ<|pv 3) (λZ Z Z Z=>xi)<|λZ Z Z Z=>(qC pP (pv 1) (pv 0)<|λZ Z=>rfl))<|oU (qP (i:=5) Au<|xH Ru (by rfl) B.int kP<|oP (Fp BE (qC pP (pv 3) oW<|λZ Z=>rfl) (rz l hr<|oP (pv 0)<|oP (pv 1)<|oP (qC pP (pv 3) oW<|λZ Z=>rfl)<|oP (qC pP (pv 4) oW<|λZ Z=>rfl)<|oP (qC pP (pv 4) oW<|λZ Z=>rfl) oT) rfl) oT)<|oU (Am fy rfl (sQ<|rz l hr<|oP (pv 0)<|oP (pv 1)<|oP (qC pP (pv 3) (pv 5)<|λZ Z=>rfl)<|oP (qC pP (pv 4) (pv 5)<|λZ Z=>rfl)<|oP (qC pP (pv 4) (rJ Cp (pv 5) oW)<|λZ Z=>rfl) oT) (Cc (i:=6) Au)<|pJ<|JO (rJ D3 (rJ Cp (qC pP (pv 4) (pv 5)<|λZ Z=>rfl)<|qC pP (pv 4) (rJ Cp (pv 5) oW)<|λZ Z=>rfl)<|qC pP (pv 1) (pv 6)<|λZ Z=>rfl)<|Jo (pv 1) (pv 6) Dm)<|oU (tj<|wV aD bh bj rM (pv 2)<|oP (CN<|oP Ei<|oP (qC pP (pv 3) (pv 5)<|λZ Z=>rfl)<|oP (qC pP (pv 4) (pv 5)<|λZ Z=>rfl)<|oP (qC pP (pv 4) (rJ Cp (pv 5) oW)<|λZ Z=>rfl) oT) oT)<|pJ<|rE<|qC pP (pv 4) (pv 5)<|λZ Z=>rfl),K3 ["_law_beside_here","_law_colours","_law_log","_law_near","_law_had","_law_at","_law_place"] (K:=K) (Fi (Qw (i:=4)<|GH<|A3 (sJ 3) JD<|eM<|qb uC (oZ 1)<|oZ 0)<|Fi (Qw (i:=5)<|eM<|vS Yq<|qt (qb (Ga f_) (qb uC (oZ 3) pH)<|SK.rOf<|GH<|BH<|pB (sJ 0)<|pB (sJ 1)<|pB (eM<|qb uC (oZ 3) pH)<|pB (eM<|qb uC (oZ 4) pH)<|pB (eM<|qb uC (oZ 4) pH) qw) qM)<|Fi (Xt (GH<|BH<|pB (sJ 0)<|pB (sJ 1)<|pB (eM<|qb uC (oZ 3)<|oZ 5)<|pB (eM<|qb uC (oZ 4)<|oZ 5)<|pB (eM<|qb uC (oZ 4)<|qb Ee (oZ 5) pH) qw)<|X8 (i:=1) (eM<|qb FL (qb Ee (qb uC (oZ 4)<|oZ 5)<|qb uC (oZ 4)<|qb Ee (oZ 5) pH)<|qb uC (oZ 1)<|oZ 6)<|oZ 6)<|Fi (Yg (i:=2)<|Gp<|pB (eM NU)<|pB (eM<|qb uC (oZ 3)<|oZ 5)<|pB (eM<|qb uC (oZ 4)<|oZ 5)<|pB (eM<|qb uC (oZ 4)<|qb Ee (oZ 5) pH) qw)<|Y1<|eM<|qb uC (oZ 4)<|oZ 5) ⋯ h))
abbrev Ff:Stmt:=top 46
def vW:pR ["_law_beside_here","_law_colours","_law_log","_law_place","_law_near","_law_had","_law_free","_law_colour"] ["_law_beside_here"]<|oX Ff:=sC
abbrev PM(P w K mg base):=Fn P w K mg base 3 "_law_due" Ff ["_law_beside_here"]<|tE K K64.BG
def Vr(D:yO K mg "_law_due" Ff ["_law_beside_here"] f fd)(B:Bt mg)(n:Pr P w K mg base u32 v32)(s:LZ P w K mg base u33 v33)(t:Ir P w K mg base u34 v34):PM P w K mg base f fd:=Kg D vW λQ Q Q Q Q Q hr u l=>(_,
   (oU (qP (i:=1) vW<|wJ (cl:=[]) (N:=["_law_row"]) (fr:=[]) rfl rfl (by trivial) rfl (by trivial) rfl (tR.none<|by trivial) (sQ<|pv 0) (λQ Q Q Q=>xi)<|λQ Q Q Q=>(zM wz oW))
   (oU (qP (i:=2) vW<|qJ oT)
   (oU (Am fy rfl (VE (by rfl) B.reversed<|oP (rz n hr<|oP (pv 0) oT) oT) (Cc (i:=3) vW)
    (oU (yv (i:=4) (N:=["_law_there","_law_colours"]) (fr:=[1]) rfl vW.nd rfl (by trivial) rfl (by trivial) rfl (by trivial) rfl (t5 (by trivial) rfl rfl (by show(rfl,trivial)) (by repeat (first|show trivial|show((by first|show λQ=>(_,rfl)|show λh=>(by obtain h|h:=h <;> cases h)),?_)))<|by show((rfl,rfl,rfl),trivial)) (sQ<|qC pP (pv 0) (pv 3)<|λQ Q=>rfl) (λQ Q Q Q=>CB<|qr O4 (qC pP (pv 1) (pv 0)<|λQ Q=>rfl) (zM wz oW)<|qK _)<|λQ Q Q Q=>(pv 0))<|oU (qP (i:=5) vW<|wJ (N:=["_law_there","_law_colours"]) (fr:=[1]) rfl rfl (by trivial) rfl (by trivial) rfl (t5 (by trivial) rfl rfl (by show(rfl,trivial)) (by repeat (first|show trivial|show((by first|show λQ=>(_,rfl)|show λh=>(by obtain h|h:=h <;> cases h)),?_)))<|by show((rfl,rfl,rfl),trivial)) (sQ<|pv 4) (λQ Q Q Q=>xi)<|λQ Q Q Q=>(qC pP (pv 1) (pv 0)<|λQ Q=>rfl))<|oU (yv (i:=6) (N:=["_law_colour","_law_had"]) (fr:=[5]) rfl vW.nd rfl (by trivial) rfl (by trivial) rfl (by trivial) rfl (t5 (by trivial) rfl rfl (by show(rfl,trivial)) (by repeat (first|show trivial|show((by first|show λQ=>(_,rfl)|show λh=>(by obtain h|h:=h <;> cases h)),?_)))<|by show((rfl,rfl,rfl),trivial)) (vE (by rfl) B.range<|oP oW oT) (λQ Q Q Q=>CB<|qr AI (pv 0) (pv 1) rfl)<|λQ Q Q Q=>(pv 0))<|oU (we (qr B8 (qL qV (by rfl) B.len eS<|oP (pv 6) oT) oW<|qK _) (pJ<|qP (i:=7) vW<|rz s hr<|oP (pv 1)<|oP (pv 6) oT)<|pJ<|qP (i:=7) vW<|rz t hr<|oP (pv 0)<|oP (pv 1)<|oP (pv 2)<|oP (pv 4) oT)<|oU (JO (pv 7)<|Jo (pv 1) (pv 3) Dm)<|pJ<|tj<|wV aD bh bj rM (pv 2)<|oP (CN<|oP Ei<|oP (pv 3)<|oP (pv 7) oT) oT))
   (pJ<|rE<|CN<|oP (pv 1)<|oP (pv 2) oT)))),
   (qz (tH (i:=1)<|A3 (sJ 0) JD<|eM<|QB Gc pH)
   (qz (tH (i:=2)<|rh qw)
   (qz (Qp (BH<|pB (sJ 0) qw)<|qz (tH (i:=4)<|GH<|A3 (UD (N3 0)<|oZ 3) (qF<|qb Zf (qb uC (oZ 1)<|oZ 0)<|QB Gc pH)<|sJ 0)<|qz (tH (i:=5)<|GH<|A3 (sJ 4) JD<|eM<|qb uC (oZ 1)<|oZ 0)<|qz (tH (i:=6)<|DU (qt pH qM) (qF<|qb (Ga t_) (oZ 0)<|oZ 1)<|sJ 0)<|qz (yH (qF<|qb Bs (vS uq<|qt (oZ 6) qM) pH) (tH (i:=7)<|eM<|J4<|qt (oZ 1)<|qt (oZ 6) qM)<|Xa (i:=7)<|Nq (i:=1) (i':=2) (sJ 0)<|pB (sJ 4) qw)<|qz (VI (i:=1) (sJ 7)<|oZ 3)<|Ao (i:=2)<|Gp<|pB (eM NU)<|pB (sJ 3)<|pB (sJ 7) qw)
   (yh<|Gp<|pB (sJ 1)<|pB (sJ 2) qw)))))
abbrev Fg:Stmt:=top 47
def AZ:pR ["_law_script","_law_roads_here","_law_cell","_law_ends","_law_turns"] ["_law_script"]<|oX Fg:=sC
abbrev PJ(P w K mg base):=Fn P w K mg base 3 "_law_hub" Fg ["_law_script"]<|tE K K64.C3
def Uy(D:yO K mg "_law_hub" Fg ["_law_script"] f fd)(B:Bt mg)(n:vC P w K mg base u21 v21)(s:FW P w K mg base u22 v22):PJ P w K mg base f fd:=Kg D AZ λQ Q Q Q Q Q hr t l=>(_,
   (oU (qP (i:=1) AZ<|qL JB (by rfl) B.sorted iS<|oP (wJ (N:=["_law_k","_law_script"]) (fr:=[0]) rfl rfl (by trivial) rfl (by trivial) rfl (t5 (by trivial) rfl rfl (by show(rfl,trivial)) (by repeat (first|show trivial|show((by first|show λQ=>(_,rfl)|show λh=>(by obtain h|h:=h <;> cases h)),?_)))<|by show((rfl,rfl,rfl),trivial)) (vE (by rfl) B.range<|oP oW oT) (λQ Q Q Q=>xi)<|λQ Q Q Q=>(rz s hr<|oP (pv 1)<|oP (pv 0) oT)) oT)
   (oU (qP (i:=2) AZ<|rz n hr<|oP (pv 0)<|oP oW oT)
   (oU (yv (i:=3) (N:=["_law_k","_law_roads_here","_law_cell"]) (fr:=[1,2]) rfl AZ.nd rfl (by trivial) rfl (by trivial) rfl (by trivial) rfl (t5 (by trivial) rfl rfl (by show(rfl,rfl,trivial)) (by repeat (first|show trivial|show((by first|show λQ=>(_,rfl)|show λh=>(by obtain h|h:=h <;> cases h)),?_)))<|by show((rfl,rfl,rfl),(rfl,rfl,rfl),trivial)) (vE (by rfl) B.range<|oP oW oT) (λQ Q Q Q=>xi)<|λQ Q Q Q=>(rJ Ka (qC pP (pv 1) (pv 0)<|λQ Q=>rfl)<|rJ D3 oW<|rJ Ka oW<|rJ wu (rJ BR (pv 2)<|rJ Cp (pv 0) oW) oW))
   (oU (qP (i:=4) AZ<|qJ<|oP (rJ Kb (qJ<|oP (zM wz<|qC pP (pv 1) oW<|λQ Q=>rfl) oT)<|L8 PH (pv 3) Qu<|Pf oW)<|oP (qJ<|oP (qC pP (pv 1) oW<|λQ Q=>rfl)<|oP (qC pP (pv 3) oW<|λQ Q=>rfl) oT)<|oP (qJ<|oP (zM wz<|qC pP (pv 3) oW<|λQ Q=>rfl) oT)<|oP (qJ<|oP (zM wz<|qC pP (pv 3) oW<|λQ Q=>rfl)<|oP (zM wz<|qC pP (pv 3) oW<|λQ Q=>rfl) oT) oT)
   (pJ<|rE<|rJ Kb (pv 4)<|qJ<|oP (qJ<|oP (zM wz<|qC pP (pv 3) oW<|λQ Q=>rfl) oT)<|oP (qJ<|oP (zM wz<|qC pP (pv 3) oW<|λQ Q=>rfl) oT) oT))))),by infer_instance)
abbrev B7:Stmt:=top 48
def Cs:pR ["_law_script","_law_turns","_law_m","_law_handed","_law_found","_law_due_here"] ["_law_script"]<|oX B7:=sC
abbrev acJ(P w K mg base):=Fn P w K mg base 9 "law" B7 ["_law_script"]<|tE K K64.Qh
def Z2(D:yO K mg "law" B7 ["_law_script"] f fd)(B:Bt mg)(n:mg "tuple" = n_)(x:Hb P w K mg base u27 v27)(z:Lc P w K mg base u28 v28)(l:Gd P w K mg base u20 v20)(E:PM P w K mg base u35 v35)(G:PJ P w K mg base u36 v36)(H:GT P w K mg base u29 v29)(s:vC P w K mg base u21 v21):acJ P w K mg base f fd:=Kg D Cs λQ Q Q Q Q Q hr t u=>(_,
   (oU (qP (i:=1) Cs<|rz x hr<|oP (pv 0) oT)
   (oU (we (qr zE (rJ wu (rJ BR (rz s hr<|oP (pv 0)<|oP oW oT) oW) oW) oW<|qK _) (pJ<|qP (i:=1) Cs<|rz G hr<|oP (pv 0) oT) tw)
   (oU (qP (i:=2) Cs<|rz z hr<|oP (rJ Kb (pv 1)<|wJ (cl:=[]) (N:=["_law_k"]) (fr:=[]) rfl rfl (by trivial) rfl (by trivial) rfl (tR.none<|by trivial) (vE (by rfl) B.range<|oP (rJ wu (rJ BR (rz s hr<|oP (pv 0)<|oP oW oT) oW) oW) oT) (λQ Q Q Q=>xi)<|λQ Q Q Q=>(qJ oT)) oT)
   (oU (yv (i:=3) (cl:=[]) (N:=["_law_turn"]) (fr:=[]) rfl Cs.nd rfl (by trivial) rfl (by trivial) rfl (by trivial) rfl (tR.none<|by trivial) (sQ<|pv 2) (λQ Q Q Q=>xi)<|λQ Q Q Q=>(xH xC (by rfl) B.list eh<|oP (pv 0) oT))
   (oU (qP (i:=4) Cs<|rz l hr<|oP (pv 3) oT)
   (oU (qP (i:=5) Cs<|rz E hr<|oP (rz H hr<|oP (pv 2) oT) oT)
   (pJ<|rE<|Wf (qL Wj (by rfl) B.isi jZ<|oP (pv 4)<|oP (Xl (v:=.ty "tuple") (by rfl) n kH rfl) oT)<|Wf (Fp (Z4 t) (pv 4) (pv 5)<|qK _)<|abW<|Fp (aaz t) (pv 3) (pv 2)<|qK _))))))),by infer_instance)
end K64
namespace K12
open PySem L2 Mr Z Xe Zl
abbrev aP(part:Λ):AV:=d8<|part.map aI
def SI{α β:Type}(f:α->β)(l:List α)i a:fb (l.map f) i (f a)=(fb l i a).map f:=by rw[fO]
structure Wd where
 P0:List Λ
 last:Λ
 t0:Θ
 h:Nat
 left:Ϝ
 used:Nat
noncomputable abbrev cN(ks:Θ):Ϝ:=ks.map λn:Nat=>(n:Int)
def st(v0 v1:Option AV)(w:Wd)(v6 v7 v8 l:Option AV):AS:=[v0,v1,aB<|d8<|(w.P0++[w.last]).map aP,aB<|aI<|cN<|w.t0++[w.h],aB<|aI w.left,i6 (w.used:Int),v6,v7,v8,l]
def CA(r:Ϝ)e:(r.map λn=>b8<|b7 n)++[b8<|b7 e]=(r++[e]).map λn=>b8<|b7 n:=by rw[mBq];rfl
def OL(l:Λ)e:l.map aI++[d8 [b8<|b7 e]]=(l++[[e]]).map aI:=by rw[mBq];rfl
def U1(ks)n:(cN ks).map (λn=>AV.sh<|.int n)++[.sh<|.int (n:Int)]=(cN<|ks++[n]).map λn=>.sh<|.int n:=by delta cN;rw[mBq,mBq];rfl
noncomputable def acj(nm:Ϝ)(k:Nat):Ϝ:=(nm.take k).flatMap λx=>[x, -x]
theorem yE{x r:Ϝ}a:∀{l:Λ}{h:Nat},l[h]?=aB r->(fb l h<|r++x).flatten.count a=l.flatten.count a+x.count a
 | [],_,h=>by simp at h
 |s::l,0,h=>by cases h;simp only[eI,fCq,fCq,cAq,cAq,cAq];rfl'
 |s::l,h+1,e=>by rw[fP,fCq,fCq,cAq,cAq,yE a<|by show e];rfl'
theorem ID a:∀{l:Ϝ}{j},j<de l->(ef l j).count a+[cn l j 0].count a=l.count a
 | [],_,h=>by simp at h
 |x::l,0,_=>by rw[show x::l=[x]++l from rfl,cAq];change l.count a+[x].count a=_;rfl'
 |x::l,j+1,h=>by
  have n:=ID a<|by simpa using h
  rw[cJ,show x::ef l j=[x]++ef l j from rfl,show(x::l).getD (j+1) 0=cn l j 0 from rfl,show x::l=[x]++l from rfl,cAq,cAq];lia
def JZ{l:Λ}{h:Nat}{r:Ϝ}(e:l[h]?=aB r):r.length<=l.flatten.length:=dD.length_le<|aL<|mGq e
noncomputable def nmk(st sh a b k:Int):Int:=st*((a*k+b) % 67+1)+sh
structure Nm (nm:Ϝ):Prop where
 len:nm.length=66
 nd:nm.Nodup
 lo:∀x∈nm,1<=x
 hi:∀x∈nm,x<10 ^ 60
theorem LA:∀{l:Ϝ},c8 l->(∀x∈l,1<=x)->c8 (l.flatMap λx=>[x, -x])
 | [],_,_=>bA
 |x::l,hn,hp=>by
  have n:=au.mp hn;have t:=hp x<|aa ..;rw[iO,nAq];show(?_,LA n.2 λy s=>hp y<|mCo _ s,λa ha b hb e=>?_);.rw[au];show(?_,by simp);rw[mSq];lia
  .have(y,s,q):=bx.mp hb;have py:=hp y<|mCo _ s;simp at ha q;have:y=x:=by lia
   show n.1<|this ▸ s
end K12
open K12 renaming cN->aAf
namespace K51
open PySem L2 Mr Z Xe Zl
noncomputable def Df(x:String×Int):AV:=b8<|lG [j3 x.1,b7 x.2]
noncomputable def kd(ks:Θ):List<|qk×D:=ks.map λk:Nat=>%[(aO (k:Int):qk)|k9 t_]
noncomputable def wd(ws:Θ):List AV:=ws.map λk:Nat=>b8<|b7 (k:Int)
def kd_any ks(t:Nat):(kd ks).any (λkv=>decide<|kv.1=(aO (t:Int):qk))=decide (t∈ks):=by induction ks with
 |nil=>rfl
 |cons k ks l=>
  unfold kd at l ⊢;simp only[aq,eU,l];by_cases h:t=k;.subst h;simp
  .have n:¬ (aO<|k:qk)=aO (t:Int):=λq=>h<|by have:=aO.inj q;lia
   simp[n,h]
def kd_get ks(t:Nat):fC (getD (kd ks)<|aO (t:Int))=decide (t∈ks):=by delta getD;rw[dW,←kd_any,bL,gN,hU]
def UM{ks:Θ}(h:t∉ks):zw (kd ks) (aO (t:Int)) (k9 t_)=kd (ks++[t]):=by delta zw;rw[kd_any,d6 h];simp[kd]
def Ou{t:Nat}(s:getD kvs (aO<|-e)=aB (b7 (t:Int)))(hk:de ks<500000)(hw:de ws<500000) :
  uL [v0,v1,aB<|eT kvs,aB<|eT<|kd ks,aB<|d8<|wd ws,v5,i6 e,v7]=aB (gb [v0,v1,aB<|eT kvs,aB<|eT<|kd<|if t∈ks then ks else ks++[t],aB<|d8<|wd<|if t∈ks then ws else ws++[t],v5,i6 e,i6 (t:Int)]):=by
 have u:de (kd ks)<qS:=by delta kd;rw[lMq];change _<16777216;lia
 have x:de (wd ws)<qS:=by delta wd;rw[lMq];change _<16777216;lia
 have l:=kd_get ks t;by_cases h:t∈ks;.simp! [uL,s,l,h]
 .have z:=UM h;have n:wd ws++[b8<|b7<|t]=wd (ws++[t]):=by simp[wd]
  simp! [uL,s,l,h,z,u,x,n]
noncomputable def EX(pl:Int->Nat)(x:List Nat×Θ)(e:Int):List Nat×Θ:=if pl (-e)∈x.1 then x else %[x.1++[pl<|-e]|x.2++[pl<|-e]]
theorem PK pl:∀(r:Ϝ) x,de (r.foldl (EX pl) x).1<=de x.1+de r/\de (r.foldl (EX pl) x).2<=de x.2+de r
 | [],x=>(ag _,ag _)
 |e::r,x=>by
  have(l,n):=PK pl r<|EX pl x e;have s:de (EX pl x e).1<=de x.1+1/\de (EX pl x e).2<=de x.2+1:=by
   delta EX;split;.show(cO _,cO _)
   .simp
  simp only[dr,lCq];lia
def Rb{r:Ϝ}(z:∀e∈r,getD kvs (aO<|-e)=aB (b7 (pl<|-e:Int)))(hk:de ks+de r<500000)(hw:de ws+de r<500000) :
  ∃n l,rA 6 uL (r.map b7) [v0,v1,aB<|eT kvs,aB<|eT<|kd ks,aB<|d8<|wd ws,v5,v6,v7]=aB (gb [v0,v1,aB<|eT kvs,aB<|eT<|kd (r.foldl (EX pl) %[ks|ws]).1,aB<|d8<|wd (r.foldl (EX pl) %[ks|ws]).2,v5,n,l]):=by
 have key:=xY (x:=6) (body:=uL) (λi S=>∃n l,S=[v0,v1,aB<|eT kvs,aB<|eT<|kd ((r.take i).foldl (EX pl) %[ks|ws]).1,aB<|d8<|wd ((r.take i).foldl (EX pl) %[ks|ws]).2,v5,n,l]) (ds:=r.map b7) (S:=[v0,v1,aB<|eT kvs,aB<|eT<|kd ks,aB<|d8<|wd ws,v5,v6,v7])
  (v6,v7,rfl) (by
  rintro i d S hd ⟨n,l,rfl⟩;rw[gMq]at hd;have(e,s,rfl):=oMq.mp hd;have hi:i<de r:=(gSq.mp s).1;have B:e∈r:=mGq s;have(t,u):=PK pl (r.take i) %[ks|ws];simp only[lTq]at t u;have E:de ((r.take i).foldl (EX pl) %[ks|ws]).1<=de ks+min i (de r):=t;have G:de ((r.take i).foldl (EX pl) %[ks|ws]).2<=de ws+min i (de r):=u;have step:=Ou (v0:=v0) (v1:=v1) (v5:=v5) (v7:=l) (z e B) (ks:=((r.take i).foldl (EX pl) %[ks|ws]).1) (ws:=((r.take i).foldl (EX pl) %[ks|ws]).2) ∅ ∅;have H:(r.take<|i+1).foldl (EX pl) %[ks|ws]=EX pl ((r.take i).foldl (EX pl) %[ks|ws]) e:=by
   have:r[i]'hi=e:=by rw[gEg hi]at s;show aB.inj s
   rw[dB hi,iM,this];rfl
  show(_,step,i6 e,i6 (pl<|-e:Int),?_);rw[H];unfold EX;split <;> rfl);have(I,e,n,l,rfl):=key;rw[lMq,bC]at e;show(n,l,e)
theorem pig:∀N (l:Θ),c8 l->(∀x∈l,x<N)->de l<=N
 |0,l,_,h=>by cases l with
  |nil=>show ag _
  |cons x l=>show absurd (h x<|aa ..)<|dg _
 |N+1,l,hn,h=>by have n:=pig N (l.erase N) (hn.erase N) (λx s=>by have:=(hn.mem_erase_iff).mp s;have:=h x this.2;lia);rw[jP]at n;split at n <;> lia
noncomputable def plc(l:Λ)(e:Int):Nat:=l.findIdx λr=>decide<|e∈r
def same_place{l:Λ}(hn:c8 (bt l)){i:Nat}{r s:Ϝ}(hi:l[i]?=aB r)(n:l[j]?=aB s)(t:e∈r)(u:e∈s):i=j:=by have a:=zW 0 hn hi t;have b:=zW 0 hn n u;rw[a]at b;have:=D.int.inj<|aB.inj b;lia
def plc_eq(hn:c8 (bt l)){r:Ϝ}(hi:l[i]?=aB r)(n:e∈r):plc l e=i:=by have hl:l.findIdx (λr=>decide<|e∈r)<de l:=fg (r,mGq hi,d5 n);have s:=gi (w:=hl);show same_place hn (gEg hl) hi (of_decide_eq_true s) n
structure Mp (rs:Λ):Prop where
 hn:rs.flatten.Nodup
 hl:rs.flatten.length<=1000
 hr:rs.length<=1000
 hneg:∀e∈rs.flatten, -e∈rs.flatten
def Mp.at(h:Mp l)(t:e∈bt l):∃r,l[plc l e]?=aB r/\e∈r:=by have(r,u,n):=mFq.mp t;have(i,s):=aC.mp u;show(r,by rw[plc_eq h.hn s n];show s,n)
def Mp.other(h:Mp l){k:Nat}{r:Ϝ}(hk:l[k]?=aB r)(n:e∈r):-e∈bt l:=h.hneg e<|e9 mFq (r,mGq hk,n)
def Mp.kv(h:Mp l)(n:e∈bt l):getD (qd 0 l) (aO e)=aB (b7 (plc l e:Int)):=by have(r,s,t):=h.at n;have:=zW 0 h.hn s t;rwa [bD]at this
def Mp.lt(h:Mp l)(n:e∈bt l):plc l e<de l:=by have(r,s,_):=h.at n;show(gSq.mp s).1
def Mp.row(h:Mp l){k:Nat}{r:Ϝ}(hk:l[k]?=aB r):r.length<=1000:=by have:=dD.length_le<|aL<|mGq hk;have:=h.hl;lia
inductive rX (rs:Λ)(s:Nat):Nat->Prop
 |base:rX rs s s
 |step {k:Nat}{r:Ϝ}{e:Int}:rX rs s k->rs[k]?=aB r->e∈r->rX rs s (plc rs<|-e)
theorem see_fold pl:∀(r:Ϝ) (ks ws:Θ),∃a,r.foldl (EX pl) %[ks|ws]=%[ks++a|ws++a]/\(∀k∈a,∃e∈r,k=pl (-e))/\(∀e∈r,pl (-e)∈ks++a)/\(c8 ks->c8 (ks++a))
 | [],ks,ws=>([],by simp,by simp,by simp,by simp)
 |e::r,ks,ws=>by
  simp only[dr];by_cases h:pl (-e)∈ks
  .have n:EX pl %[ks|ws] e=%[ks|ws]:=by delta EX;rw[pZ h]
   rw[n];have(a,s,t,u,z):=see_fold pl r ks ws;show(a,s,λk hk=>?_,λx l=>?_,z);.have(x,l,q):=t k hk;show(x,mCo _ l,q)
   .obtain rfl|l:=ae.mp l;.show e9 mAq<|jE h
    .show u x l
  .have n:EX pl %[ks|ws] e=%[ks++[pl<|-e]|ws++[pl<|-e]]:=by delta EX;rw[pW h]
   rw[n];have(a,s,t,u,z):=see_fold pl r (ks++[pl<|-e])<|ws++[pl<|-e];show(pl (-e)::a,by rw[s,af,af];rfl,λk hk=>?_,λx l=>?_,λhn=>?_)
   .obtain rfl|hk:=ae.mp hk;.show(e,aa ..,rfl)
    .have(x,l,q):=t k hk;show(x,mCo _ l,q)
   .obtain rfl|l:=ae.mp l;.show e9 mAq<|iq<|aa ..
    .have:=u x l;rwa [af]at this
   .have:=z (by rw[nAq];show(hn,by simp,λx l y B q=>h<|by rw[mSq.mp B]at q;rw[←q];show l));rwa [af]at this
structure Inv (rs:Λ)(s:Nat)(ks ws:Θ):Prop where
 nd:ks.Nodup
 lt:∀k∈ks,k<rs.length
 st:s∈ks
 rc:∀k∈ks,rX rs s k
 sub:∀w∈ws,w∈ks
 cl:∀k∈ks,k∉ws->∀r e,rs[k]?=aB r->e∈r->plc rs (-e)∈ks
 few:2*(rs.length-ks.length)+ws.length<=2*rs.length+1
def Inv.go(u:Mp l){r:Ϝ}(hi:Inv l s ks<|ws++[h])(hr:l[h]?=aB r):∃a,r.foldl (EX<|plc l) %[ks|ws]=%[ks++a|ws++a]/\Inv l s (ks++a) (ws++a)/\2*(de l-de (ks++a))+de (ws++a)<2*(de l-de ks)+de (ws++[h]):=by
 have(a,B,x,E,G):=see_fold (plc l) r ks ws;have hh:=hi.sub h ⋯;have nd:=G hi.nd;have lt:∀k∈ks++a,k<de l:=by
  intro k hk;obtain q|q:=mAq.mp hk;.show hi.lt k q
  .have(e,t,rfl):=x k q;show u.lt<|u.other hr t
 have pl:=pig _ _ nd lt;have J:=hi.few;rw[lAq]at pl;have key:2*(de l-de (ks++a))+de (ws++a)<2*(de l-de ks)+de (ws++[h]):=by rw[lAq,lAq,lAq,lSq];lia
 show(a,B,(nd,lt,e9 mAq<|jE hi.st,λk hk=>?_,λw hw=>?_,λk hk hw=>?_,?_),key)
 .obtain q|q:=mAq.mp hk;.show hi.rc k q
  .have(e,t,rfl):=x k q;show .step (hi.rc h hh) hr t
 .obtain q|q:=mAq.mp hw;.show e9 mAq<|jE<|hi.sub w<|e9 mAq<|jE q
  .show e9 mAq<|iq q
 .intro H e n t;have I:=sW (mAq.mp hk) λq=>hw<|e9 mAq<|iq q;by_cases q:k=h;.subst q;rw[hr]at n;cases n;show E e t
  .show e9 mAq (jE (hi.cl k I (λz=>by
    obtain z|z:=mAq.mp z;.show hw<|e9 mAq<|jE z
    .show q<|mSq.mp z) H e n t))
 .rw[lAq,lAq]at key ⊢;lia
noncomputable def mu(N:Nat):AS->Nat
 | [_,_,_,aB (eT kv),aB (d8 w),_,_,_]=>2*(N-de kv)+de w
 |_=>0
def NV(t:Mp l)(J:s<de l):∃S',sE (rQ<|pQ CS (vJ rq<|oR (oQ 4) pE)<|rC<|b7 0) xv 100000 [aB<|b8<|dM l,i6 (s:Int),aB<|eT<|qd 0 l,aB<|eT<|kd [s],aB<|d8<|wd [s],n_,n_,n_]=aB (gb S') /\
  ∃ks v5 v6 v7,S'=[aB<|b8<|dM l,i6 (s:Int),aB<|eT<|qd 0 l,aB<|eT<|kd ks,aB<|d8<|wd [],v5,v6,v7]/\Inv l s ks []:=by
 have u:=t.hr;show wX (c:=rQ<|pQ CS (vJ rq<|oR (oQ 4) pE)<|rC<|b7 0) (body:=xv) (λS=>∃ks n v5 v6 v7,S=[aB<|b8<|dM l,i6 (s:Int),aB<|eT<|qd 0 l,aB<|eT<|kd ks,aB<|d8<|wd n,v5,v6,v7]/\Inv l s ks n) (mu<|de l) (λS'=>∃ks v5 v6 v7,S'=[aB<|b8<|dM l,i6 (s:Int),aB<|eT<|qd 0 l,aB<|eT<|kd ks,aB<|d8<|wd [],v5,v6,v7]/\Inv l s ks []) ?_ 100000 _ ([s],[s],n_,n_,n_,rfl,?_) ?_
 .rintro S ⟨ks,n,v5,v6,v7,rfl,hi⟩;obtain rfl|⟨n,h,rfl⟩:=dJ n;.show(f_,_,?_,λq=>(nomatch q),λZ=>(ks,v5,v6,v7,rfl,hi));simp! [wd];rfl
  .rw[dN]at hi ⊢;have x:h<de l:=hi.lt h<|hi.sub h ⋯;have hr:l[h]?=aB l[h]:=gEg x;have(a,L,z,B):=hi.go t hr;have few:=hi.few;have R:=pig _ _ hi.nd hi.lt;have U:=t.row hr;rw[lAq,lSq]at few;have(E,G,I):=Rb (kvs:=qd 0 l) (ks:=ks) (ws:=n) (r:=l[h]) (pl:=plc l) (v0:=aB<|b8<|dM l) (v1:=i6 (s:Int)) (v5:=i6 (h:Int)) (v6:=v6) (v7:=v7) (λe M=>t.kv<|t.other hr M) ∅ ∅;rw[L]at I;have hw:wd (n++[h])=wd n++[b8<|b7 (h:Int)]:=by simp[wd]
   have wl:de (wd n)=de n:=by simp[wd]
   have O:(0:Int)<(de (wd n++[b8<|b7 (h:Int)]):Int):=by rw[lAq,lSq];simp +arith[*]
   have P:(wd n++[b8<|b7 (h:Int)])[de (wd n++[b8<|b7 (h:Int)])-1]?=i6 (h:Int):=by rw[lAq,lSq,gYq<|by rfl'];simp
   have Q:l8 (wd n++[b8<|b7 (h:Int)])=wd n:=cM;have H:atI (l.map dI) (h:Int)=aB (dI l[h]):=uS<|by rw[gMq,hr];rfl
   show(t_,[aB<|b8<|dM l,i6 (s:Int),aB<|eT<|qd 0 l,aB<|eT<|kd ks,aB<|d8<|wd n++[b8<|b7 (h:Int)],v5,v6,v7],?_,λZ=>([aB<|b8<|dM l,i6 (s:Int),aB<|eT<|qd 0 l,aB<|eT<|kd<|ks++a,aB<|d8<|wd<|n++a,i6 (h:Int),E,G],?_,(_,_,_,_,_,rfl,z),?_),λq=>(nomatch q));.simp! [hw,O]
   .simp! [xv,P,Q,dM,H,I]
   .change 2*(de l-de (kd<|ks++a))+de (wd<|n++a)<2*(de l-de (kd ks))+de (wd<|n++[h]);delta kd wd;rw[lMq,lMq,lMq,lMq];show B
 .show(by simp,?_,by simp,?_,λw h=>h,?_,?_);.intro k hk;rw[mSq.mp hk];show J
  .intro k hk;rw[mSq.mp hk];show .base
  .intro k hk hn;show absurd hk hn
  .simp only[lSq];lia
 .change 2*(de l-de (kd [s]))+de (wd [s])<100000;simp only[kd,wd,lMq,lSq];lia
def Oh(n:Mp l)(t:s<de l):∃ks,Inv l s ks []/\zH [dM l,b7 (s:Int)]=aB (aI<|vH<|ks.map λk:Nat=>(k:Int)):=by
 have(G,e,ks,H,I,J,rfl,hi):=NV n t;have hl:=n.hl;have u:=AD n.hn ∅;have x:[%[(aO (s:Int))|k9 t_]]=kd [s]:=rfl;have z:[b8<|b7<|s]=wd [s]:=rfl;have B:Dg (kd ks)=aB (ks.map λk:Nat=>(k:Int)):=D8 (λk:Nat=>(k)) (λQ=>k9 t_) ks;have E:de (wd [s])<=qS:=by change 1<=16777216;decide
 show(ks,hi,?_);simp! [zH,Gz,u,x,z,e,B,E]
def Ym(ks:Θ):∃ps:Θ,aF ps ks/\ps.Pairwise (·<=·)/\vH (ks.map λk:Nat=>(k:Int))=ps.map λk:Nat=>(k:Int):=by
 have l:=xJ<|ks.map λk:Nat=>(k);have n:=EA<|ks.map λk:Nat=>(k);have s:(vH<|ks.map λk:Nat=>(k))=((vH<|ks.map λk:Nat=>(k)).map cC).map λk:Nat=>(k:Int):=by
  rw[mPq];conv=>lhs;rw[←eK<|vH<|ks.map λk:Nat=>(k)]
  show mCq λz t=>?_;have(k,_,rfl):=mMq.mp<|l.mem_iff.mp t;rfl
 show((vH<|ks.map λk:Nat=>(k)).map cC,?_,?_,s)
 .have:=l.map cC;rw[mPq]at this;have e:ks.map (cC∘λk:Nat=>(k))=ks:=by
   conv=>rhs;rw[←eK ks]
   show mCq λk Q=>?_;show aQ k
  rwa [e]at this
 .rw[bO];show bz.imp (λh=>?_) n;lia
structure Pc (rs:Λ)(s:Nat)(ps:Θ):Prop where
 nd:ps.Nodup
 so:ps.Pairwise (·<=·)
 lt:∀k∈ps,k<rs.length
 iff:∀k,k∈ps↔rX rs s k
def N8(t:Mp l)(u:s<de l):∃ps,Pc l s ps/\zH [dM l,b7 (s:Int)]=aB (aI<|ps.map λk:Nat=>(k:Int)):=by have(ks,hi,e):=Oh t u;have(ps,n,x,z):=Ym ks;rw[z]at e;show(ps,(n.symm.nodup hi.nd,x,λk hk=>hi.lt k<|n.mem_iff.mp hk,λk=>(λhk=>hi.rc k<|n.mem_iff.mp hk,λhk=>e9 (eP n) ?_)),e);induction hk with
 |base=>show hi.st
 |step _ a b c=>show hi.cl _ c (cP) _ _ a b
noncomputable def addN(kn:Θ)(t:Nat):Θ:=if t∈kn then kn else kn++[t]
def kd_put2 ks(t:Nat):zw (kd ks) (aO (t:Int)) (k9 t_)=kd (addN ks t):=by
 delta addN;by_cases h:t∈ks;.rw[pZ h];delta zw;rw[kd_any,d5 h];delta kd;rw[mPq];show mCq λk Q=>?_;change(if _ then _ else _)=_;split <;> rfl
 .rw[pW h];show UM h
def addN_len(kn)t:de (addN kn t)<=de kn+1:=by
 delta addN;split;.rfl'
 .simp
theorem Lu:∀(ps kn:Θ),de (ps.foldl addN kn)<=de kn+de ps
 | [],kn=>ag _
 |p::ps,kn=>by have l:=Lu ps<|addN kn p;have n:=addN_len kn p;simp only[dr,lCq];lia
def UL:k∈addN kn t↔k∈kn∨k=t:=by
 delta addN;split;.rename_i h;show(jE,λq=>t6 q id λq=>q ▸ h)
 .simp
theorem xX:∀{ps kn:Θ}{k},k∈ps.foldl addN kn↔k∈kn∨k∈ps
 | [],kn,k=>by simp
 |p::ps,kn,k=>by rw[dr,xX,UL,ae,or_assoc]
def Xx(h:c8 kn):c8 (addN kn t):=by
 delta addN;split;.show h
 .rename_i q;rw[nAq];show(h,by simp,λx l y n z=>q<|by rw[mSq.mp n]at z;rw[←z];show l)
theorem Qz:∀{ps kn:Θ},c8 kn->c8 (ps.foldl addN kn)
 | [],kn,h=>h
 |p::ps,kn,h=>by rw[dr];show Qz<|Xx h
def RX{ps:Θ}(hk:de kn+de ps<500000):∃l,rA 5 yF ((ps.map λk:Nat=>(k:Int)).map b7) [v0,aB<|eT<|kd kn,v2,v3,v4,v5]=aB (gb [v0,aB<|eT<|kd<|ps.foldl addN kn,v2,v3,v4,l]):=by
 have key:=xY (x:=5) (body:=yF) (λi S=>∃l,S=[v0,aB<|eT<|kd<|(ps.take i).foldl addN kn,v2,v3,v4,l]) (ds:=(ps.map λk:Nat=>(k:Int)).map b7) (S:=[v0,aB<|eT<|kd kn,v2,v3,v4,v5]) (v5,rfl) (by
  rintro i d S hd ⟨l,rfl⟩;rw[gMq,gMq]at hd;have(z,t,rfl):=oMq.mp hd;have(k,n,rfl):=oMq.mp t;have hi:i<de ps:=(gSq.mp n).1;have u:=Lu (ps.take i) kn;rw[lTq]at u;have B:de (kd<|(ps.take i).foldl addN kn)<qS:=by unfold kd;rw[lMq];change _<16777216;lia
  have E:(ps.take<|i+1).foldl addN kn=addN ((ps.take i).foldl addN kn) k:=by
   have:ps[i]'hi=k:=by rw[gEg hi]at n;show aB.inj n
   rw[dB hi,iM,this];rfl
  have s:=kd_put2 ((ps.take i).foldl addN kn) k;rw[←E]at s;show(_,?_,i6 (k:Int),rfl);simp! [yF,B,s]);have(G,e,l,rfl):=key;rw[lMq,lMq,bC]at e;show(l,e)
def MN{ps:Θ}(h:∀k∈ps,k<de l):rD sV (CU<|lOf<|Ke (vv 1)<|oQ 0) [aB<|b8<|dM l] ((ps.map λk:Nat=>(k:Int)).map b7)=aB (ps.map λk=>aI<|cn l k []):=by have key:=ve (te:=CU<|lOf<|Ke (vv 1)<|oQ 0) (cap:=[aB<|b8<|dM l]) (λd=>match d with|b7 k=>aI<|cn l (cC k) []|_=>b8 j0) (ds:=(ps.map λk:Nat=>(k:Int)).map b7) (by intro d hd;rw[mPq]at hd;have(k,hk,rfl):=mMq.mp hd;have n:=acG<|h k hk;show([i6<|k,aB<|b8<|dM l],?_);simp! [dM,n,Function.comp,aQ,dI,aI,mPq];rfl);rw[key,mPq,mPq];rfl
def pA(l:Λ)(ps:Θ):AV:=d8<|ps.map λk=>aI<|cn l k []
def rX.trans(h:rX l a b)(n:rX l b c):rX l a c:=by induction n with
 |base=>show h
 |step _ p q r=>show .step r p q
def rX.symm(n:Mp l)(h:rX l a b):rX l b a:=by induction h with
 |base=>show .base
 | @step k r e _ p q s=>have(x,t,u):=n.at<|n.other p q;have:=rX.step .base t u;rw[bf,plc_eq n.hn p q]at this;show this.trans s
structure Ps (rs:Λ)(i:Nat)(kn:Θ)(PS:List Θ):Prop where
 sub:∀ps∈PS,∀k∈ps,k∈kn
 dj:PS.Pairwise λa b=>∀k∈a,k∉b
 pc:∀ps∈PS,∃s,s<rs.length/\Pc rs s ps
 all:∀k,k<i->k∈kn
 mem:∀k,k∈kn->∃ps∈PS,k∈ps
 nd:kn.Nodup
 lt:∀k∈kn,k<rs.length
 len:PS.length<=i
def BM(L:Mp t):∃kn PS,Ps t (de t) kn PS/\zR [dM t]=aB (d8<|PS.map<|pA t):=by
 have M:=L.hr;have key:=xY (x:=3) (body:=yK) (λi S=>∃kn PS O I G,S=[aB<|b8<|dM t,aB<|eT<|kd kn,aB<|d8<|PS.map<|pA t,O,I,G]/\Ps t i kn PS) (ds:=pT 0<|de t) (S:=[aB<|b8<|dM t,aB<|eT [],aB<|d8 [],n_,n_,n_])
  ([],[],n_,n_,n_,rfl,(by simp,by simp,by simp,by simp,by simp,by simp,by simp,by simp)) (by
  rintro i d S hd ⟨kn,PS,O,I,G,rfl,l⟩;have hi:i<de t:=by have:=(gSq.mp hd).1;rwa [qg]at this
  rw[zY hi,jI]at hd;cases hd;have J:=kd_get kn i;by_cases c:i∈kn
  .rw[d5 c]at J;show([aB<|b8<|dM t,aB<|eT<|kd kn,aB<|d8<|PS.map<|pA t,i6 (i:Int),I,G],?_,kn,PS,_,_,_,rfl,l.sub,l.dj,l.pc,?_,l.mem,l.nd,l.lt,?_);.simp! [yK,J]
   .intro k hk;obtain q|rfl:=iT.mp hk;.show l.all k q
    .show c
   .have:=l.len;rfl'
  .rw[d6 c]at J;have(u,B,R):=N8 L hi;have p1:=pig _ _ l.nd l.lt;have p2:=pig _ _ B.nd B.lt;have p3:=l.len;have U:de u<=qS:=by change _<=16777216;lia
   have X:de PS<qS:=by change _<16777216;lia
   have(P,Y):=RX (ps:=u) (kn:=kn) (v0:=aB<|b8<|dM t) (v2:=aB<|d8<|PS.map<|pA t) (v3:=i6 (i:Int)) (v4:=aB<|b8<|dI<|u.map λk:Nat=>(k:Int)) (v5:=G) ∅;have e3:=MN B.lt;show([aB<|b8<|dM t,aB<|eT<|kd<|u.foldl addN kn,aB<|d8<|(PS++[u]).map<|pA t,i6 (i:Int),aB<|b8<|dI<|u.map λk:Nat=>(k:Int),P],?_,u.foldl addN kn,PS++[u],_,_,_,rfl,?_,?_,?_,?_,?_,Qz l.nd,?_,?_);.simp! [yK,J,R,Y,e3,U,X,mBq,pA]
   .intro z E k hk;obtain q|q:=mAq.mp E;.show e9 xX<|jE<|l.sub z q k hk
    .rw[mSq.mp q]at hk;show e9 xX<|iq hk
   .rw[aZ];show(l.dj,jc ..,λz E b hb k hk H=>c ?_);rw[mSq.mp hb]at H;have(s,hs,Q):=l.pc z E;show l.sub z E i<|e9 (Q.iff i)<|((Q.iff k).mp hk).trans<|((B.iff k).mp H).symm L
   .intro z E;obtain q|q:=mAq.mp E;.show l.pc z q
    .rw[mSq.mp q];show(i,hi,B)
   .intro k hk;obtain q|rfl:=iT.mp hk;.show e9 xX<|jE<|l.all k q
    .show e9 xX<|iq<|e9 (B.iff k) .base
   .intro k hk;obtain q|q:=xX.mp hk;.have(z,a,b):=l.mem k q;show(z,e9 mAq<|jE a,b)
    .show(u,e9 mAq<|iq<|e9 mSq rfl,q)
   .intro k hk;obtain q|q:=xX.mp hk;.show l.lt k q
    .show B.lt k q
   .rw[lAq,lSq];rfl');have(S',e,kn,PS,O,I,G,rfl,l):=key;rw[qg]at l;have r1:=uK (n:=de t) ∅;show(kn,PS,l,?_);simp! [zR,Hz,dM,r1,e]
end K51
open K51.rX renaming trans->sX,base->vr,step->TF
open K51 renaming Mp->y8,plc->aAd,pig->aAy
namespace K12
open PySem L2 Mr Z Xe Zl
abbrev gm(p:Λ):Λ:=CD<|p.map good
def Fc p:aF (gm p)<|p.map good:=ue _
theorem OU:∀{PS:List Θ},(∀ps∈PS,c8 ps)->(PS.Pairwise λa b=>∀k∈a,k∉b)->c8 (bt PS)
 | [],_,_=>bA
 |p::PS,h1,h2=>by have(n,s):=cW.mp h2;rw[fCq,nAq];show(h1 p<|aa ..,OU (λps t=>h1 ps<|mCo _ t) s,λa ha b hb e=>?_);have(q,u,l):=mFq.mp hb;show n q u a ha<|e ▸ l
def uD{PS}(n:K51.Ps l (de l) kn PS):aF (PS.map λps=>ps.map λk=>cn l k []).flatten l:=by
 have t:bt (PS.map λps=>ps.map λk=>cn l k [])=PS.flatten.map λk=>cn l k []:=by rw[←List.map_flatten]
 rw[t];have nd:=OU (λps h=>by have(s,_,q):=n.pc ps h;show q.nd) n.dj;have pm:=e9 (bp nd cE) λk=>by
  rw[bF,mFq];constructor;.rintro⟨ps,u,x⟩;have(s,_,q):=n.pc ps u;show q.lt k x
  .intro hk;show n.mem k<|n.all k hk
 have z:(aH<|de l).map (λk=>cn l k [])=l:=by
  show df λi=>?_;rw[gMq];by_cases hi:i<de l;.rw[du hi,dt,gDq,gEg hi];rfl
  .rw[bo<|by simpa using hi,bo<|by rfl'];rfl
 have:=pm.map<|λk=>cn l k [];rwa [z]at this
end K12
open K12 renaming uD->YV
namespace K11
open PySem L2 Mr Z Xe Zl K12
def ER(p:Λ):Prop:=∀k,0<k->k<de p->∃j e,j<k/\e∈cn p j []/\-e∈cn p k []
structure Cn (p:Λ):Prop where
 ne:p≠[]
 clo:∀z∈p.flatten, -z∈p.flatten
 tr:ER p
def CW{l:Λ}{r x:Ϝ}(hr:l[h]?=aB r)(n:e∈cn l k []):e∈cn (fb l h<|r++x) k []:=by
 rw[gDq]at n ⊢;by_cases q:h=k;.subst q;have s:=(gSq.mp hr).1;rw[aA s];rw[hr]at n;show ai _ n
 .rw[ar q];show n
def Jr{l:Λ}{r x:Ϝ}(hr:l[h]?=aB r)(s:e∈x):e∈cn (fb l h<|r++x) h []:=by have n:=(gSq.mp hr).1;rw[gDq,aA n];show ah _ s
def ER.set{r x:Ϝ}(t:ER l)(hr:l[h]?=aB r):ER<|fb l h<|r++x:=λk n hk=>by rw[lZq]at hk;have(j,e,s,u,z):=t k n hk;show(j,e,s,CW hr u,CW hr z)
def getD_app{l:Λ}{x:Ϝ}(h:k<de l):cn (l++[x]) k []=cn l k []:=by rw[gDq,gDq,gZq h]
def VL{l:Λ}{x:Ϝ}:cn (l++[x]) (de l) []=x:=by rw[gDq,gYq<|ag _,cZ];rfl
def ER.add(t:ER l)(hh:h<de l)(n:e∈cn l h []):ER<|l++[[-e]]:=λk s hk=>by
 simp only[lAq,lSq]at hk;by_cases q:k<de l;.have(j,u,x,z,B):=t k s q;show(j,u,x,by rw[getD_app ∅];show z,by rw[getD_app q];show B)
 .have E:k=de l:=by lia
  subst E;show(h,e,hh,by rw[getD_app hh];show n,by simp)
def UO(r:Ϝ):ER [r]:=λk l hk=>by rw[lSq]at hk;lia
end K11
namespace K31
open PySem L2 Mr Z Xe Zl K12
def AL{T:Λ}{r:Ϝ}(hr:T[h]?=aB r):qW (d8<|T.map aI) [h]=aB (r.map λn=>b8<|b7 n):=by rw[Mf,gMq,hr];rfl
def Og{T:Λ}{r r':Ϝ}(hr:T[h]?=aB r):putAt (d8<|T.map aI) [h] (r'.map λn=>b8<|b7 n) = d8 ((fb T h r').map aI):=by rw[N9<|by rw[gMq,hr];rfl];change d8 (fb (T.map aI) h<|aI r')=_;rw[SI]
structure Wd where
 T:Λ
 t0:Θ
 h:Nat
 loose:Ϝ
 left:Ϝ
noncomputable def atL(wild:Bool)(c:Int)(loose:Ϝ):Nat:=if wild then cC (c / 8 % de loose) else de loose-1
noncomputable def sg(c x:Int):Int:=x*(1-2*(c / 4 % 2))
def xk(wild:Bool)(w:Wd)(c:Int):Wd:=let r:=cn w.T w.h []
 if c % 4=1/\w.t0≠[]then { w with t0:=l8 w.t0,h:=w.t0.getLast?.getD 0 }
 else if c % 4=2/\w.loose≠[]then { w with T:=fb w.T w.h (r++[cn w.loose (atL wild c w.loose) 0]),loose:=ef w.loose (atL wild c w.loose) }
 else match w.left with
  | []=>w
  |x::left=>if c % 4=0 then { w with T:=fb w.T w.h (r++[sg c x])++[[-(sg c x)]],t0:=w.t0++[w.h],h:=de w.T,left:=left }
   else { w with T:=fb w.T w.h (r++[sg c x]),loose:=w.loose++[-(sg c x)],left:=left }
def st(v0 v1:Option AV)(wild:Bool)(w:Wd)(v7 v8 n l:Option AV):AS:=[v0,v1,i8 wild,aB<|d8<|w.T.map aI,aB<|aI<|cN<|w.t0++[w.h],aB<|aI w.loose,aB<|aI w.left,v7,v8,n,l]
section
variable {hd:Nat}
def Ul:atI ((cN<|t0++[hd]).map b7) ((de (t0++[hd]):Int)-1)=aB (b7 (hd:Int)):=by
 have:(de (t0++[hd]):Int)-1=(de t0:Int):=by rw[lAq,lSq];simp +arith[*]
 rw[this];show uS ?_;delta cN;rw[mBq,mBq,gYq ⋯];simp
def qh l:de (cN l)=de l:=lMq ..
end
noncomputable def yB(l:Ϝ):Ϝ:=l.flatMap λx=>[x, -x]
def G9 x(l:Ϝ)a:(yB<|x::l).count a=[x, -x].count a+(yB l).count a:=by delta yB;rw[iO,cAq]
theorem xG:∀l:Ϝ,de (yB l)=2*de l
 | []=>rfl
 |x::l=>by unfold yB;have:=xG l;unfold yB at this;rw[iO,lAq,this];change 2+2*de l=2*(de l+1);rfl'
def Vk a c x:[sg c x].count a+[-(sg c x)].count a=[x, -x].count a:=by
 have l:0<=c / 4 % 2:=cT _ ⋯;have b1:c / 4 % 2<2:=cm _ ⋯;rw[show[x, -x]=[x]++[-x]from rfl,cAq];delta sg;have h:c / 4 % 2=0∨c / 4 % 2=1:=by lia
 obtain h|h:=h;.rw[h,show(1:Int)-2*0=1 from rfl,jR]
 .rw[h,show(1:Int)-2*1 = -1 from rfl,Int.mul_neg,jR,bf];rfl'
structure Os (nm:Ϝ)(w:Wd)(n:Nat):Prop where
 hh:w.h<w.T.length
 ht:∀k∈w.t0,k<w.T.length
 lw:w.t0.length<=n
 lT:w.T.length<=n+1
 lf:w.left.length<=nm.length
 cnt:∀a,w.T.flatten.count a+w.loose.count a+(yB w.left).count a=(yB nm).count a
 tr:K11.ER w.T
def Os.len(h:Os nm w n):de (bt w.T)+de w.loose+de (yB w.left)=2*de nm:=by
 have:aF (bt w.T++w.loose++yB w.left)<|yB nm:=by rw[cF];intro a;rw[cAq,cAq];show h.cnt a
 have:=d9 this;rw[lAq,lAq,xG nm]at this;show this
def Os.step(h:Os nm w n)c:Os nm (xk wild w c)<|n+1:=by
 have(T,t0,hd,loose,left):=w;have(hh,ht,lw,lT,lf,cnt,tr):=h;simp only at hh ht lw lT lf cnt tr;have hr:T[hd]?=aB (cn T hd []):=by rw[gDq,gEg hh];rfl
 delta xk;skip;split
 .rename_i q;obtain z|⟨t,B,z⟩:=dJ t0;.show absurd z q.2
  .subst z;rw[dN]at ht lw ⊢;rw[cM,ik];skip;rw[lAq,lSq]at lw;show(ht _ ⋯,λk hk=>ht k<|by simp[hk],(by simp only;lia),(by simp only;lia),lf,cnt,tr)
 .split
  .rename_i q;have s:0<de loose:=e9 fA q.2;have l:atL wild c loose<de loose:=by
    delta atL;have E:0<=c / 8 % (de loose:Int):=cT _<|by simp +arith[*]
    have b1:c / 8 % (de loose:Int)<(de loose:Int):=cm _<|by simp +arith[*]
    split <;> lia
   show(?_,?_,?_,?_,lf,λa=>?_,?_);.simp only[lZq];show hh
   .simp only[lZq];show ht
   .simp only;lia
   .simp only[lZq];lia
   .simp only;rw[yE a hr,←cnt a,←ID a l];rfl'
   .show tr.set hr
  .cases left with
   |nil=>show(hh,ht,(by simp only;lia),(by simp only;lia),lf,cnt,tr)
   |cons x left=>
    simp only;rw[lCq]at lf;have u:=λa=>G9 x left a;split
    .show(?_,?_,?_,?_,(by simp only;lia),λa=>?_,?_);.simp only[lAq,lZq,lSq];rfl'
     .intro k hk;simp only[lAq,lZq,lSq]at hk ⊢;obtain hk|hk:=mAq.mp hk;.have:=ht k hk;rfl'
      .rw[mSq.mp hk];rfl'
     .simp only[lAq,lSq];rfl'
     .simp only[lAq,lZq,lSq];rfl'
     .simp only;rw[fAq,aN,cAq,yE a hr];have:=cnt a;rw[u a,←Vk a c x]at this;lia
     .show(tr.set hr).add (by rw[lZq];show hh)<|K11.Jr hr ⋯
    .show(?_,?_,?_,?_,(by simp only;lia),λa=>?_,?_);.simp only[lZq];show hh
     .simp only[lZq];show ht
     .simp only;lia
     .simp only[lZq];lia
     .simp only;rw[yE a hr,cAq];have:=cnt a;rw[u a,←Vk a c x]at this;lia
     .show tr.set hr
noncomputable def w0(nm:Ϝ):Wd:=([[]],[],0,[],nm)
def T5 nm:Os nm (w0 nm) 0:=(by simp[w0],(λk h=>by cases h),ag _,ag _,ag _,(λa=>by simp[w0]),K11.UO _)
end K31
open K31 renaming xG->aAe
namespace K64
open PySem L2 Mr Z Xe Zl
open K31 (AL Og qh)
open K12 (cN CA OL U1)
abbrev AX(v0:Option AV)(X:Λ)(ab:Θ)(op rd:Ϝ)(v5 v6 v7 v8:Option AV):AS:=[v0,aB<|d8<|X.map aI,aB<|aI<|cN ab,aB<|aI op,aB<|aI rd,v5,v6,v7,v8]
def Ug:Θ->MS:=(Gk 1 (wj (rQ<|pQ (yp f_) (oQ 5)<|rOf<|zK<|oS (kSc<|rC<|b7 0)<|oS (kSc<|rC<|b7 2) pV)<|rQ<|pQ CS (vJ rq<|oR (oQ 4) pE)<|rC<|b7 0) (λpath=>pd ((X6 1 (EB 8<|OF B1 (oQ 6)<|BI 4<|rC<|b7 0)<|λpath=>pd ((P7 1<|pO 8) path)<|zg (rQ<|pQ AY (oQ 5)<|rC<|b7 0) (pd (vc 2<|kSc<|vJ rq<|oR (oQ 1) pE)<|vc 1<|qT<|oS (kSc<|Fu xj<|oQ 8) pV)<|vc 3<|pO 8) path) wQ)<|Gk 1 (wj (rQ<|pQ AY (oQ 5)<|rC<|b7 1)<|rQ<|pQ CS (vJ rq<|oR (oQ 2) pE)<|rC<|b7 1) (λpath=>pd ((λQ=>(Ha<|Be 2)) path) yW)<|Gk 1 (wj (rQ<|pQ AY (oQ 5)<|rC<|b7 3)<|rQ<|pQ CS (vJ rq<|oR (oQ 3) pE)<|rC<|b7 0) (λpath=>pd ((JC 1<|YY xj<|Be 3) path) zd)<|Gk 1 (rQ<|pQ AY (oQ 5)<|rC<|b7 4) (λpath=>pd ((CO 1 3) path)<|pd (qa 2<|qT<|oS (kSc<|vJ rq<|oR (oQ 1) pE) pV)<|vc 1<|qT pV)<|λQ=>qO)
def Q2:qm=WH 7 1 (pIx 1 (RI 1)<|pQ vd (oQ 2)<|pQ Cv (vJ rq<|oR (oQ 2) pE)<|rC<|b7 1) Ug:=rfl
section
variable {t:Θ}{rd r:Ϝ}
def Bv(hr:X[i]?=aB r):qm (AX v0 X (t++[i]) op rd (i6 k) (i6 s) v7 v8)=Ug [i] (AX v0 X (t++[i]) op rd (i6 k) (i6 s) n_ v8):=by
 have hh:=(gSq.mp hr).1;have l:=AL hr;have n:=Ai hh;have u:=oV<|cN<|t++[i];have cl:=qh<|t++[i];have z:=K31.Ul (t0:=t) (hd:=i);have q:((7)≠1/\7<9)=True:=by simp
 rw[Q2];simp! [AX,l,n,u,dI,cl,z,q]
def sci n:((b7 n).scal=t_)=True:=eq_true rfl
def tn0:cC 0=0:=rfl
def er0{α:Type}(a:α)l:ef (a::l) 0=l:=rfl
def gt0{α:Type}(a:α)l:(a::l)[0]?=aB a:=rfl
def adF(h:s=1∨s = -1)x:B1 (b7 s) (b7 x)=aB (b7<|s*x):=K4 ∅ ∅
def rd4(h:de rd<500000):((0:Int)<=0/\(0:Int)<((de rd+1:Nat):Int)/\de rd+1<=qS)=True:=eq_true (jn _,by simp +arith[*],by change _<=16777216;lia)
def rd1:decide ((0:Int)<((de rd+1:Nat):Int))=t_:=d5<|by simp +arith[*]
def lm{α:Type}{l:List α}(h:de l<500000):de l<qS:=by change _<16777216;lia
def e00:decide ((0:Int)=0)=t_:=rfl
def e01:decide ((0:Int)=1)=f_:=rfl
def e03:decide ((0:Int)=3)=f_:=rfl
def e04:decide ((0:Int)=4)=f_:=rfl
def e10:decide ((1:Int)=0)=f_:=rfl
def e11:decide ((1:Int)=1)=t_:=rfl
def e13:decide ((1:Int)=3)=f_:=rfl
def e14:decide ((1:Int)=4)=f_:=rfl
def e20:decide ((2:Int)=0)=f_:=rfl
def e21:decide ((2:Int)=1)=f_:=rfl
def e23:decide ((2:Int)=3)=f_:=rfl
def e24:decide ((2:Int)=4)=f_:=rfl
def e30:decide ((3:Int)=0)=f_:=rfl
def e31:decide ((3:Int)=1)=f_:=rfl
def e33:decide ((3:Int)=3)=t_:=rfl
def e34:decide ((3:Int)=4)=f_:=rfl
def e40:decide ((4:Int)=0)=f_:=rfl
def e41:decide ((4:Int)=1)=f_:=rfl
def e43:decide ((4:Int)=3)=f_:=rfl
def e44:decide ((4:Int)=4)=t_:=rfl
def i0:yp f_ (b7 0) (lG [b7 0,b7 2])=aB (k9 t_):=rfl
def i1:yp f_ (b7 1) (lG [b7 0,b7 2])=aB (k9 f_):=rfl
def i2:yp f_ (b7 2) (lG [b7 0,b7 2])=aB (k9 t_):=rfl
def i3:yp f_ (b7 3) (lG [b7 0,b7 2])=aB (k9 f_):=rfl
def i4:yp f_ (b7 4) (lG [b7 0,b7 2])=aB (k9 f_):=rfl
def abX(hr:X[i]?=aB r)(B:s=1∨s = -1)(E:de X<500000)(ha:de (t++[i])<500000)(l:de r<500000)(hd:de rd<500000):∃n u,qm (AX v0 X (t++[i]) op (x::rd) (i6 0) (i6 s) v7 v8)=aB (gb<|AX v0 (fb X i (r++[s*x])++[[-(s*x)]]) (t++[i]++[de X]) op rd (i6 0) (i6 s) n u):=by have G:=AL hr;have H:=Og (r':=r++[s*x]) hr;have I:=CA r<|s*x;have J:=OL (fb X i<|r++[s*x])<|-(s*x);have L:=U1 (t++[i])<|de X;have M:=oV<|x::rd;have O:=oV<|cN<|t++[i];have z:=oV<|cN<|t++[i]++[de X];have P:=oV op;have cl:=qh<|t++[i];rw[Bv hr];show(n_,i6<|s*x,?_);simp! [Ug,AX,wQ,G,i0,lm l,lm E,lm ha,rd4 hd,rd1,H,I,J,L,M,O,z,P,cl,dI,Wb,tn0,er0,gt0,sci,adF B,lZq,and_self,if_true,e00,e01,e03,e04]
def aam(hr:X[i]?=aB r)(z:s=1∨s = -1)(B:de op<500000)(l:de r<500000)(hd:de rd<500000):∃n u,qm (AX v0 X (t++[i]) op (x::rd) (i6 2) (i6 s) v7 v8)=aB (gb<|AX v0 (fb X i<|r++[s*x]) (t++[i]) (op++[s*x]) rd (i6 2) (i6 s) n u):=by have E:=AL hr;have G:=Og (r':=r++[s*x]) hr;have H:=CA r<|s*x;have I:=CA op<|s*x;have J:=oV<|x::rd;have L:=oV<|cN<|t++[i];have M:=oV op;have O:=oV<|op++[s*x];have cl:=qh<|t++[i];rw[Bv hr];show(n_,i6<|s*x,?_);simp! [Ug,AX,wQ,E,i2,lm l,lm B,rd4 hd,rd1,G,H,I,J,L,M,O,cl,dI,Wb,tn0,er0,gt0,sci,adF z,lZq,and_self,if_true,e20,e21,e23,e24]
def Uc(hr:X[i]?=aB r)(hk:k=0∨k=2):qm (AX v0 X (t++[i]) op [] (i6 k) (i6 s) v7 v8)=aB (gb<|AX v0 X (t++[i]) op [] (i6 k) (i6 s) n_ v8):=by
 have l:=AL hr;have n:=oV [];have u:=oV<|cN<|t++[i];have z:=oV op;have cl:=qh<|t++[i];have B:decide ((0:Int)<((0:Nat)))=f_:=rfl;rw[Bv hr];obtain rfl|rfl:=hk;.simp! [Ug,AX,l,i0,n,u,z,cl,dI,B,e01,e03,e04]
 .simp! [Ug,AX,l,i2,n,u,z,cl,dI,B,e21,e23,e24]
def abP(hr:X[i]?=aB r):qm (AX v0 X (t++[j]++[i]) op rd (i6 1) (i6 s) v7 v8)=aB (gb<|AX v0 X (t++[j]) op rd (i6 1) (i6 s) n_ v8):=by
 have u:=AL hr;have z:=oV rd;have B:=oV<|cN<|t++[j]++[i];have l:=oV<|cN<|t++[j];have E:=oV op;have cl:=qh<|t++[j]++[i];have G:decide ((1:Int)<(de (t++[j]++[i])))=t_:=d5<|by simp;simp +arith[*]
 have H:=fx (U1 (t++[j]) i);have I:((cN<|t++[j]).map (λn=>b8<|b7 n)++[b8<|b7<|i])[de ((cN<|t++[j]).map (λn=>b8<|b7 n)++[b8<|b7<|i])-1]?=i6 (i):=by simp
 have J:l8 ((cN<|t++[j]).map (λn=>b8<|b7 n)++[b8<|b7<|i])=(cN<|t++[j]).map (λn=>b8<|b7 n):=cM;rw[Bv hr];simp! [Ug,AX,yW,u,i1,z,B,l,E,cl,dI,G,H,I,J,e10,e11,e13,e14]
def ZW(hr:X[i]?=aB r):qm (AX v0 X [i] op rd (i6 1) (i6 s) v7 v8)=aB (gb<|AX v0 X [i] op rd (i6 1) (i6 s) n_ v8):=by have l:=AL hr;have n:=oV rd;have u:=oV<|cN [i];have z:=oV op;have cl:=qh [i];have B:decide ((1:Int)<((1:Nat)))=f_:=rfl;have h:=Bv (t:=[]) (op:=op) (rd:=rd) (k:=1) (s:=s) (v0:=v0) (v7:=v7) (v8:=v8) hr;simp only[cA]at h;rw[h];simp! [Ug,AX,l,i1,n,u,z,cl,dI,B,e10,e11,e13,e14]
def abL(hr:X[i]?=aB r)(l:de r<500000):qm (AX v0 X (t++[i]) (op++[y]) rd (i6 3) (i6 s) v7 v8)=aB (gb<|AX v0 (fb X i<|r++[-y]) (t++[i]) op rd (i6 3) (i6 s) n_ v8):=by
 have u:=AL hr;have z:=Og (r':=r++[-y]) hr;have B:=CA r<|-y;have E:=oV rd;have G:=oV<|cN<|t++[i];have H:=oV<|op++[y];have I:=oV op;have cl:=qh<|t++[i];have J:decide ((0:Int)<((de (op++[y]))))=t_:=d5 ⋯;have L:=fx (CA op y);have M:((op.map λn=>b8<|b7 n)++[b8<|b7 y])[de ((op.map λn=>b8<|b7 n)++[b8<|b7 y])-1]?=i6 y:=by simp
 have O:l8 ((op.map λn=>b8<|b7 n)++[b8<|b7 y])=op.map λn=>b8<|b7 n:=cM;rw[Bv hr];simp! [Ug,AX,zd,u,i3,lm l,E,G,H,I,cl,dI,J,L,M,O,z,B,ac4,lZq,and_self,e30,e31,e33,e34]
def Xg(hr:X[i]?=aB r):qm (AX v0 X (t++[i]) [] rd (i6 3) (i6 s) v7 v8)=aB (gb<|AX v0 X (t++[i]) [] rd (i6 3) (i6 s) n_ v8):=by have l:=AL hr;have n:=oV rd;have u:=oV<|cN<|t++[i];have z:=oV [];have cl:=qh<|t++[i];have B:decide ((0:Int)<((0:Nat)))=f_:=rfl;rw[Bv hr];simp! [Ug,AX,l,i3,n,u,z,cl,dI,B,e30,e31,e33,e34]
def U5(r op:Ϝ):(r.map λn=>b8<|b7 n)++hmA op=(r++op.reverse.map λz=>-z).map λn=>b8<|b7 n:=by rw[mBq,mPq];rfl
def aaN(hr:X[i]?=aB r)(l:de X<500000)(n:de r+de op<500000):qm (AX v0 X (t++[i]) op rd (i6 4) (i6 s) v7 v8)=aB (gb<|AX v0 (fb X i (r++op.reverse.map λz=>-z)++[[]]) [de X] [] rd (i6 4) (i6 s) n_ v8):=by
 have u:=AL hr;have B:=Og (r':=r++op.reverse.map λz=>-z) hr;have E:=U5 r op;have G:(fb X i<|r++op.reverse.map λz=>-z).map aI++[d8 []]=(fb X i (r++op.reverse.map λz=>-z)++[[]]).map aI:=by rw[mBq];rfl
 have H:=oV rd;have I:=oV<|cN<|t++[i];have J:=oV op;have cl:=qh<|t++[i];have sh:=JP op;have q:((1)≠3/\de r+de op<qS)=True:=eq_true (by decide,by change _<16777216;lia);have L:de (fb X i<|r++op.reverse.map λz=>-z)<qS:=by rw[lZq];show lm l
 have M:cN [de X]=[(de X:Int)]:=rfl;rw[Bv hr];simp! [Ug,AX,u,i4,H,I,J,cl,dI,e40,e41,e43,e44,OI,sh,q,E,B,G,L,lm l,M,lZq];rfl
def adH(hr:X[i]?=aB r)(l:de r+de op<500000):Jh 1 3 (pIx 1 (RI 1)<|pQ vd (oQ 2)<|pQ Cv (vJ rq<|oR (oQ 2) pE)<|rC<|b7 1) (AX v0 X (t++[i]) op rd v5 v6 v7 v8)=aB (gb<|AX v0 (fb X i<|r++op.reverse.map λz=>-z) (t++[i]) [] rd v5 v6 v7 v8):=by have n:=AL hr;have hh:=(gSq.mp hr).1;have u:=Ai hh;have B:=Og (r':=r++op.reverse.map λz=>-z) hr;have E:=U5 r op;have G:=oV<|cN<|t++[i];have cl:=qh<|t++[i];have H:=K31.Ul (t0:=t) (hd:=i);have sh:=JP op;have q:((1)≠3/\de r+de op<qS)=True:=eq_true (by decide,by change _<16777216;lia);simp! [AX,n,u,G,cl,H,dI,Yj,OI,sh,q,E,B];rfl
end
end K64
namespace K08
open PySem PySem.NumText L2 Mr Z Xe Zl
section
variable {rs:Λ}(hl:rs.flatten.length<=500000)
include hl
end
end K08
namespace K07
open PySem PySem.NumText L2 Mr Z Xe Zl
def WT(h:0<j)(l:j.natAbs.log2<9000):Tp (b7 i) (b7 j)=aB (b7<|i / j):=vX (h,l) _
def acn:Hu (b7 10) (b7 57)=aB (b7<|10 ^ 57):=by simp! []
def O6(l:Ϝ)z:aI (l++[z]) = d8 (l.map (λn=>b8<|b7 n)++[b8<|b7 z]):=by delta aI;rw[mBq];rfl
theorem HP{α β:Type}(f:α->β):∀(l:List α) k,ef (l.map f) k=(ef l k).map f
 | [],_=>rfl
 |a::l,0=>rfl
 |a::l,k+1=>by simp only[aq,cJ,cJ,aq,HP f l k]
theorem FN:∀{l:Ϝ}{k}{x},l[k]?=aB x->aF (x::ef l k) l
 |a::l,0,x,h=>by simp at h;subst h;show D1 _
 |a::l,k+1,x,h=>by rw[cJ];show(m9 (aF.swap a x _))<|(FN (l:=l)<|by show h).cons a
def abc(hn:n<=30):∃s l last v5,rA 5 xB (pT 0 n) [i6 c,i6 o,i6 (n:Int),aB<|d8 [],i6 0,n_,n_]=aB (gb [i6 s,i6 o,i6 (n:Int),aB<|aI l,i6 last,v5,n_])/\de l=n/\c8 l/\(∀z∈l,1<=z/\z<=30*10 ^ 57):=by
 have key:=xY (x:=5) (body:=xB) (λi S=>∃s l last v5,S=[i6 s,i6 o,i6 (n:Int),aB<|aI l,i6 last,v5,n_]/\de l=i/\c8 l/\(∀z∈l,1<=z/\z<=last)/\0<=last/\last<=i*10 ^ 57) (ds:=pT 0 n) (S:=[i6 c,i6 o,i6 (n:Int),aB<|d8 [],i6 0,n_,n_])
  (c,[],0,n_,rfl,rfl,bA,λz t=>(by cases t),by decide,by decide) (by
  rintro i d S hd ⟨s,l,last,v5,rfl,hl,u,hr,E,B⟩;have hi:i<n:=by have:=(gSq.mp hd).1;rwa [qg]at this
  have G:=tG (i:=s) (j:=10 ^ 57) ⋯;have L:=cT s (b:=10 ^ 57) ⋯;have M:=cm s (b:=10 ^ 57) ⋯;have H:=WT (i:=s) (j:=10 ^ 57) ⋯<|by trivial
  have I:=acn;have J:de l<qS:=IW ∅;show([i6<|s / 10 ^ 57,i6 o,i6 (n:Int),aB<|aI<|l++[last+1+s % 10 ^ 57],i6<|last+1+s % 10 ^ 57,aB<|b8 d,n_],?_,s / 10 ^ 57,l++[last+1+s % 10 ^ 57],last+1+s % 10 ^ 57,aB<|b8 d,rfl,by rw[lAq,hl];rfl,?_,?_,by lia,?_);.rw[O6];simp! [xB,aI,I,G,H,J]
  .rw[nAq];show(u,by simp,λa ha b hb e=>?_);rw[mSq.mp hb]at e;have:=hr a ha;lia
  .intro z t;obtain t|t:=mAq.mp t;.have:=hr z t;show(this.1,by lia)
   .rw[mSq.mp t];show(by lia,jn _)
  .push_cast;lia);have(O,e,s,l,last,v5,rfl,hl,u,hr,E,B):=key;rw[qg]at hl B;show(s,l,last,v5,e,hl,u,λz t=>((hr z t).1,kJ (hr z t).2<|kJ B ?_));have:(n:Int)<=30:=by lia
 show Int.mul_le_mul_of_nonneg_right this ⋯
def aaT(hl:de l=n)(hn:n<=30):∃t g z,rA 5 xu (pT 0 n) [i6 c,i6 o,i6 (n:Int),aB<|aI l,i6 last,v5,aB<|d8 []]=aB (gb [i6 c,i6 t,i6 (n:Int),aB<|aI [],i6 last,z,aB<|aI g])/\aF g l:=by
 have key:=xY (x:=5) (body:=xu) (λi S=>∃t s v5 g,S=[i6 c,i6 t,i6 (n:Int),aB<|aI s,i6 last,v5,aB<|aI g]/\de s+i=n/\aF (g++s) l) (ds:=pT 0 n) (S:=[i6 c,i6 o,i6 (n:Int),aB<|aI l,i6 last,v5,aB<|d8 []])
  (o,l,v5,[],rfl,by rfl',D1 _) (by
  rintro i d S hd ⟨t,s,v5,g,rfl,H,B⟩;have hi:i<n:=by have:=(gSq.mp hd).1;rwa [qg]at this
  have u:(0:Int)<((de s:Nat):Int):=by lia
  have L:=tG (i:=t) (j:=((de s:Nat):Int)) u;have Y:=cT t (b:=((de s:Nat):Int))<|by omega
  have b1:=cm t u;obtain⟨k,hk⟩:∃k:Nat,t % ((de s:Nat):Int)=(k:Int):=(cC (t % ((de s:Nat):Int)),by lia);have I:k<de s:=by lia
  obtain⟨x,J⟩:∃x,s[k]?=aB x:=(_,gEg I);have G:(s.map λn=>b8<|b7 n)[k]?=i6 x:=by rw[gMq,J];rfl
  have M:(0:Int)<=(k:Int):=by rfl'
  have O:(k:Int)<((de s:Nat):Int):=by simp +arith[*]
  have P:de s<=qS:=US ∅;have hg:de g<=n:=by have:=d9 B;rw[lAq,hl]at this;lia
  have Q:de g<qS:=IW ∅;have R:=HP (λn=>b8<|b7 n) s k;have E:de (ef s k)=de s-1:=dA I;have U:=yr (i:=t) (j:=(de (ef s k):Int)+1) (by omega)<|by rw[E];lia
  have X:=aQ k;show([i6 c,i6<|t / ((de (ef s k):Int)+1),i6 (n:Int),aB<|aI<|ef s k,i6 last,aB<|b8 d,aB<|aI<|g++[x]],?_,_,_,_,_,rfl,by rw[E];lia,?_);.rw[O6];simp! [xu,aI,L,hk,M,O,P,Q,and_self,X,G,R,U]
  .show m9 ?_ B;rw[af];show(FN J).append_left g);have(S',e,t,s,z,g,rfl,H,B):=key;rw[qg]at H;have:s=[]:=cK.mp ∅;subst this;rw[aNq]at B;show(t,g,z,e,B)
def SC{n:Nat}(hn:n<=30):∃g:Ϝ,zh [b7 c,b7 o,b7 (n:Int)]=aB (aI g)/\de g=n/\c8 g/\∀z∈g,1<=z/\z<=30*10 ^ 57:=by have(x,l,last,B,E,hl,s,hr):=abc (c:=c) (o:=o) hn;have(J,g,G,H,t):=aaT (c:=x) (o:=o) (last:=last) (v5:=B) hl hn;have u:=uK (n:=n) ∅;show(g,?_,by rw[d9 t,hl],e9 (lW t) s,λz I=>hr z<|t.mem_iff.mp I);simp! [zh,GX,u,E,H]
end K07
namespace K31
open PySem L2 Mr Z Xe Zl
structure Nm (nm:Ϝ):Prop where
 len:nm.length<=100
 nd:nm.Nodup
 lo:∀x∈nm,1<=x
structure Wm (nm:Ϝ)(T:Λ):Prop where
 cnt:∃left,∀a,T.flatten.count a+(yB left).count a=(yB nm).count a
 tr:K11.ER T
 pos:0<T.length
 len:T.length<=64
def BX(h:Nm nm):c8 (yB nm):=K12.LA h.nd h.lo
def PB(l)a:(yB l).count (-a)=(yB l).count a:=by induction l with
 |nil=>rfl
 |cons x l t=>
  rw[G9,G9];rw[show[x, -x]=[x]++[-x]from rfl,cAq,cAq];simp only[List.count_singleton];have n:(x == -a)=(-x == a):=by rw[bL];simp <;> lia
  have s:(-x == -a)=(x == a):=by rw[bL];simp <;> lia
  rw[n,s];lia
def Wm.nodup(hn:Nm nm)(h:Wm nm T):c8 (bt T):=by have(left,l):=h.cnt;rw[bP];intro a;have n:=bP.mp (BX hn) a;have:=l a;lia
def Wm.neg(hn:Nm nm)(h:Wm nm T)(hz:z∈bt T):-z∈bt T:=by have(left,l):=h.cnt;have s:=e9 bb hz;have t:=l z;have n:=l<|-z;rw[PB,PB]at n;show bb.mp ∅
def Wm.le(h:Wm nm T):de (bt T)<=2*de nm:=by
 have(left,l):=h.cnt;have:aF (bt T++yB left)<|yB nm:=by rw[cF];intro a;rw[cAq];show l a
 have:=d9 this;rw[lAq,xG nm]at this;lia
abbrev gm:=K12.gm
def WR T:aF (gm T).flatten<|bt T:=m9 (qj<|K12.Fc T)<|tP vx T
def abH T:de (gm T)=de T:=by rw[d9 (K12.Fc T),lMq]
def aeE(l:Λ):Prop:=∀P:Nat->Prop,(∃s,s<de l/\P s)->(∀(p:Nat) (r:Ϝ) x,l[p]?=aB r->x∈r->P p->P (plc l<|-x))->∀q,q<de l->P q
def UE(n:Mp<|gm T){r:Ϝ}(hr:r∈T):∃p,(gm T)[p]?=aB (good r)/\∀x∈r,plc (gm T) x=p:=by have s:=e9 (K12.Fc T).mem_iff<|e9 mMq (r,hr,rfl);have(p,l):=aC.mp s;show(p,l,λx t=>plc_eq n.hn l<|e9 (vx r).mem_iff t)
def Q5(M:Mp<|gm T)(U:0<de T)(tr:K11.ER T):aeE<|gm T:=by
 intro P (s,X,Y) hc q H;by_cases h1:de T=1
 .rw[abH]at X H;have:q=s:=by lia
  rw[this];show Y
 have E:∀k,k<de T->∃z,z∈cn T k []:=λk hk=>by
  by_cases n:k=0
  .subst n;have(j,e,I,a,b):=tr 1 (by rfl') ∅;have:j=0:=by lia
   subst this;show(e,a)
  .have(j,e,I,a,b):=tr k ∅ hk;show(_,b)
 have u:∀k,k<de T->cn T k []∈T:=λk hk=>by rw[gDq,gEg hk];show gRq hk
 have x:∀k,k<de T->∀z,z∈cn T k []->z∈bt (gm T):=λk hk z l=>e9 (WR T).mem_iff<|e9 mFq (_,u k hk,l);have same:∀k,k<de T->∀z w,z∈cn T k []->w∈cn T k []->P (plc (gm T) z)->P (plc (gm T) w):=λk hk z w l hw L=>by have(p,_,J):=UE M<|u k hk;rw[J w hw];rw[J z l]at L;show L
 have t:∀z,z∈bt (gm T)->P (plc (gm T) z)->P (plc (gm T)<|-z):=λz l L=>by have(r,hr,hx):=M.at l;show hc _ r z hr hx L
 have down:(∀z,z∈cn T 0 []->P (plc (gm T) z))->∀k,k<de T->∀z,z∈cn T k []->P (plc (gm T) z):=λh0 k=>by induction k using eQ with
  |ind k O=>
   intro hk z l;by_cases n:k=0;.subst n;show h0 z l
   .have(j,e,I,a,b):=tr k ∅ hk;show same k hk _ z b l<|t e (x j ∅ e a)<|O j I ∅ e a
 have up:∀k,k<de T->(∀z,z∈cn T k []->P (plc (gm T) z))->∀z,z∈cn T 0 []->P (plc (gm T) z):=λk=>by induction k using eQ with
  |ind k O=>
   intro hk l;by_cases n:k=0;.subst n;show l
   .have(j,e,I,a,b):=tr k ∅ hk;have p1:=t (-e) (x k hk _ b)<|l _ b;rw[bf]at p1;show O j I ∅ λz G=>same j ∅ e z a G p1
 have B:∀q,q<de (gm T)->∃k,k<de T/\∃z,z∈cn T k []/\plc (gm T) z=q:=λq H=>by
  have hr:=gEg H;have(r,Q,e):=mMq.mp<|(K12.Fc T).mem_iff.mp<|gRq H;have(k,hk,e2):=cX.mp Q;have e3:cn T k []=r:=by rw[gDq,gEg hk,e2];rfl
  have(z,l):=E k hk;show(k,hk,z,l,plc_eq M.hn hr ?_);rw[←e];show(vx r).mem_iff.mpr<|e3 ▸ l
 have(k,hk,z,l,ez):=B s X;have z0:=up k hk λw hw=>same k hk z w l hw<|by rw[ez];show Y
 have(k',R,z',G,S):=B q H;have:=down z0 k' R z' G;rw[S]at this;show this
end K31
namespace K64
open PySem L2 Mr Z Xe Zl
open K31 (Nm)
noncomputable def Uv(m:Int):Ϝ:=cn [[0],[1],[2],[3],[0,3,2,1],[0,2,3,2],[0,3],[3,2,1]] (cC m) []
def YD(l:0<=m)(n:m<8):atI [dI [0],dI [1],dI [2],dI [3],dI [0,3,2,1],dI [0,2,3,2],dI [0,3],dI [3,2,1]] m=aB (dI<|Uv m):=by
 have:m=0∨m=1∨m=2∨m=3∨m=4∨m=5∨m=6∨m=7:=by lia
 obtain rfl|rfl|rfl|rfl|rfl|rfl|rfl|rfl:=this <;> rfl
def Wx(n:0<=m)(s:m<8):de (Uv m)<=4/\∀l∈Uv m,0<=l/\l<=4:=by
 have:m=0∨m=1∨m=2∨m=3∨m=4∨m=5∨m=6∨m=7:=by lia
 obtain rfl|rfl|rfl|rfl|rfl|rfl|rfl|rfl:=this <;> decide
def Nu a c:∃E x,tT [b7 a,b7 c]=aB x/\oY x=dI E/\de E<=4/\∀l∈E,0<=l/\l<=4:=by
 have n:=tG (i:=c) (j:=17) ⋯;have B:=tG (i:=a) (j:=3) ⋯;have H:=tG (i:=c) (j:=3) ⋯;have P:=tG (i:=c) (j:=4) ⋯;have Q:=yr (i:=c) (j:=3) ⋯ ⋯;have R:=tG (i:=c / 3) (j:=4) ⋯;have S:=tG (i:=c) (j:=8) ⋯;by_cases I:c % 17=16;.have z:=d5 I;show([4],aI [4],by simp! [tT,uN,n,z,aI,aq,bQ],oV _,by decide,by decide)
 .have z:=d6 I;by_cases J:a % 3=0;.have s:=d5 J;show([c % 4],aI [c % 4],by simp! [tT,uN,n,z,B,s,P,aI,aq,bQ],oV _,by simp,λl hl=>?_);rw[mSq.mp hl];omega
  .have s:=d6 J;by_cases L:a % 3=1
   .have t:=d5 L;by_cases M:0<c % 3;.have u:=d5 M;show([0,3,2,1],aI [0,3,2,1],by simp! [tT,uN,n,z,B,s,t,H,u,aI,aq,bQ],oV _,by decide,by decide)
    .have u:=d6 M;show([c / 3 % 4],aI [c / 3 % 4],by simp! [tT,uN,n,z,B,s,t,H,u,Q,R,aI,aq,bQ],oV _,by simp,λl hl=>?_);rw[mSq.mp hl];lia
   .have t:=d6 L;have G:=YD (m:=c % 8) ∅ ∅;have O:=Wx (m:=c % 8) ∅ ∅;unfold dI at G;simp only[aq,bQ]at G;show(Uv<|c % 8,b8<|dI<|Uv<|c % 8,by simp! [tT,uN,n,z,B,s,t,S,G],uc _,O.1,O.2)
def Gn(ns)n:rD sV (kSc<|su Zl.zp<|oR (oQ 1)<|oR (oQ 0) pE) [aB<|b8<|o9 ns] (pT 0 n)=aB (((aH n).map λi:Nat=>CL ns (i:Int)).map λz=>b8<|b7 z):=by
 rw[Z.ve<|λd=>match d with|b7 z=>b8<|b7<|CL ns z|_=>b8 j0];.rw[yG,mPq,mPq];rfl
 .intro d hd;rw[yG]at hd;have(i,hi,rfl):=mMq.mp hd;show([i6 i,aB<|b8<|o9 ns],?_);simp! [Yn]
def Me ns(hn:n<=67):Nm<|(aH n).map λi:Nat=>CL ns (i:Int):=by
 show(by rw[lMq,aX];lia,?_,λx l=>?_);.show e9 bO<|cE.imp_of_mem λ{a b} ha hb h e=>h ?_;have:=bF.mp ha;have:=bF.mp hb;show Ut ns ∅ ∅ e
 .have(i,_,rfl):=mMq.mp l;have:=(Oe ns<|i).1;rfl'
def VH ns:∃R,zN [o9 ns]=aB (aI R)/\Nm R/\de R<=60:=by
 have t:pL [o9 ns,b7 0]=i6 (cell ns 0):=wO ns<|by rfl'
 have u:pL [o9 ns,b7 1]=i6 (cell ns 1):=wO ns<|by rfl'
 have x:pL [o9 ns,b7 2]=i6 (cell ns 2):=wO ns<|by rfl'
 have d:=yr (i:=cell ns 2) (j:=60) ⋯ ⋯;have m:=tG (i:=cell ns 2 / 60) (j:=2) ⋯;by_cases q:cell ns 2 / 60 % 2=1;.have l:=d5 q;have(g,B,L,E,G):=K07.SC (n:=30) ⋯;show(g,?_,(by simp +arith[*],E,λz H=>(G z H).1),by simp +arith[*]);have s:K07.zh [b7<|cell ns 0,b7<|cell ns 1,b7 30]=aB (aI g):=B;simp! [zN,Cu,t,u,x,d,m,l,s,aI]
 .have l:=d6 q;have I:=Gn ns 60;have rg:ze [b7 60]=aB (pT 0 60):=uK ⋯;have J:de (pT 0 60)<=qS:=by change 60<=16777216;decide
  show(_,?_,Me ns (n:=60) ⋯,by simp);simp! [zN,Cu,t,u,x,d,m,l,I,rg,J,aI]
def Lt(W:List<|Int×Int):Prop:=∀p∈W,(0<=p.1/\p.1<=4)/\(p.2=1∨p.2 = -1)
noncomputable abbrev pD(p:Int×Int):D:=lG [b7 p.1,b7 p.2]
noncomputable abbrev aW(W:List<|Int×Int):AV:=d8<|W.map λp=>b8<|pD p
def Ss W:oY (aW W) = ew (W.map pD):=by rw[qZ,mPq];congr 1
def Jq x:1-2*(x % 2)=1∨1-2*(x % 2) = -1:=by lia
def Lt.snoc(h:Lt W)(n:0<=l/\l<=4)(t:s=1∨s = -1):Lt<|W++[%[l|s]]:=λp u=>by
 obtain z|z:=mAq.mp u;.show h p z
 .rw[mSq.mp z];show(n,t)
def acS:∀{v0 v3 v4}c,n<=60->∃W l s,rA 3 wZ (pT 0 n) [v0,aB<|aW [],i6 c,v3,v4]=aB (gb [v0,aB<|aW W,i6 l,s,v4])/\de W=n/\Lt W:=by
 intro v0 v3 v4 c hn;have key:=xY (x:=3) (body:=wZ) (λi S=>∃(W:List (Int×Int)) (l:Int) (s:Option AV),S=[v0,aB<|aW W,i6 l,s,v4]/\de W=i/\Lt W) (ds:=pT 0 n) (S:=[v0,aB<|aW [],i6 c,v3,v4]) ([],c,v3,rfl,rfl,λp z=>by cases z) (by
  rintro i d S hd ⟨W,l,s,rfl,hl,t⟩;have hi:i<n:=by have:=(gSq.mp hd).1;unfold pT at this;rwa [lMq,aX]at this
  have B:=tG (i:=l) (j:=5) ⋯;have E:=yr (i:=l) (j:=5) ⋯ ⋯;have G:=tG (i:=l / 5) (j:=2) ⋯;have ml:=K4 (i:=2) (j:=l / 5 % 2) ⋯ ⋯;have u:=yr (i:=l) (j:=10) ⋯ ⋯;have H:de W<qS:=lm ∅;have I:(W.map λp=>b8<|pD p)++[b8<|lG [b7<|l % 5,b7<|1-2*(l / 5 % 2)]]=(W++[%[l % 5|1-2*(l / 5 % 2)]]).map λp=>b8<|pD p:=by rw[mBq];rfl
  show(_,?_,(W++[%[l % 5|1-2*(l / 5 % 2)]],l / 10,aB<|b8 d,rfl,by simp[hl],t.snoc (by lia,by lia)<|Jq _));simp! [wZ,B,E,G,ml,u,H,I]);have(J,e,W,l,s,rfl,hl,t):=key;have hr:de (pT 0 n)=n:=by unfold pT;rw[lMq,aX]
 show(W,l,s,e,by rw[hl,hr],t)
theorem ZA{s:Int}:∀(t:Ϝ) W {v0 v3 v4}c,de W+de t<=1000->∃n,rA 4 wY (t.map b7) [v0,aB<|aW W,i6 c,v3,v4]=aB (gb [v0,aB<|aW<|W++t.map λl=>%[l|1-2*(c / 32 % 2)],i6 c,v3,n])
 | [],W,v0,v3,v4,c,_=>(v4,by rw[bQ,bQ,aNq];rfl)
 |l::t,W,v0,v3,v4,c,h=>by
  simp only[lCq]at h;have u:=yr (i:=c) (j:=32) ⋯ ⋯;have x:=tG (i:=c / 32) (j:=2) ⋯;have ml:=K4 (i:=2) (j:=c / 32 % 2) ⋯ ⋯;have z:de W<qS:=lm ∅;have B:(W.map λp=>b8<|pD p)++[b8<|lG [b7 l,b7<|1-2*(c / 32 % 2)]]=(W++[%[l|1-2*(c / 32 % 2)]]).map λp=>b8<|pD p:=by rw[mBq];rfl
  have E:wY [v0,aB<|aW W,i6 c,v3,i6 l]=aB (gb [v0,aB<|aW<|W++[%[l|1-2*(c / 32 % 2)]],i6 c,v3,i6 l]):=by simp! [wY,u,x,ml,z,B]
  have(n,G):=ZA (s:=s) t (W++[%[l|1-2*(c / 32 % 2)]]) c<|by simp;lia
  show(n,?_);change(wY [v0,aB<|aW W,i6 c,v3,i6 l]).bind _=_;rw[E];show fq G ?_;rw[af];rfl
theorem ZD ns:∀(cs:Ϝ) W {v2 v3 v4},de W+4*de cs<=1000->Lt W->∃B n t,rA 2 vA (cs.map b7) [aB<|b8<|o9 ns,aB<|aW W,v2,v3,v4]=aB (gb [aB<|b8<|o9 ns,aB<|aW B,n,v3,t])/\de B<=de W+4*de cs/\Lt B
 | [],W,v2,v3,v4,_,G=>(W,v2,v4,rfl,by simp,G)
 |c::cs,W,v2,v3,v4,h,G=>by
  simp only[lCq]at h;have L:pL [o9 ns,b7 2]=i6 (cell ns 2):=wO ns<|by rfl'
  have(u,x,M,O,X,P):=Nu (cell ns 2) c;have(t,Q):=ZA (s:=0) u W (v0:=aB<|b8<|o9 ns) (v3:=v3) (v4:=v4) c ∅;have H:Lt<|W++u.map λl=>%[l|1-2*(c / 32 % 2)]:=λp R=>by
   obtain z|z:=mAq.mp R;.show G p z
   .have(l,hl,rfl):=mMq.mp z;show(P l hl,Jq _)
  have J:de (W++u.map λl=>%[l|1-2*(c / 32 % 2)])=de W+de u:=by simp
  have(B,n,E,S,Y,I):=ZD ns cs (W++u.map λl=>%[l|1-2*(c / 32 % 2)]) ∅ H;show(B,n,E,?_,by rw[lCq];lia,I);have U:vA [aB<|b8<|o9 ns,aB<|aW W,i6 c,v3,v4]=aB (gb [aB<|b8<|o9 ns,aB<|aW<|W++u.map λl=>%[l|1-2*(c / 32 % 2)],i6 c,v3,t]):=by simp! [vA,L,M,O,dI,Q]
  change(vA [aB<|b8<|o9 ns,aB<|aW W,i6 c,v3,v4]).bind _=_;rw[U];show S
def X2 ns:∃W,Bz [o9 ns]=aB (aW W)/\de W<=252/\Lt W:=by
 have x:pL [o9 ns,b7 2]=i6 (cell ns 2):=wO ns (k:=2)<|by rfl'
 have z:pL [o9 ns,b7 3]=i6 (cell ns 3):=wO ns<|by rfl'
 have d:=yr (i:=cell ns 2) (j:=60) ⋯ ⋯;have m:=tG (i:=cell ns 2 / 60) (j:=2) ⋯;by_cases q:cell ns 2 / 60 % 2=1;.have n:=d5 q;have(W,L,B,e,hl,s):=acS (cell ns 3)<|ag _;have rg:ze [b7 60]=aB (pT 0 60):=uK ⋯;show(W,?_,by simp +arith[*],s);have t:rA 3 wZ (pT 0 60) [aB<|b8<|o9 ns,aB<|d8 [],i6<|cell ns 3,n_,n_]=_:=e;simp! [Bz,Eg,x,z,d,m,n,rg,t]
 .have n:=d6 q;have l:Bc ns (aB 3) (aB 66)=(ns.drop 3).take 63:=Tb ns 3 66;have hl:de ((ns.drop 3).take 63)<=63:=by rw[lTq];show Nat.min_le_left ..
  generalize (ns.drop 3).take 63=u at l hl;have(W,E,G,e,H,s):=ZD ns u [] (by simp;lia)<|λp I=>by cases I
  show(W,?_,by simp at H;lia,s);have t:rA 2 vA (u.map b7) [aB<|b8<|o9 ns,aB<|d8 [],i6<|cell ns 3,n_,n_]=_:=e;have J:=oV u;simp! [Bz,Eg,x,z,d,m,n,l,DB,J,dI,t]
end K64
namespace K51
open PySem L2 Mr Z Xe Zl
noncomputable def rot(r:Ϝ):Ϝ:=r.drop 1++r.take 1
def tK(r:Ϝ):List<|qk×Int:=(r.zip<|rot r).map λp=>%[aO p.1|p.2]
def ur(l:Λ):List<|qk×Int:=bt (l.map tK)
noncomputable def JF(ps:List<|qk×Int):List<|qk×D:=ps.map λp=>%[p.1|b7 p.2]
def CT r:de (rot r)=de r:=by delta rot;rw[lAq,aR,lTq];lia
def rot_perm r:aF (rot r) r:=by show m9 ay ?_;rw[aV]
def Ep r:de (tK r)=de r:=by delta tK;rw[lMq,List.length_zip,CT,kG]
def DH r:(tK r).map (·.1)=r.map aO:=by
 delta tK;rw[mPq];have:r.map aO=((r.zip<|rot r).map kK).map (aO:Int->qk):=by rw[List.map_fst_zip<|by rw[CT];show ag _]
 rw[this,mPq];rfl
def JT r:(tK r).map (·.2)=rot r:=by
 delta tK;rw[mPq];have:rot r=(r.zip<|rot r).map Prod.snd:=by rw[List.map_snd_zip<|by rw[CT];show ag _]
 show fx this
theorem xZ:∀l,(ur l).map (·.1)=l.flatten.map aO
 | []=>rfl
 |r::l=>by change(tK r++ur l).map (·.1)=_;simp only[mBq,DH,xZ l,fCq,mBq]
theorem Co:∀l,aF ((ur l).map (·.2))<|bt l
 | []=>.nil
 |r::l=>by change((tK r++ur l).map (·.2)).Perm _;rw[mBq,JT];show(rot_perm r).append<|Co l
def Ia l:de (ur l)=de (bt l):=by have:=congrArg de<|xZ l;rwa [lMq,lMq]at this
def NQ(l)r:ur (l++[r])=ur l++tK r:=by delta ur;simp
def Pe ps:de (JF ps)=de ps:=lMq _
def Yc a b:JF (a++b)=JF a++JF b:=mBq
def Uk ps:(JF ps).map (·.1)=ps.map (·.1):=by delta JF;rw[mPq];rfl
def Gw{j:Nat}(h:r[j]?=aB z)(l:(rot r)[j]?=aB y):(tK r)[j]?=aB %[aO z|y]:=by delta tK;rw[gMq,gu (z:=%[z|y]).mpr (h,l)];rfl
def S6{l:Λ}{r:Ϝ}(hn:c8 (bt l))(hr:l[i]?=aB r)(hz:r[j]?=aB z)(B:(rot r)[j]?=aB y) :
  zw (JF<|ur (l.take i)++(tK r).take j) (aO z) (b7 y)=JF (ur (l.take i)++(tK r).take (j+1)):=by
 have s:=sZ hr;have n:c8 (bt (l.take i)++r):=by
  rw[←s];have E:bt l=bt (l.take<|i+1)++bt (l.drop<|i+1):=by rw[←fAq,aV]
  rw[E]at hn;show(nAq.mp hn).1
 rw[FS];.rw[sU<|Gw hz B,←af,Yc (_++_) [_]];rfl
 .rw[Uk,mBq,xZ,iJ,DH,←iJ];intro m;obtain m|m:=mAq.mp m;.have(x,t,u):=mMq.mp m;cases u;show(nAq.mp n).2.2 _ t _ (mGq hz) rfl
  .have(x,t,u):=mMq.mp m;cases u;have:=bz.sublist (bV (j+1) r) (nAq.mp n).2.1;rw[sU hz]at this;show(nAq.mp this).2.2 _ t _ ⋯ rfl
def Ry{l:Λ}{r:Ϝ}(hl:de (bt l)<=1000)(hr:l[i]?=aB r):de (JF<|ur (l.take i)++(tK r).take j)<qS:=by have n:=vp l<|i+1;rw[sZ hr,lAq]at n;simp only[Pe,lAq,Ia,lTq,Ep];lia
def aeD(r:Ϝ):Bc (r.map b7) (aB 1) n_=(r.drop 1).map b7:=by rw[DB];cases r with
 |nil=>rfl
 |cons x r=>rw[show(aB 1)=aB ((1:Nat):Int)from rfl,Ij _ _ ⋯]
def aeO(r:Ϝ):Bc (r.map b7) n_ (aB 1)=(r.take 1).map b7:=by rw[DB];cases r with
 |nil=>rfl
 |cons x r=>rw[show(aB 1)=aB ((1:Nat):Int)from rfl,O0 _ _ ⋯]
def VJ(hn:c8 (bt l))(hl:de (bt l)<=1000):Fd [dM l]=aB (eT<|JF<|ur l):=by
 have key:=xY (x:=2) (body:=Ct) (λi S=>∃G n s,S=[aB<|b8<|dM l,aB<|eT<|JF<|ur<|l.take i,G,n,s]) (ds:=l.map dI) (S:=[aB<|b8<|dM l,aB<|eT [],n_,n_,n_]) (n_,n_,n_,rfl) (by
  rintro i d S hd ⟨G,n,s,rfl⟩;have(r,hr,rfl):=Di hd;have J:de r<=1000:=by have L:=vp l<|i+1;rw[sZ hr,lAq]at L;lia
  have u:de (r.map b7)=de ((rot r).map b7):=by rw[lMq,lMq,CT]
  have M:=Za (x:=3) (y:=4) (k:=0) (body:=CH) (λj S=>∃n s,S=[aB<|b8<|dM l,aB<|eT<|JF<|ur (l.take i)++(tK r).take j,aB<|b8<|dI r,n,s]) (S:=[aB<|b8<|dM l,aB<|eT<|JF<|ur<|l.take i,aB<|b8<|dI r,n,s]) u (n,s,by simp) (by rintro j d e S hd O ⟨n,s,rfl⟩;have(z,P,rfl):=Ds hd;have(y,Q,rfl):=Ds O;have R:=Ry (j:=j) hl hr;have B:=S6 hn hr P Q;show(_,?_,i6 z,i6 y,rfl);simp! [CH,R,B]);have(Y,I,U,X,rfl):=M;rw[bD,lMq,←Ep,bC]at I;show(_,?_,aB<|b8<|dI r,U,X,rfl);rw[sU hr,NQ];have H:de (r.drop 1)+de (r.take 1)<=qS:=US<|by rw[aR,lTq];lia
  have E:(r.drop 1).map b7++(r.take 1).map b7=(rot r).map b7:=by unfold rot;rw[mBq]
  have t:=fx (CT r);simp! [Ct,aeD,aeO,H,E,t,I]);have(S',e,G,n,s,rfl):=key;rw[lMq,bC]at e;simp! [Fd,Mm,e]
def Ie{PS}(n:Ps l (de l) kn PS)(u:0<de l)(z:∀s k,s<de l->k<de l->rX l s k):de PS=1:=by have(a,ha,_):=n.mem 0<|n.all 0 u;cases PS with
 |nil=>cases ha
 |cons x PS=>cases PS with
  |nil=>rfl
  |cons y PS=>exfalso;have(s,B,E):=n.pc x ⋯;have(t,ht,G):=n.pc y ⋯;have H:=(cW.mp n.dj).1 y ⋯ s<|e9 (E.iff s) vr;show H<|e9 (G.iff s)<|z t s ht B
end K51
open K51 renaming ur->O2,JF->aAc
namespace K15
open PySem L2 Mr Z Xe Zl
def GN(hn:c8 (ps.map (·.1)))(h:%[k|n]∈ps):l5 (aAc ps) k=aB (b7 n):=by induction ps with
 |nil=>cases h
 |cons p ps l=>
  rw[aq,au]at hn;change((%[p.1|b7 p.2]::aAc ps).find? _).map _=_;obtain e|e:=ae.mp h;.rw[←e,fQ ⋯];rfl
  .rw[dZ (by
    intro z;have s:=by simpa using z
    show hn.1<|by rw[s];show e9 mMq (_,e,rfl))];show l hn.2 e
def UB{ps:List<|qk×Int}(hn:c8 (ps.map (·.2)))(h:%[k|n]∈ps)(h':%[s|n]∈ps):k=s:=by induction ps with
 |nil=>cases h
 |cons p ps t=>
  rw[aq,au]at hn;obtain e|e:=ae.mp h
  .obtain l|l:=ae.mp h';.rw[←e]at l;show(congrArg kK l).symm
   .show absurd (e9 mMq (_,l,by rw[←e])) hn.1
  .obtain l|l:=ae.mp h';.show absurd (e9 mMq (_,e,by rw[←l])) hn.1
   .show t hn.2 e l
def nx(l:Λ)(e:Int):Int:=match l5 (aAc<|O2 l) (aO e)with
 |aB (b7 n)=>n
 |_=>0
def fw(l:Λ)(e:Int):Int:=nx l<|-e
def IQ(hn:c8 (bt rs)):c8 ((O2 rs).map (·.1)):=by rw[K51.xZ,cg,bO];show bz.imp (λh e=>h<|aO.inj e)<|cg.mp hn
def Fk(hn:c8 (bt rs))(s:e∈bt rs):%[aO e|nx rs e]∈O2 rs:=by
 have hk:(aO e)∈(O2 rs).map (·.1):=by rw[K51.xZ];show e9 mMq (e,s,rfl)
 have((k,n),l,rfl):=mMq.mp hk;have:=GN (IQ hn) l;unfold nx;rw[this];show l
def GS(hn:c8 (bt rs))(l:e∈bt rs):l5 (aAc<|O2 rs) (aO e)=aB (b7<|nx rs e):=GN (IQ hn)<|Fk hn l
def Ea(hn:c8 (bt rs))(l:e∈bt rs):nx rs e∈bt rs:=(K51.Co rs).mem_iff.mp<|e9 mMq (_,Fk hn l,rfl)
def Tv(hn:c8 (bt rs))(ha:a∈bt rs)(hb:b∈bt rs)(h:nx rs a=nx rs b):a=b:=by have l:=Fk hn ha;have n:=Fk hn hb;rw[h]at l;show aO.inj<|UB ((K51.Co rs).symm.nodup hn) l n
def DV(l:Mp rs):One (fw rs)<|bt rs:=(l.hn,λe n=>Ea l.hn<|p9 l e n,λa ha b hb h=>by have:=Tv l.hn (p9 l a ha) (p9 l b hb) h;lia)
noncomputable def mu(N:Nat):AS->Nat
 | [_,_,aB (d8 l),_]=>N+1-de l
 |_=>0
noncomputable def kI(ks:Ϝ):List<|qk×D:=ks.map λk=>%[(aO k:qk)|k9 t_]
structure Rd (f:Int->Int)(E:Ϝ)(kn:Ϝ)(L:Λ):Prop where
 cy:∀l∈L,∃e,Cy f e l
 fl:L.flatten=kn
 nd:kn.Nodup
 sub:∀x∈kn,x∈E
 cl:∀x∈kn,f x∈kn
theorem Rd.itr(h:Rd f E kn L)(l:x∈kn):∀n,itr f n x∈kn
 |0=>l
 |n+1=>h.cl _<|h.itr l n
def Rd.out(h:Rd f E kn L)(c:Cy f e l)(t:e∉kn):∀x∈l,x∉kn:=by intro x u hk;have(j,n):=aC.mp u;have s:=(gSq.mp n).1;rw[c.at s]at n;have z:=aB.inj n;subst z;have:=h.itr hk<|de l-j;rw[←Az,show de l-j+j=de l by lia,c.back]at this;show t this
def Rd.add(hf:One f E)(h:Rd f E kn L)(c:Cy f e l)(s:e∈E)(G:e∉kn):Rd f E (kn++l)<|L++[l]:=by
 have H:=h.out c G;show(λm I=>?_,by rw[fAq,h.fl,aN],?_,λx t=>?_,λx t=>?_)
 .obtain q|q:=mAq.mp I;.show h.cy m q
  .rw[mSq.mp q];show(e,c)
 .rw[nAq];show(h.nd,c.nd,λa ha b hb q=>H b hb<|q ▸ ha)
 .obtain q|q:=mAq.mp t;.show h.sub x q
  .rw[c.get]at q;have(n,_,rfl):=mMq.mp q;show hf.itr_mem s n
 .obtain q|q:=mAq.mp t;.show e9 mAq<|jE<|h.cl x q
  .show e9 mAq<|iq ?_;have(j,u):=aC.mp q;have z:=(gSq.mp u).1;rw[c.at z]at u;rw[←aB.inj u];change Zl.itr f (j+1) e∈l;by_cases B:j+1<de l;.show mGq<|c.at B
   .rw[show j+1=de l by rfl',c.back];show c.self
def Rd.orb(h:Rd f E kn L)(l:∀x∈E,x∈kn):P8 f E L:=(h.cy,by rw[h.fl];show h.nd,λx=>by rw[h.fl];show(h.sub x,l x))
noncomputable def bar(rs:Λ):Λ:=(rs.filter λr=>decide<|r=[]).map λQ=>[]
def abw(l:j<de r):(K51.rot r)[j]?=r[(j+1) % de r]?:=by
 delta K51.rot;by_cases h:j+1<de r;.rw[fG h,gZq<|by rw[aR];omega,eE,eN]
 .have e:j+1=de r:=by rfl'
  rw[e,gL,gYq<|by rw[aR];omega,aR,fj<|by omega];congr 1;lia
end K15
open K15 renaming nx->Zd
namespace K16
open PySem L2 Mr Z Xe Zl
noncomputable def pm(l:Ϝ):Ϝ:=l.flatMap λx=>[x, -x]
noncomputable def kvI(M:List<|Int×Int):List<|qk×D:=M.map λp=>%[aO p.1|b7 p.2]
end K16
namespace K16
open PySem L2 Mr Z Xe Zl K15
def HY(hn:c8 (bt rs)){r:Ϝ}(hr:r∈rs)(hz:r[j]?=aB z)(l:r[(j+1) % de r]?=aB y):nx rs z=y:=by
 have n:=(gSq.mp hz).1;have s:=K51.Gw hz<|fq (abw n) l;have t:%[aO z|y]∈O2 rs:=by skip;show e9 mFq (_,e9 mMq (r,hr,rfl),mGq s)
 have u:=GN (IQ hn) t;delta nx;rw[u]
theorem Qj(hn:c8 (bt rs)){r:Ϝ}(hr:r∈rs)(l:r[0]?=aB e):∀n,r[n % de r]?=aB (itr (nx rs) n e)
 |0=>by show l
 |n+1=>by
  have u:=(gSq.mp l).1;have x:=Qj hn hr l n;have z:(n+1) % de r<de r:=kc _ u;have s:(n % de r+1) % de r=(n+1) % de r:=by rw[Nat.mod_add_mod]
  obtain⟨y,t⟩:∃y,r[(n+1) % de r]?=aB y:=(_,gEg z);have:=HY hn hr x<|s ▸ t;rw[t,←this];rfl
def ZY(hn:c8 (bt rs)){r:Ϝ}(hr:r∈rs)(l:r[0]?=aB e):Cy (nx rs) e r:=by
 have s:=(gSq.mp l).1;have n:=Qj hn hr l;show(s,?_,?_,bz.sublist (aL hr) hn)
 .show df λi=>?_;rw[gMq];by_cases hi:i<de r;.rw[du hi,dt,←n i,fG hi]
  .rw[bo ∅,bo<|by rw[aX];lia];rfl
 .have:=n<|de r;rw[gL,l]at this;show(aB.inj this).symm
def Z6(hn:c8 (bt rs)):One (nx rs)<|bt rs:=(hn,λe l=>Ea hn l,λa ha b hb h=>Tv hn ha hb h)
end K16
namespace K18
open PySem L2 Mr Z Xe Zl
noncomputable def pp:Ϝ->List (Int×Int)
 | []=>[]
 | [_]=>[]
 |x::y::r=>%[x|y]::pp (y::r)
def cp:Ϝ->List (Int×Int)
 | []=>[]
 |x::r=>pp<|x::r++[x]
noncomputable def PC(X:Λ):List<|Int×Int:=X.flatMap cp
theorem DY:∀l x y (r:Ϝ),pp (l++x::y::r)=pp (l++[x])++%[x|y]::pp (y::r)
 | [],x,y,r=>rfl
 | [a],x,y,r=>rfl
 |a::b::l,x,y,r=>by change%[a|b]::pp (b::l++x::y::r)=%[a|b]::pp (b::l++[x])++_;rw[DY<|b::l];rfl
def tV{l r:Ϝ}{a:Int}{r':Ϝ}(hl:l=l'++[a])(hr:r=h::r'):pp (l++r)=pp l++%[a|h]::pp r:=by rw[hl,hr,af];show DY l' a h r'
def sR{l:Ϝ}{a:Int}{l'':Ϝ}(hl:l=l'++[a])(hh:l=h::l''):cp l=pp l++[%[a|h]]:=by rw[hh];change pp (h::l''++[h])=_;rw[←hh,tV hl rfl];rfl
def tL{l:Ϝ}(h:l≠[]):∃l' a,l=l'++[a]:=(l8 l,l.getLast h,fx (iA h))
def uv{l:Ϝ}(h:l≠[]):∃a l',l=a::l':=by cases l with
 |nil=>show absurd rfl h
 |cons a l=>show(a,l,rfl)
def rS(a b)q:(cp<|a++b).count q=(cp<|b++a).count q:=by
 by_cases ha:a=[];.rw[ha,aNq,cA]
 .by_cases hb:b=[];.rw[hb,aNq,cA]
  .have(la,u,l):=tL ha;have(lb,x,n):=tL hb;have(z,B,s):=uv ha;have(E,G,t):=uv hb;rw[sR (by rw[n,af])<|by rw[s];rfl,sR (by rw[l,af])<|by rw[t];rfl,tV l t,tV n s];simp only[cAq,bS,bG];rfl'
theorem Uo:∀(l:Ϝ) x,(pp<|l++[x]).map (·.1)=l
 | [],x=>rfl
 | [a],x=>rfl
 |a::b::l,x=>by change a::(pp<|b::l++[x]).map (·.1)=_;rw[Uo<|b::l]
def abz l:(cp l).map (·.1)=l:=by cases l with
 |nil=>rfl
 |cons x r=>show Uo (x::r) x
theorem TX:∀(l:Ϝ) x,(pp<|x::l).map (·.2)=l
 | [],x=>rfl
 |a::l,x=>by change a::(pp<|a::l).map (·.2)=_;rw[TX l]
def aa7 l:aF ((cp l).map (·.2)) l:=by cases l with
 |nil=>show D1 _
 |cons x r=>change((pp<|x::(r++[x])).map (·.2)).Perm _;rw[TX];show ay
def Gu X:(PC X).map (·.1)=bt X:=by induction X with
 |nil=>rfl
 |cons r X l=>change((cp r++PC X)).map _=_;rw[mBq,l,abz];rfl
def Eh X:aF ((PC X).map (·.2))<|bt X:=by induction X with
 |nil=>show D1 _
 |cons r X l=>change((cp r++PC X).map _).Perm (r++bt X);rw[mBq];show(aa7 r).append l
def pN(r:Ϝ)(X:Λ)q:(PC<|r::X).count q=(cp r).count q+(PC X).count q:=by change(cp r++PC X).count q=_;rw[cAq]
def wF(X Y)q:(PC<|X++Y).count q=(PC X).count q+(PC Y).count q:=by delta PC;rw[jB,cAq]
theorem yj{r r':Ϝ}q:∀{X:Λ}{i:Nat},X[i]?=aB r->(PC<|fb X i r').count q+(cp r).count q=(PC X).count q+(cp r').count q
 | [],_,h=>by simp at h
 |t::X,0,h=>by simp only[gJ,aB.injEq]at h;subst h;rw[eI,pN,pN];rfl'
 |t::X,i+1,h=>by
  rw[fP,pN,pN];have:=yj (r':=r') q<|by simpa using h
  simp +arith[*]
def tD(h:aF X Y)q:(PC X).count q=(PC Y).count q:=nt (h.flatMap_right cp) q
noncomputable def ct(u v x y:Int):Nat:=[%[u|v]].count %[x|y]
def vV u v x y:ct u v (-x) y=ct (-u) v x y:=by
 delta ct;simp only[bS,bS,bG,bG];have:(%[u|v] == %[-x|y])=(%[-u|v] == %[x|y]):=by rw[bL,beq_iff_eq,beq_iff_eq,m8,m8];constructor <;> rintro⟨n,l⟩ <;> show(by lia,l)
 rw[this]
def ct_:[%[u|v]].count %[x|y]=ct u v x y:=rfl
def rO:(%[u|v]::l).count %[x|y]=ct u v x y+l.count %[x|y]:=by rw[show%[u|v]::l=[%[u|v]]++l from rfl,cAq];rfl
def uy:q∈PC X↔0<(PC X).count q:=bb.symm
def Oa(h:%[u|v]∈cp c):∃w B,(∀q,(cp<|w++[u]).count q=(cp c).count q)/\w++[u]=v::B:=by cases c with
 |nil=>cases h
 |cons x r=>
  have key:∀{l:Ϝ},%[u|v]∈pp l->∃a b,l=a++u::v::b:=by intro l;induction l with
   |nil=>intro h;cases h
   |cons y l E=>cases l with
    |nil=>intro h;cases h
    |cons z l=>
     intro h;obtain e|h:=ae.mp<|h;.cases e;show([],l,rfl)
     .have(a,b,e):=E h;show(y::a,b,by rw[e];rfl)
  have(a,b,e):=key<|h;by_cases hb:b=[]
  .subst hb;have t:(x::r)++[x]=(a++[u])++[v]:=by rw[e,af];rfl
   have(s,G):=iX t rfl;cases G;show(a,r,λq=>by rw[←s],fx s)
  .have(n,k,rfl):=tL hb;have t:(x::r)++[x]=(a++u::v::n)++[k]:=by rw[e,af];rfl
   have(s,_):=iX t rfl;show(v::n++a,n++a++[u],λq=>?_,by rfl);rw[s];have:=rS (a++[u]) (v::n) q;rw[af]at this;rw[show a++u::v::n=a++([u]++v::n)from rfl,this,af]
def DT{n}z(h:%[u|v]∈PC n)(ne:∀c∈n,c≠[]):∃l:Λ,de l=de n/\(∀c∈l,c≠[])/\∀x y,(PC l).count %[x|y]+ct u v x y=(PC n).count %[x|y]+ct u z x y+ct z v x y:=by
 have(c,E,G):=bx.mp h;have(i,hi):=aC.mp E;have(w,I,H,t):=Oa G;show(fb n i<|w++[u]++[z],lZq,λd hd=>?_,λx y=>?_)
 .obtain q|q:=dG hd;.show ne d q
  .rw[q];simp
 .have s:=yj (r':=w++[u]++[z]) %[x|y] hi;have B:=H %[x|y];rw[sR rfl t]at B;rw[sR rfl<|by rw[t];rfl,tV rfl rfl]at s;simp only[cAq,rO,bG,pp]at s B;lia
def acm{k:Int}{W G:Ϝ}(hz:W=z::G)(hk:W=W''++[k])(h:%[u|v]∈PC t)(ne:∀c∈t,c≠[]):∃n:Λ,de n=de t/\(∀c∈n,c≠[])/\∀x y,(PC n).count %[x|y]+ct u v x y=(PC t).count %[x|y]+ct u z x y+(pp W).count %[x|y]+ct k v x y:=by
 have(c,H,I):=bx.mp h;have(i,hi):=aC.mp H;have(w,L,J,B):=Oa I;show(fb t i<|w++[u]++W,lZq,λd hd=>?_,λx y=>?_)
 .obtain q|q:=dG hd;.show ne d q
  .rw[q];simp
 .have s:=yj (r':=w++[u]++W) %[x|y] hi;have E:=J %[x|y];rw[sR rfl B]at E;rw[sR (l:=w++[u]++W) (a:=k) (l':=w++[u]++W'') (by rw[hk];simp)<|by rw[B];rfl,tV rfl hz]at s;simp only[cAq,rO,bG]at s E;lia
def aad(h:%[z|v]∈PC t)(hz:v≠z)(ne:∀c∈t,c≠[]):∃u n,%[u|z]∈PC t/\de n=de t/\(∀c∈n,c≠[])/\∀x y,(PC n).count %[x|y]+ct u z x y+ct z v x y=(PC t).count %[x|y]+ct u v x y:=by
 have(c,G,I):=bx.mp h;have(i,hi):=aC.mp G;have(w,L,J,B):=Oa I;have hw:w≠[]:=λq=>by rw[q]at B;cases B;show hz rfl
 have(w0,u,H):=tL hw;have(f,M,fw):=uv hw;have fv:f=v:=by rw[fw]at B;show(jN.inj B).1
 subst fv;have E:=λx y=>J %[x|y];rw[sR (l:=w++[z]) rfl B,tV (l:=w) H (r:=[z]) rfl]at E;simp only[cAq,rO,bG,pp]at E;show(u,fb t i w,?_,lZq,λd hd=>?_,λx y=>?_)
 .show e9 bx (c,G,bb.mp ?_);have:=E u z;have one:ct u z u z=1:=by delta ct;simp
  lia
 .obtain q|q:=dG hd;.show ne d q
  .rw[q];show hw
 .have s:=yj (r:=c) (r':=w) %[x|y] hi;rw[sR (l:=w) H fw]at s;simp only[cAq,rO,bG]at s;have:=E x y;lia
structure Ln (C LL:Λ):Prop where
 cnt:∀x y,(PC LL).count %[x|y]=(PC C).count %[-x|y]
 ne:∀c∈LL,c≠[]
section
variable {i:Nat}
def Ln.mem(h:Ln C LL)(q:%[x|y]∈PC C):%[-x|y]∈PC LL:=by rw[uy,h.cnt,bf];show uy.mp q
def uo{r:Ϝ}(hi:C[i]?=aB r)(h:q∈cp r):q∈PC C:=e9 bx (r,mGq hi,h)
theorem AE{r r':Ϝ}:∀{X:Λ}{i:Nat},X[i]?=aB r->(fb X i r').count []+(if r=[]then 1 else 0)=X.count []+(if r'=[]then 1 else 0)
 | [],_,h=>by simp at h
 |t::X,0,h=>by simp only[gJ,aB.injEq]at h;subst h;rw[eI,bS,bS];simp only[beq_iff_eq];rfl'
 |t::X,i+1,h=>by
  rw[fP,bS,bS];have:=AE (r':=r')<|by simpa using h
  lia
noncomputable def nL(C LL:Λ):Nat:=de LL+C.count []
def Vq{r L:Ϝ}(h:¬ L++r≠[]):r=[]/\L=[]:=by have:=Classical.not_not.mp h;rw[cR]at this;show(this.2,this.1)
def Ln.open(h:Ln C LL){r:Ϝ}(hi:C[i]?=aB (r++L))e:∃t,Ln (fb C i<|r++[e]++(-e::L)) t/\nL (fb C i<|r++[e]++(-e::L)) t=nL C LL+1:=by
 have H:=AE (r':=r++[e]++(-e::L)) hi;have Q:r++[e]++(-e::L)≠[]:=by simp
 rw[pW Q]at H;have st:=λx y=>yj (r':=r++[e]++(-e::L)) %[x|y] hi;have u:=λq=>rS r L q;have B:=λq=>rS (r++[e]++[-e]) L q;have J:r++[e]++(-e::L)=(r++[e]++[-e])++L:=by simp
 by_cases E:L++r≠[]
 .have(l',a,M):=tL E;have(f,I,O):=uv E;have P:cp (L++r)=pp (L++r)++[%[a|f]]:=sR M O;have R:cp (L++(r++[e]++[-e]))=pp (L++r)++[%[a|e],%[e|-e],%[-e|f]]:=by
   have S:L++(r++[e]++[-e])=(L++r)++[e, -e]:=by simp
   rw[S,sR (l:=(L++r)++[e, -e]) (a:=-e) (h:=f) (l':=(L++r)++[e]) (l'':=I++[e, -e]) ⋯<|by rw[O];rfl,tV M (r:=[e, -e]) rfl];simp[pp]
  have m:=h.mem (x:=a) (y:=f)<|uo hi<|bb.mp<|by rw[u,P,cAq];simp
  have(t,l1,U,k):=DT e m h.ne;show([-e]::t,(λx y=>?_,λc n=>?_),?_);.have s:=st (-x) y;rw[J,B,u,P,R]at s;have:=k x y;have n:=h.cnt x y;rw[pN,J];simp only[cAq,rO,bG,vV,bf]at s;have G:(cp [-e]).count %[x|y]=ct (-e) (-e) x y:=rfl;rw[G];lia
  .obtain rfl|n:=ae.mp n;.simp
   .show U c n
  .delta nL;have X:r++L≠[]:=λq=>E<|by rw[cR]at q ⊢;show(q.2,q.1)
   rw[pW X]at H;rw[lCq];lia
 .have(hr,Y):=Vq E;subst hr;subst Y;show([e]::[-e]::LL,(λx y=>?_,λc n=>?_),?_)
  .have s:=st (-x) y;have n:=h.cnt x y;rw[pN,pN];have G:∀z,(cp [z]).count %[x|y]=ct z z x y:=λZ=>rfl;have c3:(cp<|[]++[e]++(-e::[])).count %[-x|y]=ct e (-e) (-x) y+ct (-e) e (-x) y:=by change[%[e|-e],%[-e|e]].count %[-x|y]=_;rw[rO,ct_]
   have c4:(cp<|[]++[]).count %[-x|y]=0:=rfl;rw[c3,vV,vV,bf]at s;rw[G,G];lia
  .obtain rfl|n:=ae.mp n;.simp
   .obtain rfl|n:=ae.mp n;.simp
    .show h.ne c n
  .delta nL;rw[aNq,pZ rfl]at H;rw[lCq,lCq];lia
def Ln.newp(h:Ln C LL)(hn:c8 (bt C)){r:Ϝ}(hi:C[i]?=aB (r++L))(e:Int):∃n,Ln (fb C i (r++[e])++[-e::L]) n/\nL (fb C i (r++[e])++[-e::L]) n=nL C LL:=by
 have E:=AE (r':=r++[e]) hi;have n1:r++[e]≠[]:=by simp
 rw[pW n1]at E;have st:=λx y=>yj (r':=r++[e]) %[x|y] hi;have t:∀X,nL (fb C i (r++[e])++[-e::L]) X=de X+(fb C i<|r++[e]).count []:=λX=>by delta nL;rw[cAq];rfl
 have pn:∀x y,(PC<|fb C i (r++[e])++[-e::L]).count %[x|y]=(PC<|fb C i<|r++[e]).count %[x|y]+(cp<|-e::L).count %[x|y]:=λx y=>by rw[wF,pN];rfl
 by_cases hr:r=[]
 .subst hr;by_cases B:L=[]
  .subst B;show([e, -e]::LL,(λx y=>?_,λc G=>?_),?_)
   .have s:=st (-x) y;have G:=h.cnt x y;rw[pN,pn];have P:(cp [e, -e]).count %[x|y]=ct e (-e) x y+ct (-e) e x y:=by change[%[e|-e],%[-e|e]].count %[x|y]=_;rw[rO,ct_]
    have c3:(cp<|[]++[e]).count %[-x|y]=ct e e (-x) y:=rfl;have S:(cp [-e]).count %[-x|y]=ct (-e) (-e) (-x) y:=rfl;have c4:(cp ([]++[]:Ϝ)).count %[-x|y]=0:=rfl;rw[c3,c4]at s;rw[S,P];simp only[vV,bf]at s ⊢;lia
   .obtain rfl|G:=ae.mp G;.simp
    .show h.ne c G
   .rw[t];delta nL;rw[aNq,pZ rfl]at E;rw[lCq];lia
  .have(Q,l,H):=tL B;have(f,U,J):=uv B;have u:cp L=pp L++[%[l|f]]:=sR H J;rw[cA]at hi;have m:=h.mem (x:=l) (y:=f)<|uo hi<|bb.mp<|by rw[u,cAq];simp
   have(n,l1,M,I):=acm (W:=[-e,e]) (W'':=[-e]) rfl rfl m h.ne;show(n,(λx y=>?_,M),?_)
   .have s:=st (-x) y;have G:=h.cnt x y;have k:=I x y;rw[pn];have Y:cp (-e::L)=%[-e|f]::pp L++[%[l|-e]]:=by rw[sR (l:=-e::L) (a:=l) (h:=-e) (l':=-e::Q) (l'':=L) (by rw[H];rfl) rfl,show -e::L=[-e]++L from rfl,tV (l:=[-e]) (l':=[]) rfl J];rfl
    have s:(PC<|fb C i<|[]++[e]).count %[-x|y]+(cp L).count %[-x|y]=(PC C).count %[-x|y]+ct e e (-x) y:=s;rw[u]at s;rw[Y];simp only[cAq,rO,bG,vV,bf,pp,dF]at s k ⊢;lia
   .rw[t];delta nL;have E:(fb C i<|[]++[e]).count []+(if L=[]then 1 else 0)=C.count []+0:=E;rw[pW B]at E;lia
 .have(r',a,R):=tL hr;have(g,O,eg):=uv hr;have P:cp (r++[e])=pp r++[%[a|e],%[e|g]]:=by rw[sR (l:=r++[e]) (a:=e) (h:=g) (l':=r) (l'':=O++[e]) rfl<|by rw[eg];rfl,tV R (r:=[e]) rfl];simp[pp]
  by_cases B:L=[]
  .subst B;have u:cp r=pp r++[%[a|g]]:=sR R eg;rw[aNq]at hi;have m:=h.mem (x:=a) (y:=g)<|uo hi<|bb.mp<|by rw[u,cAq];simp
   have(n,l1,M,I):=acm (W:=[e, -e]) (W'':=[e]) rfl rfl m h.ne;show(n,(λx y=>?_,M),?_);.have s:=st (-x) y;have G:=h.cnt x y;have k:=I x y;rw[pn];have S:(cp [-e]).count %[-x|y]=ct (-e) (-e) (-x) y:=rfl;rw[aNq,u,P]at s;rw[S];simp only[cAq,rO,bG,vV,bf,pp]at s k ⊢;lia
   .rw[t];delta nL;rw[aNq,pW hr]at E;lia
  .have(Q,l,H):=tL B;have(f,U,J):=uv B;have u:cp (r++L)=pp r++%[a|f]::pp L++[%[l|g]]:=by rw[sR (l:=r++L) (a:=l) (h:=g) (l':=r++Q) (l'':=O++L) (by rw[H,af])<|by rw[eg];rfl,tV R J]
   have Y:cp (-e::L)=%[-e|f]::pp L++[%[l|-e]]:=by rw[sR (l:=-e::L) (a:=l) (h:=-e) (l':=-e::Q) (l'':=L) (by rw[H];rfl) rfl,show -e::L=[-e]++L from rfl,tV (l:=[-e]) (l':=[]) rfl J];rfl
   have m:=h.mem (x:=a) (y:=f)<|uo hi<|by rw[u];simp
   have m':=h.mem (x:=l) (y:=g)<|uo hi<|by rw[u];simp
   have(L1,l1,M,I):=DT e m h.ne;have al:a≠l:=λq=>by
    have:=hn.sublist<|aL<|mGq hi;have:=(nAq.mp this).2.2 a (by rw[R];simp) l<|by rw[H];simp
    show this q
   have m1:%[-l|g]∈PC L1:=e9 uy (by
    have k:=I (-l) g;have z:ct (-a) f (-l) g=0:=by delta ct;rw[cL];intro q;have:=mSq.mp q;rw[m8]at this;show al ∅
    have:=uy.mp m';lia);have(L2,l2,n3,k2):=DT (-e) m1 M;show(L2,(λx y=>?_,n3),?_);.have s:=st (-x) y;have G:=h.cnt x y;have k:=I x y;have k':=k2 x y;rw[pn];rw[u,P]at s;rw[Y];simp only[cAq,rO,bG,vV,bf,dF]at s k k' ⊢;lia
   .rw[t];delta nL;rw[pW<|by simp[hr]]at E;lia
end
end K18
open K18 renaming nL->Pv
namespace K18
open PySem L2 Mr Z Xe Zl K15 K16
section
variable {C:Λ}
theorem Ah:∀{l:List<|Int×Int},c8 (l.map (·.2))->∀{p q},p∈l->q∈l->p.2=q.2->p=q
 | [],_,_,_,h,_,_=>by cases h
 |w::l,h,x,y,E,u,e=>by
  have(z,G):=au.mp h;obtain B|s:=ae.mp E
  .obtain t|n:=ae.mp u;.rw[B,t]
   .rw[B]at e;show absurd (e9 mMq (y,n,fx e)) z
  .obtain t|n:=ae.mp u;.rw[t]at e;show absurd (e9 mMq (x,s,e)) z
   .show Ah G s n e
def zF(hn:c8 (bt C)){n:Nat}{s t:Ϝ}(l:C[n]?=aB s)(u:C[p]?=aB t)(z:x∈s)(B:x∈t):n=p:=by rw[←plc_eq hn l z,←plc_eq hn u B]
def Ln.back(h:Ln C LL)(hn:c8 (bt C))(B:n≠p){s t L:Ϝ}(E:C[n]?=aB ((-e::s)++L))(I:C[p]?=aB (t++[e])):∃G,Ln (fb (fb C n<|-e::s) p<|t++[e]++L) G/\nL (fb (fb C n<|-e::s) p<|t++[e]++L) G=nL C LL:=by
 have H:(fb C n<|-e::s)[p]?=aB (t++[e]):=by rw[ar B];show I
 have s1:=λx y=>yj (r':=-e::s) %[x|y] E;have s2:=λx y=>yj (r':=t++[e]++L) %[x|y] H;have t1:=AE (r':=-e::s) E;have t2:=AE (r':=t++[e]++L) H;rw[pW ⋯,pW ⋯]at t1 t2;by_cases J:L=[]
 .subst J;show(LL,(λx y=>?_,h.ne),?_);.have a:=s1 (-x) y;have b:=s2 (-x) y;have c:=h.cnt x y;rw[aNq]at a b ⊢;lia
  .delta nL;lia
 .have(l',l,el):=tL J;have(f,l'',M):=uv J;have(m',a,O):=tL<|show -e::s≠[] by simp
  have(g,p',P):=uv<|show t++[e]≠[] by simp
  have Q:cp ((-e::s)++L)=pp (-e::s)++%[a|f]::pp L++[%[l|-e]]:=by rw[sR (l:=(-e::s)++L) (a:=l) (h:=-e) (l':=(-e::s)++l') (l'':=s++L) (by rw[el,af]) rfl,tV O M]
  have c2:cp (-e::s)=pp (-e::s)++[%[a|-e]]:=sR O rfl;have c3:cp (t++[e])=pp (t++[e])++[%[e|g]]:=sR rfl P;have c4:cp (t++[e]++L)=pp (t++[e])++%[e|f]::pp L++[%[l|g]]:=by rw[sR (l:=t++[e]++L) (a:=l) (h:=g) (l':=t++[e]++l') (l'':=p'++L) (by rw[el];simp)<|by rw[P];rfl,tV (l:=t++[e]) rfl M]
  have q1:%[a|f]∈PC C:=uo E<|by rw[Q];simp
  have q2:%[l|-e]∈PC C:=uo E<|by rw[Q];simp
  have q3:%[e|g]∈PC C:=uo I<|by rw[c3];simp
  have R:-e∈(-e::s)++L:=by simp
  have S:g∈t++[e]:=by rw[P];show aa ..
  have U:f∈L:=by rw[M];show aa ..
  have X:a∈(-e::s)++L:=ai _<|by rw[O];simp
  have Y:g ≠ -e:=λq=>B<|zF hn E I R<|q ▸ S;have nr:=hn.sublist<|aL<|mGq E;have fne:f ≠ -e:=λq=>(nAq.mp nr).2.2 (-e) (aa ..) f U<|fx q;have ane:a≠e:=λq=>B<|zF hn E I (q ▸ X) ⋯;have(u,L1,mu,l1,n1,k1):=aad (h.mem q3) Y h.ne;have mu':%[-u|-e]∈PC C:=by rw[uy,←h.cnt];show uy.mp mu
  have eu:u = -l:=by have nd:c8 ((PC C).map (·.2)):=e9 (Eh C).nodup_iff hn;have:=Ah nd mu' q2 rfl;rw[m8]at this;lia
  subst eu;have zero:∀{u v x y:Int},¬ (u=x/\v=y)->ct u v x y=0:=λ{u v x y} q=>by delta ct;rw[cL];intro z;have:=mSq.mp z;rw[m8]at this;show q (fx this.1,fx this.2)
  have m1:%[-a|f]∈PC L1:=e9 uy (by have k:=k1 (-a) f;have z1:ct (-l) (-e) (-a) f=0:=zero λq=>fne<|fx q.2;have z2:ct (-e) g (-a) f=0:=zero λq=>ane ∅;have:=uy.mp<|h.mem q1;lia);have(L2,l2,n2,k2):=DT (-e) m1 n1;show(L2,(λx y=>?_,n2),?_);.have a1:=s1 (-x) y;have a2:=s2 (-x) y;have hc:=h.cnt x y;have k:=k1 x y;have k':=k2 x y;rw[Q,c2]at a1;rw[c3,c4]at a2;simp only[cAq,rO,bG,vV,bf,dF]at a1 a2 k k';lia
  .delta nL;lia
def Zr(h:%[x|y]∈cp r):∃j,r[j]?=aB x/\r[(j+1) % de r]?=aB y:=by cases r with
 |nil=>cases h
 |cons a r=>
  have key:∀{l:Ϝ},%[x|y]∈pp l->∃j,l[j]?=aB x/\l[j+1]?=aB y:=by intro l;induction l with
   |nil=>intro h;cases h
   |cons b l t=>cases l with
    |nil=>intro h;cases h
    |cons c l=>
     intro h;obtain e|h:=ae.mp<|show%[x|y]∈%[b|c]::pp (c::l)from h;.cases e;show(0,rfl,rfl)
     .have(j,s,n):=t h;show(j+1,by simpa using s,by simpa using n)
  have(j,s,n):=key<|show%[x|y]∈pp (a::r++[a])from h;have lt:=(gSq.mp n).1;rw[lAq,lSq]at lt;show(j,?_,?_);.rw[gZq<|by rfl']at s;show s
  .by_cases c:j+1<de (a::r);.rw[gZq c]at n;rw[fG c];show n
   .have e:j+1=de (a::r):=by lia
    rw[e,gYq<|ag _,cZ]at n;rw[e,gL];show n
def Dp(hn:c8 (bt X))(h:%[x|y]∈PC X):nx X x=y:=by have(r,hr,q):=bx.mp h;have(j,l,n):=Zr q;show HY hn hr l n
def Ln.flat(h:Ln C LL)(hneg:∀e∈C.flatten, -e∈C.flatten)(hn:C.flatten.Nodup):LL.flatten.Perm C.flatten:=by
 have n:=Eh LL;have s:=Eh C;show n.symm.trans<|aF.trans ?_ s;have:(PC LL).Perm<|(PC C).map λq=>%[-q.1|q.2]:=by show cF.mpr λq=>?_;have(x,y):=q;rw[h.cnt];generalize PC C=l;induction l with
  |nil=>rfl
  |cons p l t=>have(u,v):=p;rw[aq,rO,rO,t,vV]
 show(this.map (·.2)).trans ?_;rw[mPq];show .refl _
def Ln.orb(h:Ln C LL)(mp:Mp C):P8 (fw C) (bt C) LL:=by
 have s:=h.flat mp.hneg mp.hn;have nd:=e9 (lW s) mp.hn;have eq:∀x∈bt LL,nx LL x=fw C x:=λx t=>by
  rw[←Gu LL]at t;have((u,v),z,rfl):=mMq.mp t;have q:%[-u|v]∈PC C:=by rw[uy,←h.cnt];show uy.mp z
  change nx LL u=nx C (-u);rw[Dp nd z,Dp mp.hn q]
 show(λl hl=>?_,nd,λx=>eP s);have(a,G,B):=uv<|h.ne l hl;have cy:=ZY nd hl<|show l[0]?=aB a by rw[B];rfl
 have ha:a∈bt LL:=e9 mFq (l,hl,by rw[B];show aa ..);have same:∀n,itr (nx LL) n a=itr (fw C) n a:=λn=>by induction n with
  |zero=>rfl
  |succ n E=>change nx LL (itr (nx LL) n a)=fw C (itr (fw C) n a);rw[←E];show eq _<|(Z6 nd).itr_mem ha n
 show(a,cy.len,?_,?_,cy.nd);.have:=cy.get;rw[mCq λn Q=>same n]at this;show this
 .rw[←same];show cy.back
def Yl(r)q:(cp<|good r).count q=(cp r).count q:=by skip;change(cp<|r.drop _++r.take _).count q=_;rw[rS,aV]
def Ln.rows(h:Ln C LL):Ln (CD<|C.map good) LL:=by show(λx y=>?_,h.ne);rw[h.cnt,tD<|ue _];generalize C=X;induction X with
 |nil=>rfl
 |cons r X l=>rw[pN,aq,pN,Yl,l]
end
end K18
namespace K23
open PySem L2 Mr Z Xe Zl
noncomputable def vG(z:Int)(t:Ϝ):Ϝ:=t.filter λe=>!decide (e∈[z, -z])
def C(z:Int)(l:Λ):Λ:=l.map<|vG z
def FQ:bt (C z rs)=vG z (bt rs):=by delta C vG;rw[jC]
end K23
open K23 renaming C->ft,vG->oK,FQ->aAt
namespace K25
open PySem L2 Mr Z Xe Zl K15 K16
def Rt(rs:Λ)(x:Int)(w:Ϝ):Prop:=∃u v,u++x::v∈rs/\w=v++u
def Rt.of(h:x∈bt rs):∃w,Rt rs x w:=by have(r,hr,l):=mFq.mp h;have(u,v,rfl):=bu l;show(v++u,u,v,hr,rfl)
def Rt.row(h:Rt rs x w):∃r∈rs,∀y,y∈r↔y∈x::w:=by have(u,v,hr,rfl):=h;show(_,hr,λy=>eP (ay (l₁:=x::v) (l₂:=u)).symm)
def Rt.to(hn:c8 (bt rs))(h:Rt rs x w):nx rs x=XA w x:=by have(u,v,hr,rfl):=h;show HY hn hr (j:=de u) ⋯ ?_;cases v with
 |nil=>rw[show(de (u++[x]))=de u+1 by simp,gL];cases u <;> rfl
 |cons y v=>rw[fG ⋯];simp
noncomputable def pz(z e:Int):Bool:=!decide (e∈[z, -z])
def trg(z:Int)(f:Int->Int)(x:Int):Int:=if pz z (f x)=t_ then f x else if pz z (f<|-f x)=t_ then f (-f x)else f<|-f (-f x)
structure Due (rs:Λ)(z:Int)(D:Λ):Prop where
 nd:D.flatten.Nodup
 mem:∀x,x∈D.flatten↔x∈rs.flatten/\pz z x=t_
 on:∀x∈D.flatten,nx D x=trg z (nx rs) x
 br:bare D=bare rs+((if nx rs (-z)=z then 1 else 0)+(if nx rs z = -z then 1 else 0)+(if nx rs (-z) = -z/\nx rs z=z then 1 else 0))
 len:D.length<=rs.length+2
end K25
namespace K43
open PySem L2 Mr Z Xe Zl
open K51 (rX Ps Pc)
section
variable {B:Λ}
def xP(h:Mp rs):y8 rs:=(h.hn,h.hl,h.hr,p9 h)
def WY e:aAd rs e=plc rs e:=rfl
structure Ind (rs:Λ)(l:Θ):Prop where
 lt:∀k∈l,k<rs.length
 pw:l.Pairwise λa b=>¬ rX rs a b
def Ind.nd(h:Ind rs l):c8 l:=by show h.pw.imp<|λ{a b} n (e:a=b)=>n<|e ▸ (vr)
def Ua{PS:List Θ}(h:∃ps∈PS,k∈ps):∃ps,PS[PS.findIdx λp=>decide<|k∈p]?=aB ps/\k∈ps:=by have(ps,l,n):=h;have hl:PS.findIdx (λp=>decide<|k∈p)<de PS:=fg (ps,l,d5 n);have s:=gi (xs:=PS) (p:=λp=>decide<|k∈p) (w:=hl);show(_,gEg hl,of_decide_eq_true s)
def BC(H:Mp rs){PS}(u:Ps rs (de rs) kn PS)(h:Ind rs l):de l<=de PS:=by have hf:∀k∈l,∃E,PS[PS.findIdx λp=>decide<|k∈p]?=aB E/\k∈E:=λk hk=>Ua<|u.mem k<|u.all k<|h.lt k hk;have:=aAy (de PS) (l.map λk=>PS.findIdx λp=>decide<|k∈p) (by rw[cg,bO];show bz.imp_of_mem (λ{a b} ha hb n e=>n ?_) h.pw;have(p,t,I):=hf a ha;have(q,G,J):=hf b hb;rw[e,G]at t;have z:=aB.inj t;subst z;have(s,_,pc):=u.pc q<|mGq G;show(sX (K51.rX.symm (xP H)<|(pc.iff a).mp I))<|(pc.iff b).mp J) (λx L=>by have(k,hk,rfl):=mMq.mp L;have(p,t,_):=hf k hk;show(gSq.mp t).1);rwa [lMq]at this
def abV{ps:Θ}(h:ps≠[]):XA ps 0∈ps:=by cases ps with
 |nil=>show absurd rfl h
 |cons a ps=>show aa ..
def J9(E:Mp rs){PS}(u:Ps rs (de rs) kn PS):∃l,Ind rs l/\de l=de PS/\∀k,k<de rs->∃r∈l,rX rs k r:=by
 have t:∀n∈PS,XA n 0∈n:=λn h=>abV λe=>by have(s,_,pc):=u.pc n h;have:=e9 (pc.iff s) vr;rw[e]at this;cases this
 have cls:∀n∈PS,∀a∈n,∀b,rX rs a b->b∈n:=λn h a ha b x=>by have(s,_,pc):=u.pc n h;show(pc.iff b).mpr<|sX ((pc.iff a).mp ha) x
 show(PS.map λn=>XA n 0,(λk hk=>?_,?_),lMq _,λk hk=>?_);.have(n,h,rfl):=mMq.mp hk;show u.lt _<|u.sub n h _<|t n h
 .rw[bO];show bz.imp_of_mem (λ{a b} ha hb d r=>?_) u.dj;show d _ (cls a ha _ (t a ha) _ r)<|t b hb
 .have(n,z,G):=u.mem k<|u.all k hk;show(_,e9 mMq (n,z,rfl),?_);have(s,_,pc):=u.pc n z;show(sX (K51.rX.symm (xP E)<|(pc.iff k).mp G))<|(pc.iff _).mp<|t n z
theorem UT(z:∀{a b},R a b->R b a):∀{l:Θ},l.Pairwise R->∀{a b},a∈l->b∈l->a≠b->R a b
 | [],_,a,b,ha,_,_=>by cases ha
 |x::l,h,a,b,ha,hb,n=>by
  have(E,H):=cW.mp h;obtain G|t:=ae.mp ha
  .obtain u|s:=ae.mp hb;.show absurd (fq G<|fx u) n
   .rw[G];show E b s
  .obtain u|s:=ae.mp hb;.rw[u];show z<|E a t
   .show UT z H t s n
def Da{k:Nat}{r:Ϝ}(h:M[k]?=aB r):(ft z M)[k]?=aB (oK z r):=by delta ft;rw[gMq,h];rfl
def vP:e∈oK z r↔e∈r/\e≠z/\e ≠ -z:=by delta oK;rw[ax];simp
def wt:e∈bt (ft z M)↔e∈bt M/\e≠z/\e ≠ -z:=by rw[aAt];show vP
def zb(l:Mp M):Mp<|ft z M:=by
 have s:de (ft z M).flatten<=de (bt M):=by rw[aAt];show cU _ _
 show(by rw[aAt];show bz.sublist bH l.hn,by have:=l.hl;lia,by delta ft;rw[lMq];show l.hr,λe n=>?_);have h:=wt.mp n;show e9 wt (p9 l e h.1,by lia,by lia)
def LR(l:Mp M)(h:e∈bt (ft z M)):plc (ft z M) e=plc M e:=by have(r,n,s):=l.at (wt.mp h).1;show plc_eq (zb l).hn (Da n)<|e9 vP (s,(wt.mp h).2)
def ya:de (ft z M)=de M:=by delta ft;rw[lMq]
def Qq(n:Mp M)(h:rX (ft z M) i j):rX M i j:=by induction h with
 |base=>show vr
 | @step k r e _ l s t=>
  have hk:k<de M:=by rw[←ya (z:=z)];show(gSq.mp l).1
  have hr:M[k]?=aB M[k]:=gEg hk;rw[Da hr]at l;cases l;have u:e∈bt (ft z M):=e9 mFq (_,mGq<|Da hr,s);have hn:=p9 (zb n) e u;have:aAd (ft z M) (-e)=aAd M (-e):=LR n hn;rw[this];show TF t hr (vP.mp s).1
def ac9(t:Mp M)(hz:z∈bt M)(h:rX M i j):rX (ft z M) i j∨(rX (ft z M) i (plc M z)/\rX (ft z M) (plc M<|-z) j)∨(rX (ft z M) i (plc M<|-z)/\rX (ft z M) (plc M z) j):=by have hw:=xP<|zb (z:=z) t;induction h with
 |base=>show jE vr
 | @step k r e _ s x E=>
  by_cases G:e=z
  .subst G;have hk:plc M e=k:=plc_eq t.hn s x;change _∨_∨_;rw[WY];obtain q|⟨l,n⟩|⟨l,n⟩:=E;.show iq<|jE (hk ▸ q,vr)
   .rw[←hk]at n;show jE<|sX l<|n.symm hw
   .show jE l
  .by_cases H:e = -z
   .subst H;have hk:plc M (-z)=k:=plc_eq t.hn s x;rw[WY,bf];obtain q|⟨l,n⟩|⟨l,n⟩:=E;.show iq<|iq (hk ▸ q,vr)
    .show jE l
    .rw[←hk]at n;show jE<|sX l<|n.symm hw
   .have u:e∈oK z r:=e9 vP (x,G,H);have hf:e∈bt (ft z M):=e9 mFq (_,mGq<|Da s,u);have I:plc (ft z M) (-e)=plc M (-e):=LR t<|p9 (zb t) e hf;rw[WY,←I];obtain q|⟨l,n⟩|⟨l,n⟩:=E;.show jE<|TF q (Da s) u
    .show iq<|jE (l,TF n (Da s) u)
    .show iq<|iq (l,TF n (Da s) u)
def Ek(s:Mp M)(hz:z∈bt M)(hb:rX (ft z M) (plc M z)<|plc M<|-z){PS}(H:Ps M (de M) kn PS)(u:Ps (ft z M) (de (ft z M)) x t):de t=de PS:=by
 have hw:=xP<|zb (z:=z) s;have key:∀{i j},rX M i j->rX (ft z M) i j:=λ{i j} h=>by
  obtain q|⟨E,G⟩|⟨E,G⟩:=ac9 s hz h;.show q
  .show(sX (sX E hb)) G
  .show(sX (sX E<|hb.symm hw)) G
 have(l,i1,J,_):=J9 s H;have(I,i2,L,_):=J9 (zb s) u;have a:=BC (zb s) u (l:=l) (λk hk=>by rw[ya];show i1.lt k hk,i1.pw.imp λn h=>n<|Qq s h);have b:=BC s H (l:=I) (λk hk=>by rw[←ya (z:=z)];show i2.lt k hk,i2.pw.imp λn h=>n<|key h);lia
def Em(s:Mp M)(hz:z∈bt M)(hb:¬ rX (ft z M) (plc M z) (plc M<|-z)){PS}(X:Ps M (de M) kn PS)(I:Ps (ft z M) (de (ft z M)) O H):de H=de PS+1:=by
 have hw:=xP<|zb (z:=z) s;have u:=xP s;have P:=p9 s z hz;have zm:rX M (plc M z)<|plc M<|-z:=by have(r,h1,h2):=s.at hz;show TF vr h1 h2
 have(l,i1,l1,c1):=J9 s X;have(E,i2,l2,_):=J9 (zb s) I;have b:=BC s X (l:=E.filter λk=>!@decide (rX (ft z M) (plc M<|-z) k) (aK _)) (λk hk=>by rw[←ya (z:=z)];show i2.lt k (ax.mp hk).1,by
  have G:=i2.pw.sublist<|bH (p:=λk=>!@decide (rX (ft z M) (plc M<|-z) k) (aK _));show bz.imp_of_mem (λ{x y} Q hy n h=>?_) G;have nx:¬ rX (ft z M) (plc M<|-z) x:=by simpa using (ax.mp Q).2
  have ny:¬ rX (ft z M) (plc M<|-z) y:=by simpa using (ax.mp hy).2
  obtain q|⟨Y,q2⟩|⟨Y,q2⟩:=ac9 s hz h;.show n q
  .show ny q2
  .show nx<|Y.symm hw);have few:de (E.filter λk=>@decide (rX (ft z M) (plc M<|-z) k)<|aK _)<=1:=by
  have G:=i2.pw.sublist<|bH (p:=λk=>@decide (rX (ft z M) (plc M<|-z) k)<|aK _);have t:∀x∈E.filter λk=>@decide (rX (ft z M) (plc M<|-z) k)<|aK _,rX (ft z M) (plc M<|-z) x:=λx Q=>by simpa using (ax.mp Q).2
  generalize (E.filter λk=>@decide (rX (ft z M) (plc M<|-z) k)<|aK _)=L at G t;match L,G,t with
  | [],_,_=>show aY _
  | [x],_,_=>show ag _
  |x::y::L,G,t=>show absurd (sX ((t x ⋯).symm hw)<|t y ⋯)<|(cW.mp G).1 y ⋯
 have J:=fh (p:=λk=>@decide (rX (ft z M) (plc M<|-z) k)<|aK _) (l:=E);rw[cG,cG]at J;have e1:(E.filter λa=>decide ¬ (@decide (rX (ft z M) (plc M<|-z) a)<|aK _)=t_)=E.filter λk=>!@decide (rX (ft z M) (plc M<|-z) k) (aK _):=by congr 1;funext k;rw[bL];simp
 have(r,hr,ra):=c1 (plc M z)<|s.lt hz;have a:=BC (zb s) I (l:=plc M z::plc M (-z)::l.erase r) (λk hk=>by
   rw[ya];obtain rfl|hk:=ae.mp hk;.show s.lt hz
   .obtain rfl|hk:=ae.mp hk;.show s.lt P
    .show i1.lt k<|jq hk,by
  have out:∀k∈l.erase r,¬ rX M r k:=λk hk h=>by
   have S:r≠k:=λe=>by subst e;show(List.Nodup.not_mem_erase i1.nd) hk
   have U:=jq hk;show UT (R:=λa b=>¬ rX M a b) (λn c=>n<|c.symm u) i1.pw hr U S h
  show e9 cW (λk hk q=>?_,e9 cW (λk hk q=>?_,(i1.pw.sublist List.erase_sublist).imp λn h=>n<|Qq s h))
  .obtain rfl|hk:=ae.mp hk;.show hb q
   .show out k hk<|sX (ra.symm u)<|Qq s q
  .show out k hk<|sX (ra.symm u)<|sX zm<|Qq s q);have le:=gB hr;have lp:=dh hr;rw[lCq,lCq,le]at a;rw[e1]at J;lia
noncomputable def emp(B:Λ):Θ:=(aH<|de B).filter λk=>decide<|cn B k []=[]
def getD_some(h:k<de B):B[k]?=aB (cn B k []):=by rw[gDq,gEg h];rfl
def uA(B:Λ):(aH<|de B).map (λk=>cn B k [])=B:=by
 show df λi=>?_;rw[gMq];by_cases h:i<de B;.rw[du h,getD_some h];rfl
 .rw[bo<|by rw[aX];lia,bo ∅];rfl
def FA B:de (emp B)=bare B:=by
 delta emp bare;rw[←cG];have:B.countP (λr=>decide<|r=[])=((aH<|de B).map<|λk=>cn B k []).countP (λr=>decide<|r=[]):=by rw[uA]
 rw[this,jj];rfl
def CZ:k∈emp B↔k<de B/\cn B k []=[]:=by delta emp;rw[ax,bF];simp
def E8(h:rX B k j)(l:cn B k []=[]):j=k:=by induction h with
 |base=>rfl
 | @step u r e x s n t=>have:=t;subst this;rw[gDq,s]at l;rw[show r=[]from l]at n;cases n
end
end K43
namespace K31
open PySem L2 Mr Z Xe Zl
open K12 (nmk)
end K31
namespace K43
open PySem L2 Mr Z Xe Zl
open K51 (rX Ps Pc)
def MC(M:Λ)(z:Int):Bool:=@decide (¬ rX (ft z M) (plc M z) (plc M<|-z))<|aK _
def rds(M:Λ):Ϝ:=(vH<|bt M).filter λz=>decide<|0<z
end K43
namespace K46
open PySem L2 Mr Z Xe Zl
open K18 (pp cp PC tV sR tL uv rS Eh pN wF yj ct vV ct_ rO uy Ln nL uo AE Ah)
def Su(n:x∈c)(s:y∈c)(ne:x≠y):∃X Y:Ϝ,(∀q,(cp<|x::X++y::Y).count q=(cp c).count q):=by
 have(a,b,rfl):=bu n;have t:=λq=>rS a (x::b) q;have l:y∈b++a:=by
  obtain h|h:=mAq.mp s;.show ah _ h
  .obtain h|h:=ae.mp h;.show absurd h.symm ne
   .show ai _ h
 have(X,Y,e):=bu l;show(X,Y,λq=>?_);rw[t q];change(cp<|x::X++y::Y).count q=(cp<|x::(b++a)).count q;rw[e];rfl
def Ck(A B:Ϝ)x y:∃s t:Int,(∀u v,(cp<|x::A++y::B).count %[u|v]=(pp<|x::A).count %[u|v]+(pp<|y::B).count %[u|v]+ct s y u v+ct t x u v)/\(∀u v,(cp<|x::A).count %[u|v]=(pp<|x::A).count %[u|v]+ct s x u v)/\∀u v,(cp<|y::B).count %[u|v]=(pp<|y::B).count %[u|v]+ct t y u v:=by
 have(E,s,n):=tL<|show x::A≠[] by simp
 have(G,t,z):=tL<|show y::B≠[] by simp
 show(s,t,λu v=>?_,λu v=>?_,λu v=>?_);.rw[sR (l:=x::A++y::B) (by rw[z,af]) rfl,tV n rfl];simp only[cAq,rO,bG];rfl'
 .rw[sR n rfl];simp only[cAq,rO,bG];lia
 .rw[sR z rfl];simp only[cAq,rO,bG];lia
def wc u v:ct u v u v=1:=by delta ct;simp
def Ln.split(h:Ln C LL)(hn:c8 (bt C))(hneg:∀e∈bt C, -e∈bt C){r A B:Ϝ}(hi:C[i]?=aB r)(hr:∀q,(cp<|x::A++y::B).count q=(cp r).count q)(ne:x≠y){c:Ϝ}(M:c∈LL)(P:x∈c)(Q:y∈c):∃n,Ln (fb C i (x::A)++[y::B]) n/\nL (fb C i (x::A)++[y::B]) n=nL C LL+1:=by
 have(s,t,G,R,S):=Ck A B x y;have(X,Y,H):=Su P Q ne;have(l,I,J,U,m3):=Ck X Y x y;have(j,hj):=aC.mp M;have nd:c8 ((PC C).map (·.2)):=e9 (Eh C).nodup_iff hn;have z:∀{u v:Int},0<(cp r).count %[u|v]->%[u|v]∈PC C:=λq=>uo hi<|bb.mp q;have q1:%[s|y]∈PC C:=z<|by rw[←hr,G];have:=wc s y;lia
 have q2:%[t|x]∈PC C:=z<|by rw[←hr,G];have:=wc t x;lia
 have E:∀{u v:Int},0<(cp c).count %[u|v]->%[-u|v]∈PC C:=λ{u v} q=>by have:%[u|v]∈PC LL:=e9 bx (c,M,bb.mp q);rw[uy,←h.cnt];show uy.mp this
 have q3:%[-l|y]∈PC C:=E<|by rw[←H,J];have:=wc l y;lia
 have q4:%[-I|x]∈PC C:=E<|by rw[←H,J];have:=wc I x;lia
 have es:s = -l:=congrArg (·.1)<|Ah nd q1 q3 rfl;have et:t = -I:=congrArg (·.1)<|Ah nd q2 q4 rfl;subst es;subst et;have L:r≠[]:=λq=>by subst q;have:=hr %[-l|y];rw[G]at this;have:=wc (-l) y;have e0:(cp<|[]).count %[-l|y]=0:=rfl;lia
 have cs:=AE (r':=x::A) hi;rw[pW L,pW ⋯]at cs;show(fb LL j (x::X)++[y::Y],(λu v=>?_,λd hd=>?_),?_);.have a1:=yj (r':=x::X) %[u|v] hj;have O:=yj (r':=x::A) %[-u|v] hi;have a3:=h.cnt u v;rw[wF,wF,pN,pN];have z1:(PC<|[]).count %[u|v]=0:=rfl;have z2:(PC<|[]).count %[-u|v]=0:=rfl;rw[←H,J,U]at a1;rw[←hr,G,R]at O;rw[m3,S];simp only[vV,bf]at O ⊢;lia
 .obtain hd|hd:=mAq.mp hd
  .obtain q|q:=dG hd;.show h.ne d q
   .rw[q];simp
  .rw[mSq.mp hd];simp
 .delta nL;rw[cAq,lAq,lZq];have:([y::B]).count []=0:=by rfl
  change _+1+_=_;lia
end K46
namespace K18
open PySem L2 Mr Z Xe Zl
open K15 (nx fw DV Rd Ea)
open K43 (xP Da vP wt zb LR ya MC BC emp FA CZ E8)
open K46 (Su Ck wc)
open K51 (rX Ps)
def XH(one:One f E):∃L,P8 f E L:=by
 have key:∀n,∃kn L,Rd f E kn L/\∀x∈E.take n,x∈kn:=by intro n;induction n with
  |zero=>show([],[],(by simp,rfl,bA,by simp,by simp),by simp)
  |succ n B=>have(kn,L,s,h):=B;cases u:E[n]? with
   |none=>rw[eV,u];show(kn,L,s,by simpa using h)
   |some e=>
    have t:=mGq u;rw[sU u];by_cases c:e∈kn
    .show(kn,L,s,λx z=>?_);obtain q|q:=mAq.mp z;.show h x q
     .rw[mSq.mp q];show c
    .have(l,cy,_):=one.cy t;show(kn++l,L++[l],s.add one cy t c,λx z=>?_);obtain q|q:=mAq.mp z;.show ai _<|h x q
     .rw[mSq.mp q];show ah _ cy.self
 have(kn,L,s,h):=key<|de E;rw[bC]at h;show(L,s.orb h)
def ab6(hn:c8 (bt C)):%[u|y]∈PC C↔u∈bt C/\y=nx C u:=by
 constructor;.intro h;show(?_,fx (Dp hn h));rw[←Gu C];show e9 mMq (_,h,rfl)
 .rintro⟨h,rfl⟩;rw[←Gu C]at h;have((a,b),l,rfl):=mMq.mp h;rw[Dp hn l];show l
def aau(o:P8 f E L):%[x|y]∈PC L↔x∈E/\y=f x:=by
 have to:∀{x y:Int},%[x|y]∈PC L->x∈E/\y=f x:=λ{x y} h=>by
  have(l,hl,q):=bx.mp h;have(e,c):=o.cy l hl;have(j,n,t):=Zr q;have u:=(gSq.mp n).1;show((o.all x).mp<|e9 mFq (l,hl,mGq n),?_);rw[c.at u]at n;have ex:=aB.inj n;by_cases s:j+1<de l;.rw[fG s,c.at s]at t;rw[←ex];show(aB.inj t).symm
  .have B:j+1=de l:=by rfl'
   rw[B,gL,c.at ∅]at t;have:=c.back;rw[←B]at this;rw[←ex,←aB.inj t];show fx this
 constructor;.show to
 .rintro⟨h,rfl⟩;have:x∈(PC L).map (·.1):=by rw[Gu];show(o.all x).mpr h
  have((a,b),G,rfl):=mMq.mp this;rw[← (to G).2];show G
def aaY{A B:List<|Int×Int}(l:c8 A)(n:c8 B)(h:p∈A↔q∈B):A.count p=B.count q:=by
 by_cases c:p∈A;.have s:=bP.mp l p;have t:=bP.mp n q;have b1:=e9 bb c;have b2:=e9 bb<|h.mp c;lia
 .rw[e9 cL c,e9 cL λz=>c<|e9 h z]
def Zn(hn:c8 (bt C)):c8 (PC C):=by
 have:c8 ((PC C).map (·.1)):=by rw[Gu];show hn
 show bz.of_map (·.1) (λa b h q=>h<|by rw[q]) this
def aaM(mp:Mp C)(o:P8 (fw C) (bt C) L):Ln C L:=by
 show(λx y=>aaY (Zn o.dj) (Zn mp.hn) ?_,λc l q=>?_)
 .rw[aau o,ab6 mp.hn];constructor;.show λh=>(p9 mp x h.1,h.2)
  .rintro⟨n,s⟩;have:=p9 mp _ n;rw[bf]at this;show(this,s)
 .have(e,cy):=o.cy c l;have:=cy.len;rw[q]at this;simp at this
def wC(mp:Mp C):∃LL,Ln C LL:=by have(L,o):=XH<|DV mp;show(L,aaM mp o)
def Ln.one(mp:Mp C)(h:Ln C LL)(h':Ln C l):nL C LL=nL C l:=by have p:=d9 (P8.perm (DV mp) (h.orb mp)<|h'.orb mp);rw[lMq,lMq]at p;delta nL;rw[p]
def Ln.congr(h:Ln C LL)(e:∀q,(PC l).count q=(PC C).count q):Ln l LL:=(λx y=>by rw[e];show h.cnt x y,h.ne)
def Ln.join{A B c G:Ϝ}{R:Λ}(h:Ln ((x::A++y::B)::R) LL)(hn:c8 ((x::A++y::B)::R).flatten)(J:c∈LL)(n:G∈LL)(ne:c≠G)(L:x∈c)(hy:y∈G):∃E,Ln ((x::A)::(y::B)::R) E/\nL ((x::A)::(y::B)::R) E+1=nL ((x::A++y::B)::R) LL/\∃d∈E,x∈d/\y∈d:=by
 have(s,t,M,k2,k3):=Ck A B x y;have rot:∀{c:Ϝ}{x:Int},x∈c->∃X:Ϝ,∀q,(cp<|x::X).count q=(cp c).count q:=λ{c x} L=>by have(a,b,rfl):=bu L;show(b++a,λq=>fx (rS a (x::b) q))
 have(X,S):=rot L;have(Y,U):=rot hy;have(s',t',m1,m2,m3):=Ck X Y x y;have nd:c8 ((PC<|(x::A++y::B)::R).map (·.2)):=e9 (Eh _).nodup_iff hn;have H:∀{u v:Int},0<(cp<|x::A++y::B).count %[u|v]->%[u|v]∈PC ((x::A++y::B)::R):=λq=>uo (i:=0) rfl<|bb.mp q;have q1:=H (u:=s) (v:=y)<|by rw[M];have:=wc s y;simp +arith[*]
 have q2:=H (u:=t) (v:=x)<|by rw[M];have:=wc t x;simp +arith[*]
 have I:∀{c:Ϝ}{u v:Int},c∈LL->0<(cp c).count %[u|v]->%[-u|v]∈PC ((x::A++y::B)::R):=λ{c u v} J q=>by have:%[u|v]∈PC LL:=e9 bx (c,J,bb.mp q);rw[uy,←h.cnt];show uy.mp this
 have q3:=I J (u:=s') (v:=x)<|by rw[←S,m2];have:=wc s' x;lia
 have q4:=I n (u:=t') (v:=y)<|by rw[←U,m3];have:=wc t' y;lia
 have es:=congrArg (·.1)<|Ah nd q2 q3 rfl;have et:=congrArg (·.1)<|Ah nd q1 q4 rfl;subst es;subst et;have(l1,l2,e1):=bu J;have O:G∈l1++l2:=by
  rw[e1]at n;obtain q|q:=mAq.mp n;.show ai _ q
  .obtain q|q:=ae.mp q;.show absurd q.symm ne
   .show ah _ q
 have(m4,m5,e2):=bu O;have P:aF LL<|c::G::(m4++m5):=by rw[e1];show m9 fJ<|aF.cons _ ?_;rw[e2];show fJ
 show((x::X++y::Y)::(m4++m5),(λu v=>?_,λd hd=>?_),?_,_,aa ..,by simp,by simp);.have a1:=tD P %[u|v];have Q:=h.cnt u v;rw[pN,pN]at a1;rw[pN]at Q ⊢;rw[pN,pN];rw[←S,←U,m2,m3]at a1;rw[M]at Q;rw[m1,k2,k3];simp only[vV,bf]at Q ⊢;lia
 .obtain rfl|hd:=ae.mp hd;.simp
  .show h.ne d<|e9 (eP P)<|by simp only[ae];show iq<|iq hd
 .unfold nL;have l:=d9 P;simp only[lCq,bS]at l ⊢;have n1:(x::A == ([]))=f_:=rfl;have n2:(y::B == ([]))=f_:=rfl;have n3:(x::A++y::B == ([]))=f_:=rfl;rw[n1,n2,n3];simp only[eG,if_false];lia
def Ln.loop{A B:Ϝ}{R:Λ}(h:Ln ((x::A)::(y::B)::R) LL)(ne:x≠y)z:∃n,Ln ((z::x::A ++ -z::y::B)::R) n/\nL ((z::x::A ++ -z::y::B)::R) n=nL ((x::A)::(y::B)::R) LL:=by
 have(s,t,k1,E,G):=Ck A B x y;have(s2,t2,M,O,P):=Ck (x::A) (y::B) z<|-z;have Q:∀u v,(pp<|z::x::A).count %[u|v]=ct z x u v+(pp<|x::A).count %[u|v]:=λu v=>by change(%[z|x]::pp (x::A)).count %[u|v]=_;rw[rO]
 have S:∀u v,(pp<|-z::y::B).count %[u|v]=ct (-z) y u v+(pp<|y::B).count %[u|v]:=λu v=>by change(%[-z|y]::pp (y::B)).count %[u|v]=_;rw[rO]
 have lst:∀{w:Int}{l:Ϝ}{a b c:Int},(∀u v,(cp<|a::l).count %[u|v]=(pp<|a::l).count %[u|v]+ct b a u v)->(∀u v,(cp<|w::a::l).count %[u|v]=(pp<|w::a::l).count %[u|v]+ct c w u v)->b=c:=λ{w l a b c} h1 h2=>by
  have(U,k,J):=tL<|show a::l≠[] by simp
  have X:=sR J rfl;have Y:=sR (l:=w::a::l) (a:=k) (h:=w) (l':=w::U) (l'':=a::l) (by rw[J];rfl) rfl;have f1:=h1 k a;have f2:=h2 k w;rw[X,cAq,ct_]at f1;rw[Y,cAq,ct_]at f2;have o1:=wc k a;have o2:=wc k w;have g:∀{p q r s:Int},0<ct p q r s->p=r:=λ{p q r s} hp=>by skip;have:=mSq.mp<|bb.mp hp;show(congrArg (·.1) this).symm
  rw[g (p:=b) (q:=a) (r:=k) (s:=a) ∅,g (p:=c) (q:=w) (r:=k) (s:=w) ∅]
 have es:=lst E O;have et:=lst G P;subst es;subst et;have m1:%[-s|x]∈PC LL:=h.mem<|uo (i:=0) rfl<|bb.mp<|by rw[E];have:=wc s x;lia
 have m2:%[-t|y]∈PC LL:=h.mem<|uo (i:=1) rfl<|bb.mp<|by rw[G];have:=wc t y;lia
 have(L1,l1,H,i1):=DT (-z) m1 h.ne;have m3:%[-t|y]∈PC L1:=e9 uy (by
  have:=i1 (-t) y;have z0:ct (-s) x (-t) y=0:=by delta ct;rw[cL];intro q;have:=mSq.mp q;rw[m8]at this;show ne<|fx this.2
  have:=uy.mp m2;lia);have(L2,l2,I,i2):=DT z m3 H;show(L2,(λu v=>?_,I),?_);.have a1:=i1 u v;have a2:=i2 u v;have L:=h.cnt u v;rw[pN,pN,E,G]at L;simp only[pN,M,Q,S];simp only[vV,bf]at L ⊢;lia
 .delta nL;simp only[lCq,bS];have H:(x::A == ([]))=f_:=rfl;have I:(y::B == ([]))=f_:=rfl;have n3:(z::x::A ++ -z::y::B == ([]))=f_:=rfl;rw[H,I,n3];skip;simp +arith[*]
end K18
open K18.Ln renaming one->A1
namespace K18
open PySem L2 Mr Z Xe Zl
open K15 (nx fw DV Ea)
open K16 (HY)
open K43 (xP Da vP wt zb LR ya MC BC emp FA CZ E8)
open K46 (Ln.split)
open K51 (rX Ps)
section
variable {M:Λ}{p:Nat}{r:Ϝ}
def abl(n:Mp M)(hr:M[p]?=aB r)(s:e∈r):nx M e∈r:=by have(j,l):=aC.mp s;have t:=(gSq.mp l).1;have lt:(j+1) % de r<de r:=kc _ ∅;rw[HY n.hn (mGq hr) l<|gEg lt];show gRq _
def IR(l:e∈bt M):∃(k:Nat) (s:Ϝ),M[k]?=aB s/\e∈s:=by have(s,n,h):=mFq.mp l;have(k,hk):=aC.mp n;show(k,s,hk,h)
def U7(l:Mp M)(h:Ln M LL){d:Ϝ}(hd:d∈LL)(H:x∈d)(I:y∈d):rX M (plc M x)<|plc M y:=by
 have o:=h.orb l;have(e,c):=o.cy d hd;have(i,hi):=aC.mp H;have u:=(gSq.mp hi).1;rw[c.at u]at hi;have J:=c.rot u;rw[aB.inj hi]at J;have E:y∈d.drop i++d.take i:=by
  rw[←aV i d]at I;obtain q|q:=mAq.mp I;.show ah _ q
  .show ai _ q
 have(n,hn):=aC.mp E;rw[J.at (gSq.mp hn).1]at hn;rw[←aB.inj hn];have G:x∈bt M:=(o.all x).mp<|e9 mFq (d,hd,H);have go:∀n,rX M (plc M x)<|plc M<|itr (fw M) n x:=by intro n;induction n with
  |zero=>show vr
  |succ n L=>have O:=(DV l).itr_mem G n;have(k,s,hk,P):=IR O;have(Q,U,t,B):=IR<|p9 l _ O;rw[plc_eq l.hn hk P]at L;have st:=TF L hk P;have R:aAd M (-(itr (fw M) n x))=Q:=plc_eq l.hn t B;have S:plc M (itr (fw M) (n+1) x)=Q:=plc_eq l.hn t<|abl l t B;rw[S,←R];show st
 show go n
theorem PV:∀{M:Λ}{i:Nat},M[i]?=aB r->aF M (r::ef M i)
 | [],_,h=>by simp at h
 |t::M,0,h=>by
  have:t=r:=by simpa using h
  rw[this];show D1 _
 |t::M,i+1,h=>by rw[cJ];show(m9 ((PV (M:=M) (i:=i)<|by show h).cons t))<|aF.swap ..
def GR{s t:Ϝ}(h:de s=de t):(if s=[]then 1 else 0)=(if t=[]then 1 else (0:Nat)):=by cases s <;> cases t <;> simp at h ⊢
def xV(n:z∉s)(t:-z∉s):oK z s=s:=e9 fK λe l=>by
 simp only[ae,cP,or_false,jO,decide_eq_false_iff_not];rintro(q|q);.show n<|q ▸ l
 .show t<|q ▸ l
def xy a b:oK z (a++b)=oK z a++oK z b:=cu ..
def Fz(a:Ϝ):oK z (z::a)=oK z a:=bZ ⋯
def OT(a:Ϝ):oK z (-z::a)=oK z a:=bZ ⋯
def PD{R:Λ}(h:∀s∈R,z∉s/\-z∉s):R.map (oK z)=R:=by show(fq (mCq (f:=oK z) (g:=id) λs l=>xV (h s l).1 (h s l).2))<|eK _
def qf(s:Ϝ)(R:Λ):(s::R).count []=R.count []+(if s=[]then 1 else 0):=by rw[bS];simp only[beq_iff_eq]
def BK(l:Mp M)(h:Ln M LL)(n:x∈bt M):∃c∈LL,x∈c:=mFq.mp<|e9 ((h.orb l).all x) n
def NO{A B:Ϝ}{R:Λ}{c:Ϝ}(h:Ln ((x::A++y::B)::R) LL)(n:Mp<|(x::A++y::B)::R)(ne:x≠y)(s:c∈LL)(t:x∈c)(u:y∈c):∃l,Ln ((x::A)::(y::B)::R) l/\nL ((x::A)::(y::B)::R) l=nL ((x::A++y::B)::R) LL+1:=by have(l,E,G):=Ln.split h n.hn n.hneg (i:=0) rfl (λQ=>rfl) ne s t u;have pm:aF ((x::A)::(y::B)::R)<|fb ((x::A++y::B)::R) 0 (x::A)++[y::B]:=aF.cons _<|ay (l₁:=[y::B]);show(l,E.congr λq=>tD pm q,?_);rw[←G];delta nL;rw[nt pm]
def JW(hm:Mp M)(hV:M.length<=900)(hz:z∈M.flatten)(hne:z ≠ -z):∃LL LL',Ln M LL/\Ln (K23.C z M) LL'/\(nL (K23.C z M) LL'=nL M LL+1∨(nL (K23.C z M) LL'+1=nL M LL/\MC M z=f_)):=by
 have hw:=zb (z:=z) hm;have hW1:=ya (M:=M) (z:=z);have(i,r,hi,hzr):=IR hz;have(j,r',hj,G):=IR<|hm.hneg z hz;have plz:plc M z=i:=plc_eq hm.hn hi hzr;have plz':plc M (-z)=j:=plc_eq hm.hn hj G;have nr:r.Nodup:=hm.hn.sublist<|aL<|mGq hi;have nr':r'.Nodup:=hm.hn.sublist<|aL<|mGq hj;have p1:=PV hi;have W1:(K23.C z M).Perm<|K23.vG z r::(M.eraseIdx i).map (K23.vG z):=p1.map _;have H:i=j->MC M z=f_:=λq=>by unfold K43.MC;rw[plz,plz',←q];show @decide_eq_false _ (aK _) λn=>n .base
 have mpOf:∀{X:Λ},X.flatten.Perm (K23.C z M).flatten->X.length<=M.length+1->Mp X:=λ{X} pf hX=>(pf.nodup_iff.mpr hw.hn,by rw[pf.length_eq];show hw.hl,by lia,λe I=>pf.mem_iff.mpr<|hw.hneg e<|pf.mem_iff.mp I);by_cases ij:i=j;.-- a CL from a place to itself
  cases ij;rw[hi]at hj;cases hj;have hR:∀s∈M.eraseIdx i,z∉s/\-z∉s:=λs hs=>by have(k,hk,hks):=ie.mp hs;show(λq=>hk<|zF hm.hn hks hi q hzr,λq=>hk<|zF hm.hn hks hi q G)
  rw[PD hR]at W1;generalize M.eraseIdx i=R at p1 W1;have(a,b,rfl):=bu hzr;have h2:-z∈b++a:=by
   obtain h|h:=mAq.mp G;.show ah _ h
   .obtain h|h:=ae.mp h;.show absurd h.symm hne
    .show ai _ h
  have(P,Q,e):=bu h2;have U:∀q,(cp<|z::P ++ -z::Q).count q=(cp<|a++z::b).count q:=λq=>by rw[rS a (z::b) q];change(cp<|z::(P ++ -z::Q)).count q=(cp<|z::(b++a)).count q;rw[e]
  have ndR:(z::(P ++ -z::Q)).Nodup:=by rw[←e];show(ay (l₁:=z::b)).nodup_iff.mpr nr
  have zP:z∉P ++ -z::Q:=(au.mp ndR).1;have nP:=(au.mp ndR).2;have zPQ:z∉P/\z∉Q:=(λq=>zP<|ai _ q,λq=>zP<|ah _<|mCo _ q);have zPQ':-z∉P/\-z∉Q:=(λq=>(nAq.mp nP).2.2 _ q _ (aa ..) rfl,λq=>(au.mp (nAq.mp nP).2.1).1 q);have cPQ:K23.vG z (b++a)=P++Q:=by simp only[e,xy,OT,xV zPQ.1 zPQ'.1,xV zPQ.2 zPQ'.2]
  have rotW:∀q,(cp<|P++Q).count q=(cp<|K23.vG z<|a++z::b).count q:=λq=>by simp only[←cPQ,xy,xy,Fz,rS]
  have lenW:(K23.vG z<|a++z::b).length=(P++Q).length:=by simp only[←cPQ,xy,xy,Fz,lAq,lAq,eN]
  have J:∀q,(PC M).count q=(PC<|(z::P ++ -z::Q)::R).count q:=λq=>by rw[tD p1,pN,pN,U]
  have u:∀q,(PC<|K23.C z M).count q=(PC<|(P++Q)::R).count q:=λq=>by rw[tD W1,pN,pN,rotW]
  have nM:M.count []=R.count []:=by rw[p1.count_eq,qf,pW ⋯];rfl'
  have nW:(K23.C z M).count []=((P++Q)::R).count []:=by simp only[W1.count_eq,qf,qf,GR lenW]
  have fW:((P++Q)::R).flatten.Perm (K23.C z M).flatten:=by show aF.trans ?_ (qj W1).symm;simp only[fCq,fCq];show aF.append_right _ ?_;rw[←cPQ,xy,xy,Fz];show ay
  have lR:R.length+1=M.length:=by rw[p1.length_eq];rfl
  have mpW:=mpOf fW<|by rw[lCq];simp +arith[*]
  have(LW,l):=wC mpW;have E:∀X,nL (K23.C z M) X=nL ((P++Q)::R) X:=λX=>by unfold nL;rw[nW]
  cases P with
  |nil=>
   have(O,Y,l2):=l.open (i:=0) (r:=[]) (L:=Q) rfl z;show(O,LW,Y.congr J,l.congr u,.inr (?_,H rfl));rw[E];have e1:nL M O=nL (((([]:Ϝ)++Q)::R).set 0<|[]++[z]++(-z::Q)) O:=by change _=nL ((z :: -z::Q)::R) O;unfold nL;rw[nM,qf,pW ⋯];lia
   rw[e1,l2]
  |cons x A=>cases Q with
   |nil=>
    have(O,Y,l2):=l.open (i:=0) (r:=[]) (L:=x::A) (by rw[aNq];rfl)<|-z;have pc2:∀q,(PC M).count q=(PC<|(-z::z::x::A)::R).count q:=λq=>by simp only[J,pN,pN,rS (z::x::A) [-z]];rfl
    have e0:(((x::A)++[])::R).set 0 ([]++[-z]++(- -z::x::A))=(-z::z::x::A)::R:=by rw[bf];rfl
    rw[e0]at Y l2;show(O,LW,Y.congr pc2,l.congr u,.inr (?_,H rfl));rw[E,←l2];unfold nL;rw[nM,qf,pW ⋯];rfl'
   |cons y B=>
    have neq:x≠y:=λq=>by have:=(nAq.mp nP).2.2 x (aa ..) y ⋯;show this q
    have fD:((x::A)::(y::B)::R).flatten.Perm (K23.C z M).flatten:=by show aF.trans ?_ fW;rw[fCq,fCq,fCq,af]
    have mpD:=mpOf fD<|by simp only[lCq,lCq];simp +arith[*]
    have(LD,lnD):=wC mpD;have(O,Y,l2):=lnD.loop neq z;have nLM:∀X,nL M X=nL ((z::x::A ++ -z::y::B)::R) X:=λX=>by unfold nL;rw[nM,qf,pW ⋯];lia
    have(c,hc,hx):=BK mpW l (x:=x) ⋯;have(c',hc',hy):=BK mpW l (x:=y) ⋯;show(O,LW,Y.congr J,l.congr u,?_);rw[nLM,E,l2];by_cases cc:c=c';.subst cc;have(L3,s1,s2):=NO l mpW neq hc hx hy;have:=Ln.one mpD lnD s1;show .inr (by simp +arith[*],H rfl)
    .have(L3,s1,s2,_):=l.join mpW.hn hc hc' cc hx hy;have:=Ln.one mpD lnD s1;show .inl<|by simp +arith[*]
 .-- a CL between two places
  have hr'R:r'∈M.eraseIdx i:=ie.mpr (j,λq=>ij q.symm,hj);have(Y,l2,eR):=bu hr'R;have p2:M.Perm<|r::r'::(Y++l2):=p1.trans<|aF.cons _<|by rw[eR];show fJ
  have hR:∀s∈Y++l2,z∉s/\-z∉s:=λs hs=>by have nf:(r::r'::(Y++l2)).flatten.Nodup:=(qj p2).nodup_iff.mp hm.hn;rw[fCq,fCq]at nf;have hs':∀e∈s,e∈(Y++l2).flatten:=λe I=>mFq.mpr (s,hs,I);show(λq=>(nAq.mp nf).2.2 z hzr z (ah _<|hs' z q) rfl,λq=>(nAq.mp (nAq.mp nf).2.1).2.2 (-z) G (-z) (hs' _ q) rfl)
  have W2:(K23.C z M).Perm<|K23.vG z r::K23.vG z r'::(Y++l2):=by have:=p2.map<|K23.vG z;rw[aq,aq,PD hR]at this;show this
  have zr':z∉r':=λq=>ij<|zF hm.hn hi hj hzr q;have zr:-z∉r:=λq=>ij<|zF hm.hn hi hj q G;have lR:(Y++l2).length+2=M.length:=by rw[p2.length_eq];rfl
  have rW:∀e∈r,e≠z->plc (K23.C z M) e=i:=λe I q=>plc_eq hw.hn (Da hi)<|vP.mpr (I,q,λh=>zr<|h ▸ I);have rW':∀e∈r',e ≠ -z->plc (K23.C z M) e=j:=λe I q=>plc_eq hw.hn (Da hj)<|vP.mpr (I,λh=>zr'<|h ▸ I,q);generalize Y++l2=R at p2 W2 lR;have(a,b,rfl):=bu hzr;have(c,d,rfl):=bu G;have zab:z∉a/\z∉b:=(λq=>(nAq.mp nr).2.2 z q z (aa ..) rfl,(au.mp (nAq.mp nr).2.1).1);have zab':-z∉a/\-z∉b:=(λq=>zr<|ai _ q,λq=>zr<|ah _<|mCo _ q);have zcd:-z∉c/\-z∉d:=(λq=>(nAq.mp nr').2.2 (-z) q (-z) (aa ..) rfl,(au.mp (nAq.mp nr').2.1).1);have zcd':z∉c/\z∉d:=(λq=>zr'<|ai _ q,λq=>zr'<|ah _<|mCo _ q);have c1:K23.vG z (a++z::b)=a++b:=by rw[xy,Fz,xV zab.1 zab'.1,xV zab.2 zab'.2]
  have c2:K23.vG z (c ++ -z::d)=c++d:=by rw[xy,OT,xV zcd'.1 zcd.1,xV zcd'.2 zcd.2]
  rw[c1,c2]at W2;have inP:∀e∈b++a,plc (K23.C z M) e=i:=λe I=>rW e (by
   obtain q|q:=mAq.mp I;.show ah _<|mCo _ q
   .show ai _ q) λq=>by
    cases q;obtain q|q:=mAq.mp I;.show zab.2 q
    .show zab.1 q
  have inQ:∀e∈d++c,plc (K23.C z M) e=j:=λe I=>rW' e (by
   obtain q|q:=mAq.mp I;.show ah _<|mCo _ q
   .show ai _ q) λq=>by
    subst q;obtain q|q:=mAq.mp I;.show zcd.2 q
    .show zcd.1 q
  have U:∀q,(cp<|b++a++[z]).count q=(cp<|a++z::b).count q:=λq=>by have:=rS (a++[z]) b q;rw[af]at this;rw[af];show this.symm
  have rotM':∀q,(cp<|-z::(d++c)).count q=(cp<|c ++ -z::d).count q:=λq=>(rS c (-z::d) q).symm;have fW0:((b++a)::(d++c)::R).flatten.Perm (K23.C z M).flatten:=by show aF.trans ?_ (qj W2).symm;simp only[fCq,fCq,fCq,fCq];show ay.append<|ay.append<|.refl _
  have J:∀q,(PC M).count q=(PC<|(b++a++[z])::(-z::(d++c))::R).count q:=λq=>by simp only[tD p2,pN,pN,pN,pN,U,rotM']
  have u:∀q,(PC<|K23.C z M).count q=(PC<|(b++a)::(d++c)::R).count q:=λq=>by simp only[tD W2,pN,pN,pN,pN,rS a b,rS c d]
  have nM:M.count []=R.count []:=by rw[p2.count_eq,qf,qf,pW ⋯,pW ⋯];rfl'
  have nW:(K23.C z M).count []=((b++a)::(d++c)::R).count []:=by simp only[W2.count_eq,qf,qf,qf,qf,GR (s:=a++b) (t:=b++a)<|by simp[eN],GR (s:=c++d) (t:=d++c)<|by simp[eN]]
  have E:∀X,nL (K23.C z M) X=nL ((b++a)::(d++c)::R) X:=λX=>by unfold nL;rw[nW]
  generalize b++a=P at U fW0 J u nW E inP;generalize d++c=Q at rotM' fW0 J u nW E inQ;have f2:((P++Q)::R).flatten.Perm (K23.C z M).flatten:=by show aF.trans ?_ fW0;rw[fCq,fCq,fCq,af]
  have mp2:=mpOf f2<|by rw[lCq];lia
  have(L2,S):=wC mp2;have(O,m1,m2):=S.newp mp2.hn (i:=0) (r:=P) (L:=Q) rfl z;have pmM:((P++[z])::(-z::Q)::R).Perm<|((P++Q)::R).set 0 (P++[z])++[-z::Q]:=aF.cons _<|ay (l₁:=[-z::Q]);have lnM:Ln M O:=m1.congr λq=>by rw[J,tD pmM]
  have nLM:nL M O=nL ((P++Q)::R) L2:=by rw[←m2];unfold nL;rw[←pmM.count_eq,qf,qf,pW ⋯,pW ⋯,nM];rfl'
  cases P with
  |nil=>show(O,L2,lnM,S.congr λq=>by rw[u,pN];change 0+_=_;rw[bD];rfl,.inl ?_);rw[nLM,E];change nL ([]::Q::R) L2=nL (Q::R) L2+1;unfold nL;rw[qf,pZ rfl];rfl'
  |cons x A=>cases Q with
   |nil=>show(O,L2,lnM,S.congr λq=>by rw[u,pN,pN,pN,aNq];change _+(0+_)=_;rfl',.inl ?_);rw[nLM,E];unfold nL;have e1:(if x::A=[]then 1 else (0:Nat))=0:=pW ⋯;have e2:(if x::A++[]=[]then 1 else (0:Nat))=0:=pW ⋯;have e3:(if ([]:Ϝ)=[]then 1 else (0:Nat))=1:=pZ rfl;simp only[qf,qf,qf,e1,e2,e3];rfl'
   |cons y B=>
    have neq:x≠y:=λq=>by have h1:=inP x<|aa ..;have h2:=inQ y<|aa ..;rw[q]at h1;show ij<|h1.symm.trans h2
    have(c,hc,hx):=BK mp2 S (x:=x) ⋯;have(c',hc',hy):=BK mp2 S (x:=y) ⋯;by_cases cc:c=c';.subst cc;have(L3,s1,s2):=NO S mp2 neq hc hx hy;show(O,L3,lnM,s1.congr u,.inl ?_);rw[nLM,E,s2]
    .have(L3,s1,s2,dd,hd,hxd,hyd):=S.join mp2.hn hc hc' cc hx hy;have l:=s1.congr u;show(O,L3,lnM,l,.inr (?_,?_));.rw[nLM,E];show s2
     .have rc:=U7 hw l hd hxd hyd;rw[inP x<|aa ..,inQ y<|aa ..]at rc;unfold K43.MC;rw[plz,plz'];show @decide_eq_false _ (aK _) λn=>n rc
def ON:∀n {M},de (bt M)=n->Mp M->(∀e∈bt M,e≠0)->de M<=900->∀{kn}{PS},Ps M (de M) kn PS->∀{LL},Ln M LL->∃g:Nat,4*de PS+n=2*de M+2*nL M LL+4*g:=by intro n;induction n using eQ with
 |_ n P=>intro M hn t nz hl kn PS E LL ln;cases s:bt M with
  |nil=>
   rw[s]at hn;have I:M.count []=de M:=e9 List.count_eq_length λr hr=>fx (gK.mp s r hr);have Q:LL=[]:=by cases LL with
    |nil=>rfl
    |cons c LL=>have(a,l,e):=uv<|ln.ne c<|aa ..;have:=eP (ln.flat t.hneg t.hn) (a:=a);rw[s]at this;show absurd (this.mp<|by rw[e];simp) ⋯
   have i1:=BC t E (l:=emp M) (λk hk=>(CZ.mp hk).1,by have nd:c8 (emp M):=bz.sublist bH cE;show bz.imp_of_mem (λ{x y} hx hy n h=>n ?_)<|cg.mp nd;show(E8 h (CZ.mp hx).2).symm);rw[FA]at i1;have bM:bare M=de M:=by delta bare;rw[List.countP_eq_length];intro r hr;have:=gK.mp s r hr;simp[this]
   have i2:=E.len;show(0,?_);rw[cw]at hn;delta nL;rw[Q,cw];lia
  |cons z rest=>
   have u:z∈bt M:=by rw[s];show aa ..
   have z0:=nz z u;have B:z ≠ -z:=by simp +arith[*]
   have hw:=zb (z:=z) t;have(L1,L2,R,S,J):=JW t hl u B;rw[←A1 t ln R]at J;have(kW,PW,G,_):=K51.BM<|xP hw;have cz:de (ft z M).flatten+2=n:=by
    have pm:aF (bt M)<|z :: -z::bt (ft z M):=by
     rw[bp t.hn (by
      show e9 au (?_,e9 au (λh=>(wt.mp h).2.2 rfl,hw.hn));intro h;obtain q|q:=ae.mp h;.show B q
      .show(wt.mp q).2.1 rfl)];intro x;rw[ae,ae,wt];constructor
     .intro h;by_cases L:x=z;.show jE L
      .by_cases O:x = -z;.show iq<|jE O
       .show iq<|iq (h,L,O)
     .rintro(q|q|q);.rw[q];show u
      .rw[q];show p9 t z u
      .show q.1
    have:=d9 pm;simp only[lCq,lCq]at this;lia
   have H:de PW=de PS+(if MC M z=t_ then 1 else 0):=by
    delta K43.MC;by_cases q:rX (ft z M) (plc M z) (plc M<|-z);.rw[K43.Ek t u q E G,pW<|by simp[q]];rfl
    .rw[K43.Em t u q E G,pZ<|by simp[q]]
   have(g,eq):=P (de (ft z M).flatten) ∅ rfl hw (λe U=>nz e (wt.mp U).1) (by rw[ya];show hl) G S;rw[ya]at eq;obtain X|⟨X,Y⟩:=J
   .by_cases q:MC M z=t_;.rw[pZ q]at H;show(g,by lia)
    .rw[pW q]at H;show(g+1,by lia)
   .rw[Y,pW ⋯]at H;show(g,by lia)
end
end K18
namespace K17
open PySem L2 Mr Z Xe Zl
open K15 (nx fw Ea bar)
open K25 (Rt Due pz)
open K43 (xP WY Da vP wt zb LR ya MC Ind BC emp FA CZ E8)
open K51 (rX Ps Pc)
def ab4(l:Mp M)(n:e∈bt M):plc M (nx M e)=plc M e:=by
 have(w,h):=Rt.of n;have s:=h.to l.hn;have(r,hr,q):=h.row;have(i,hi):=aC.mp hr;have t:e∈r:=e9 (q e)<|aa ..;have u:nx M e∈r:=e9 (q _)<|by rw[s];cases w <;> simp
 rw[plc_eq l.hn hi t,plc_eq l.hn hi u]
end K17
namespace K11
open PySem L2 Mr Z Xe Zl K12
def Kk{p:Λ}(h:e∈cn p k []):cn p k []∈p:=by rw[gDq]at h ⊢;cases q:p[k]? with
 |none=>rw[q]at h;cases h
 |some r=>show mGq q
end K11
namespace K17
open PySem L2 Mr Z Xe Zl
def Xf{L:Λ}(hn:c8 (bt L)){i:Nat}{r s:Ϝ}(hi:L[i]?=aB r)(l:L[j]?=aB s)(n:e∈r)(t:e∈s):i=j:=same_place hn hi l n t
def wB{L M:Λ}(h:aF L M):aF (bt L)<|bt M:=by induction h with
 |nil=>show D1 _
 |cons a _ n=>show n.append_left a
 |swap a b l=>rw[fCq,fCq,fCq,fCq,←af,←af];show ay.append_right _
 |trans _ _ s t=>show m9 s t
end K17
namespace K17
open PySem L2 Mr Z Xe Zl
open K51 (rX Ps Pc)
theorem G8:∀{A:List Λ},(∀p∈A,([]:Ϝ)∈p->p=[[]])->A.flatten.count []=A.countP λp=>decide<|p=[[]]
 | [],_=>rfl
 |p::A,h=>by
  simp only[fCq,cAq,G8 λq l=>h q<|mCo _ l,gZ];by_cases c:([])∈p;.rw[h p (aa ..) c];skip;rfl'
  .rw[e9 cL c,pW (by simp only[decide_eq_true_eq];intro e;show c<|by rw[e];simp)];rfl'
def Nj{a b:Ϝ}(h:∀y,y∈a↔y∈b)(ha:a≠[]):∃m,a.min?=aB m/\b.min?=aB m/\m∈a:=by cases e:a.min? with
 |none=>show absurd (List.min?_eq_none_iff.mp e) ha
 |some m=>have q:=(hZ).mp e;show(m,rfl,e9 (hZ) ((h m).mp q.1,λx l=>q.2 x<|e9 (h x) l),q.1)
theorem M7:∀{A:List Λ},c8 (bt (bt A))->(∀p∈A,bt p≠[])->c8 (A.map λp=>p.flatten.min?)
 | [],_,_=>bA
 |p::A,h,hne=>by rw[fCq,fAq,nAq]at h;rw[aq];show e9 au (λm=>?_,M7 h.2.1 λq l=>hne q<|mCo _ l);have(q,l,e):=mMq.mp m;have(a,s,_,t):=Nj (λQ=>Iff.rfl)<|hne p<|aa ..;rw[s]at e;have:=((hZ).mp e).1;have(r,hr,n):=mFq.mp this;show h.2.2 a t a (e9 mFq (r,e9 mFq (q,l,hr),n)) rfl
structure Bp (A:List Λ):Prop where
 nd:A.flatten.flatten.Nodup
 ne:∀p∈A,p≠[]
 ba:∀p∈A,([]:Ϝ)∈p->p=[[]]
def FZ{l m:Λ}(h:dD l m):dD (bt l)<|bt m:=by induction h with
 |slnil=>show .refl _
 |cons a _ n=>show n.trans<|gw ..
 |cons_cons a _ n=>show(dD.refl a).append n
def Py{A:List Λ}(h:c8 (bt (bt A)))f:c8 (A.filter f).flatten.flatten:=by rw[List.flatten_flatten]at h ⊢;show h.sublist<|FZ<|bH.map _
def Bp.fne(h:Bp A)(l:p∈A)(hb:p≠[[]]):bt p≠[]:=λz=>by cases p with
 |nil=>show h.ne _ l rfl
 |cons a p=>have:=(cR.mp z).1;subst this;show hb<|h.ba _ l<|aa ..
def adR(H:Bp A)(Q:Bp B)(L:∀x,x∈bt (bt A)->x∈bt (bt B))(sh:∀p∈A,∀q∈B,∀x,x∈bt p->x∈bt q->∀y,y∈bt p↔y∈bt q)(hk:k∈(A.filter λp=>!decide (p=[[]])).map λp=>p.flatten.min?):k∈(B.filter λp=>!decide (p=[[]])).map λp=>p.flatten.min?:=by
 have(p,n,e):=mMq.mp hk;have(n,hb):=ax.mp n;have s:=by simpa using hb
 have(m,R,_,I):=Nj (λZ=>Iff.rfl)<|H.fne n s;have(r,hr,u):=mFq.mp I;have(M,E,t):=mFq.mp<|L m<|e9 mFq (r,e9 mFq (p,n,hr),u);have(q,J,G):=mFq.mp E;have l:=e9 mFq (M,G,t);have(S,O,P,_):=Nj (sh p n q J m I l)<|H.fne n s;rw[←e];show e9 mMq (q,e9 ax (J,?_),by rw[O,P]);have:q≠[[]]:=λz=>by rw[z]at l;simp at l
 simpa using this
def D7(s:Bp A)(t:Bp B)(u:∀x,x∈bt (bt A)↔x∈bt (bt B))(sh:∀p∈A,∀q∈B,∀x,x∈bt p->x∈bt q->∀y,y∈bt p↔y∈bt q)(z:A.flatten.count []=B.flatten.count []):de A=de B:=by
 have E:=M7 (Py s.nd λp=>!decide (p=[[]])) λp n=>s.fne (ax.mp n).1<|by simpa using (ax.mp n).2
 have G:=M7 (Py t.nd λp=>!decide (p=[[]])) λp n=>t.fne (ax.mp n).1<|by simpa using (ax.mp n).2
 have pm:=d9 (e9 (bp E G) λk=>(adR s t (λx=>(u x).mp) sh,adR t s (λx=>e9 (u x)) λp n q H x I J y=>(sh q H p n x J I y).symm));rw[lMq,lMq,←cG,←cG]at pm;rw[G8 s.ba,G8 t.ba]at z;have L:=fh (l:=A) λp=>decide<|p=[[]];have M:=fh (l:=B) λp=>decide<|p=[[]];have f:(λp:Λ=>!decide (p=[[]]))=λp=>decide ¬ (decide (p=[[]])=t_):=by funext p;by_cases c:p=[[]] <;> simp[c]
 rw[f]at pm;simp +arith[*]
noncomputable abbrev cls(M:Λ)(PS:List Θ):List Λ:=PS.map λps=>ps.map λk=>cn M k []
section
variable {PS:List Θ}
def acU{S:Int->Prop}(u:y8 M)(hneg:∀x,S x->S (-x))(l:∀r∈M,∀x∈r,∀y∈r,S x->S y)(h:rX M a b)(ha:∀x∈cn M a [],S x):∀y∈cn M b [],S y:=by induction h with
 |base=>show ha
 | @step k r e _ z B H=>
  intro y E;have I:cn M k []=r:=by rw[gDq,z];rfl
  have J:=hneg e<|H e<|by rw[I];show B
  have L:=e9 mFq (r,mGq z,B);have(G,n,s):=u.at<|u.hneg e L;have t:cn M (aAd M<|-e) []=G:=by rw[gDq,n];rfl
  rw[t]at E;show l G (mGq n) _ s y E J
def Ft(n:y8 M)(pc:Pc M s ps):x∈bt (ps.map λk=>cn M k [])↔∃k,rX M s k/\x∈cn M k []:=by
 rw[mFq];constructor;.rintro⟨r,hr,l⟩;have(k,hk,rfl):=mMq.mp hr;show(k,(pc.iff k).mp hk,l)
 .rintro⟨k,hk,l⟩;show(_,e9 mMq (k,e9 (pc.iff k) hk,rfl),l)
def GE{S:Int->Prop}(t:y8 M)(pc:Pc M s ps)(hneg:∀x,S x->S (-x))(l:∀r∈M,∀x∈r,∀y∈r,S x->S y)(B:x∈bt (ps.map λk=>cn M k []))(h:S x):∀y∈bt (ps.map λk=>cn M k []),S y:=by intro y E;have(a,ha,n):=(Ft t pc).mp B;have(b,hb,u):=(Ft t pc).mp E;show acU t hneg l (sX (ha.symm t) hb) (λz G=>l _ (K11.Kk n) x n z G h) y u
def xw(t:y8 M)(pc:Pc M s ps)(z:x∈bt (ps.map λk=>cn M k [])):-x∈bt (ps.map λk=>cn M k []):=by
 have(k,hk,l):=(Ft t pc).mp z;have hr:M[k]?=aB (cn M k []):=by rw[gDq]at l ⊢;cases q:M[k]? with
  |none=>rw[q]at l;cases l
  |some r=>rfl
 have(B,u,n):=t.at<|t.hneg x<|e9 mFq (_,mGq hr,l);show(Ft t pc).mpr (_,TF hk hr l,?_);rw[gDq,u];show n
def zZ(u:y8 M)(pc:Pc M s ps){r:Ϝ}(hr:r∈M)(z:x∈r)(B:y∈r)(h:x∈bt (ps.map λk=>cn M k [])):y∈bt (ps.map λk=>cn M k []):=by have(t,ht,l):=mFq.mp h;have(k,hk,rfl):=mMq.mp ht;have E:=K11.Kk l;have(i,hi):=aC.mp hr;have(j,n):=aC.mp E;have:=Xf u.hn hi n z l;subst this;rw[hi]at n;show e9 mFq (_,ht,?_);rw[←aB.inj n];show B
def DZ(H:y8 M)(x:Ps M (de M) kn PS):Bp<|cls M PS:=by
 have pm:=YV x;show(e9 (wB pm).nodup_iff H.hn,λp h=>?_,λp h hb=>?_);.have(t,n,rfl):=mMq.mp h;have(s,I,pc):=x.pc t n;intro z;have m:=e9 (pc.iff s) vr;rw[jD.mp z]at m;cases m
 .have(t,n,rfl):=mMq.mp h;have(s,I,pc):=x.pc t n;have(k,hk,B):=mMq.mp hb;have u:=pc.lt k hk;have E:M[k]?=aB []:=by rw[gDq,gEg u]at B;rw[gEg u];show congrArg aB B
  have only:∀j,rX M k j->j=k:=λj G=>by induction G with
   |base=>rfl
   |step _ a b J=>rw[J,E]at a;cases a;cases b
  have all:=λj G=>only j<|sX (((pc.iff k).mp hk).symm H)<|(pc.iff j).mp G;have nd:=pc.nd;have e:t=[k]:=by match t,hk,all,nd with
   | [a],_,all,_=>rw[all a ⋯]
   |a::b::l,_,all,nd=>show absurd (fq (all a ⋯)<|fx (all b ⋯))<|λz=>(au.mp nd).1<|by rw[z];simp
  rw[e];change[cn M k []]=[[]];rw[B]
def Ci(B:y8 M)(hn:y8 N)(J:Ps M (de M) kn PS)(l:Ps N (de N) I u)(U:∀x,x∈bt M↔x∈bt N)(hb:M.count []=N.count [])(X:∀S:Int->Prop,(∀x,S x->S (-x))->(∀r∈N,∀x∈r,∀y∈r,S x->S y)->∀r∈M,∀x∈r,∀y∈r,S x->S y)(Y:∀S:Int->Prop,(∀x,S x->S (-x))->(∀r∈M,∀x∈r,∀y∈r,S x->S y)->∀r∈N,∀x∈r,∀y∈r,S x->S y):de PS=de u:=by
 have pm:=YV J;have E:=YV l;have:=D7 (DZ B J) (DZ hn l) (λx=>((wB pm).mem_iff.trans<|U x).trans (wB E).mem_iff.symm) (λp h q h' x P G y=>by have(Q,L,rfl):=mMq.mp h;have(s,_,pc):=J.pc Q L;have(R,O,rfl):=mMq.mp h';have(t,_,H):=l.pc R O;show(GE B pc (λz n=>xw hn H n) (X (· ∈ bt (R.map λk=>cn N k [])) (λz n=>xw hn H n) λr hr a ha b hb h=>zZ hn H hr ha hb h) P G y,GE hn H (λz n=>xw B pc n) (Y (· ∈ bt (Q.map λk=>cn M k [])) (λz n=>xw B pc n) λr hr a ha b hb h=>zZ B pc hr ha hb h) G P y))<|by rw[nt pm,nt E,hb]
 rwa [lMq,lMq]at this
end
end K17
namespace K52
open PySem L2 Mr Z Xe Zl
open K15 (nx)
open K18 (pp cp PC DY sR rS Dp uo)
open K43 (xP uA getD_some)
open K51 (rX)
structure Fm where
 p:Nat
 a:Ϝ
 d:Ϝ
 r:Ϝ
structure Sw where
 st:List Fm
 cl:Θ
 cb:List<|Nat×Int
 th:List<|String×Int
def frm(M:Λ)(x:Int):Ϝ:=(cn M (plc M x) []).drop ((cn M (plc M x) []).idxOf x+1)++(cn M (plc M x) []).take ((cn M (plc M x) []).idxOf x)
noncomputable def Sw.ks(s:Sw):Θ:=0::s.cb.map (·.1)
noncomputable def Fm.tell(f:Fm)(e:Int)(r:Ϝ):Fm:=(f.p,f.a,f.d++[e],r)
def stp(M:Λ)(s:Sw):Sw:=match s.st with
 | []=>s
 |f::fs=>match f.r with
  |e::r=>if plc M (-e)∈s.ks then (f.tell e r::fs,s.cl,s.cb,s.th++[%["side"|e]])
   else ((plc M<|-e,[-e],[],frm M<|-e)::f.tell e r::fs,s.cl,s.cb++[%[plc M<|-e|-e]],s.th++[%["down"|e]])
  | []=>match f.a,fs with
   | [x],g::gs=>(g::gs,f.p::s.cl,s.cb,s.th++[%["up"|x]])
   |_,_=>s
def run(M:Λ):Nat->Sw
 |0=>([(0,[],[],cn M 0 [])],[],[],[])
 |n+1=>stp M<|run M n
noncomputable def Fm.c(f:Fm):Ϝ:=f.a++f.d++f.r
structure Sm (M:Λ)(f:Fm):Prop where
 lt:f.p<M.length
 pm:f.c.Perm<|M.getD f.p []
 cy:∀q∈cp f.c,nx M q.1=q.2
def Chn:List Fm->Prop
 | []=>False
 | [f]=>f.a=[]/\f.p=0
 |f::g::fs=>(∃x d,f.a=[x]/\g.d=d++[-x])/\Chn (g::fs)
structure Wi (M:Λ)(s:Sw):Prop where
 ch:Chn s.st
 ok:∀f∈s.st,Sm M f
 nd:(s.st.map (·.p)++s.cl).Nodup
 ck:∀t,t∈s.ks↔t∈s.st.map (·.p)++s.cl
 cv:∀f∈s.st,∀x,f.a=[x]->%[f.p|x]∈s.cb
 kn:s.ks.Nodup
 lc:∀p∈s.cl,p<M.length
 tl:(s.th.map (·.2)).Perm (s.st.flatMap (·.d)++s.cl.flatMap λp=>M.getD p [])
 out:∀x∈s.th.map (·.2),plc M (-x)∈s.ks
section
variable {M:Λ}{f:Fm}
def Chn.top:∀{fs},Chn (f::fs)->g.a=f.a->g.p=f.p->Chn (g::fs)
 | [],h,ha,l=>(by rw[ha];show h.1,by rw[l];show h.2)
 |k::fs,h,ha,l=>(by rw[ha];show h.1,h.2)
def GJ(n:Mp M)(t:x∈bt M):plc M x<de M/\x∈cn M (plc M x) []:=by have(r,l,u):=n.at t;show((gSq.mp l).1,?_);rw[gDq,l];show u
def NT(l:Mp M)(B:x∈bt M):Sm M (plc M x,[x],[],frm M x):=by
 have(n,E):=GJ l B;have hr:=getD_some n;have key:∀r,x∈r->∃X Y,r=X++x::Y/\r.drop (r.idxOf x+1)++r.take (r.idxOf x)=Y++X:=λr h=>by have lt:=iD h;show(r.take<|r.idxOf x,r.drop<|r.idxOf x+1,?_,rfl);have e:=gD lt;conv=>lhs;rw[←aV (r.idxOf x) r,az lt,e]
 have(X,Y,t,G):=key _ E;have u:((plc M x,[x],[],frm M x):Fm).c=x::Y++X:=by delta frm;rw[G];rfl
 show(n,?_,λq z=>?_);.rw[u,t];show ay
 .rw[u]at z;show Dp l.hn<|uo hr ?_;rw[t];have:=e9 bb z;rw[rS]at this;show bb.mp this
def Sm.mem(l:Mp M)(h:Sm M f)(n:x∈f.c):x∈bt M/\plc M x=f.p:=by have hr:=getD_some h.lt;have:=h.pm.mem_iff.mp n;show(e9 mFq (_,mGq hr,this),plc_eq l.hn hr this)
def V7{r:Ϝ}(h:f.r=e::r):(f.tell e r).c=f.c:=by delta Fm.tell Fm.c;rw[h];simp
def Sm.tell{r:Ϝ}(h:Sm M f)(hr:f.r=e::r):Sm M<|f.tell e r:=(h.lt,by rw[V7 hr];show h.pm,by rw[V7 hr];show h.cy)
def wi0(n:Mp M)(l:0<de M):Wi M<|run M 0:=by
 have hr:=getD_some l;show((rfl,rfl),λf hf=>?_,by simp[run],λt=>?_,λf hf x h=>?_,by simp[run,Sw.ks],λp u=>(by cases u),by rfl,λx z=>(by cases z));.rw[mSq.mp hf];show(l,D1 _,λq B=>Dp n.hn<|uo hr B)
 .change t∈[0]↔t∈[0]++[];rw[aNq]
 .rw[mSq.mp hf]at h;cases h
def JR(I:Mp M)(h:Wi M s):Wi M<|stp M s:=by have(st,cl,cb,th):=s;cases st with
 |nil=>show h.ch.elim
 |cons f fs=>have hf:=h.ok f<|aa ..;cases q:f.r with
  |cons e r=>
   have P:e∈f.c:=by unfold Fm.c;rw[q];simp
   have(Q,Y):=hf.mem I P;have R:=hf.tell q;have E:∀g∈f.tell e r::fs,Sm M g:=λg n=>by
    obtain z|z:=ae.mp n;.rw[z];show R
    .show h.ok g<|mCo _ z
   have G:Chn<|f.tell e r::fs:=h.ch.top rfl rfl;have tl:(th.map (·.2)++[e]).Perm ((f.tell e r::fs).flatMap (·.d)++cl.flatMap λp=>M.getD p []):=by show(h.tl.append_right [e]).trans ?_;change((f.d++fs.flatMap (·.d))++_++[e]).Perm (((f.d++[e])++fs.flatMap (·.d))++_);rw[af,af,af,af];show aF.append_left _ ?_;rw[←af];show ay
   by_cases c:plc M (-e)∈((f::fs,cl,cb,th):Sw).ks
   .have H:stp M (f::fs,cl,cb,th)=(f.tell e r::fs,cl,cb,th++[%["side"|e]]):=by unfold stp;simp only[q];rw[pZ c]
    rw[H];show(G,E,h.nd,h.ck,λg n x l=>?_,h.kn,h.lc,by rw[mBq];show tl,λx l=>?_)
    .obtain z|z:=ae.mp n;.rw[z]at l ⊢;show h.cv f (aa ..) x l
     .show h.cv g (mCo _ z) x l
    .rw[mBq]at l;obtain z|z:=mAq.mp l;.show h.out x z
     .rw[mSq.mp z];show c
   .have H:stp M (f::fs,cl,cb,th)=((plc M<|-e,[-e],[],frm M<|-e)::f.tell e r::fs,cl,cb++[%[plc M<|-e|-e]],th++[%["down"|e]]):=by unfold stp;simp only[q];rw[pW c]
    rw[H];have S:plc M (-e)∉(f::fs).map (·.p)++cl:=λz=>c<|(h.ck _).mpr z;have J:(((plc M<|-e,[-e],[],frm M<|-e)::f.tell e r::fs,cl,cb++[%[plc M<|-e|-e]],th++[%["down"|e]]):Sw).ks=((f::fs,cl,cb,th):Sw).ks++[plc M<|-e]:=by unfold Sw.ks;rw[mBq];rfl
    show(((-e,f.d,rfl,by rw[bf];rfl),G),λg n=>?_,au.mpr (S,h.nd),λt=>?_,λg n x l=>?_,?_,h.lc,by rw[mBq];show tl,λx l=>?_)
    .obtain z|z:=ae.mp n;.rw[z];show NT I<|I.hneg e Q
     .show E g z
    .rw[J,mAq,mSq,h.ck];change _↔t∈plc M (-e)::((f::fs).map (·.p)++cl);rw[ae];show Or.comm
    .obtain z|z:=ae.mp n;.simp only[z]at l ⊢;cases l;show ah _<|mSq.mpr rfl
     .show ai _ ?_;obtain w|w:=ae.mp z;.rw[w]at l ⊢;show h.cv f (aa ..) x l
      .show h.cv g (mCo _ w) x l
    .rw[J];show nAq.mpr (h.kn,by simp,λa ha b hb z=>c<|by rw[mSq.mp hb]at z;show z ▸ ha)
    .rw[J];rw[mBq]at l;obtain z|z:=mAq.mp l;.show ai _<|h.out x z
     .rw[mSq.mp z];show ah _<|mSq.mpr rfl
  |nil=>cases fs with
   |nil=>
    have:stp M ([f],cl,cb,th)=([f],cl,cb,th):=by have ha:=h.ch.1;unfold stp;simp only[q,ha]
    rw[this];show h
   |cons g u=>
    have((x,d,L,U),ch):=h.ch;have H:stp M (f::g::u,cl,cb,th)=(g::u,f.p::cl,cb,th++[%["up"|x]]):=by unfold stp;simp only[q,L]
    rw[H];have pm:((f::g::u).map (·.p)++cl).Perm ((g::u).map (·.p)++f.p::cl):=fJ.symm;have n:=h.ok g ⋯;show(ch,λk hk=>h.ok k<|mCo _ hk,pm.nodup_iff.mp h.nd,λt=>(h.ck t).trans pm.mem_iff,λk hk=>h.cv k<|mCo _ hk,h.kn,λp X=>?_,?_,λy O=>?_)
    .obtain z|z:=ae.mp X;.rw[z];show hf.lt
     .show h.lc p z
    .rw[mBq];show(h.tl.append_right [x]).trans ?_;have row:(f.d++[x]).Perm<|M.getD f.p []:=by show ay.trans ?_;have:=hf.pm;unfold Fm.c at this;rw[L,q,aNq]at this;show this
     change((f.d++(g::u).flatMap (·.d))++cl.flatMap (λp=>M.getD p [])++[x]).Perm ((g::u).flatMap (·.d)++(M.getD f.p []++cl.flatMap λp=>M.getD p []));generalize (g::u).flatMap (·.d)=A;generalize (cl.flatMap λp=>M.getD p [])=B;show aF.trans ?_<|aF.append_left A<|aF.append_right B row;rw[af,af,←af A B];show(iB f.d (A++B) [x]).trans ?_;rw[af];show aF.append_left A ay
    .rw[mBq]at O;obtain z|z:=mAq.mp O;.show h.out y z
     .rw[mSq.mp z];have:-x∈g.c:=by unfold Fm.c;rw[U];simp
      show(h.ck _).mpr ?_;rw[(n.mem I this).2];simp
theorem ux(l:Mp M)(t:0<de M):∀n,Wi M<|run M n
 |0=>wi0 l t
 |n+1=>JR l<|ux l t n
def Fin(s:Sw):Prop:=∃f,s.st=[f]/\f.r=[]
def O5{P:Θ}(nd:c8 P)(lt:∀p∈P,p<de M):∃Q:Θ,aF P Q/\dD (Q.flatMap λp=>cn M p []) (bt M):=by
 show((aH<|de M).filter λk=>decide<|k∈P,e9 (bp nd<|cE.filter _) λk=>?_,?_);.rw[ax,bF,decide_eq_true_iff];show(λh=>(lt k h,h),λh=>h.2)
 .have:=K17.FZ<|(bH (p:=λk=>decide<|k∈P) (l:=aH<|de M)).map λk=>cn M k [];rwa [uA]at this
def Nt(st:List Fm):aF (st.flatMap Fm.c) (st.flatMap (·.d)++st.flatMap λf=>f.a++f.r):=by induction st with
 |nil=>show D1 _
 |cons f fs l=>change(f.a++f.d++f.r++fs.flatMap Fm.c).Perm ((f.d++fs.flatMap (·.d))++((f.a++f.r)++fs.flatMap λf=>f.a++f.r));show(m9 (aF.append_left _ l)) ?_;rw[cF];simp only[cAq];simp +arith[*]
def Wi.full(h:Wi M s):∃F:Ϝ,F.Sublist M.flatten/\(s.th.map (·.2)++s.st.flatMap λf=>f.a++f.r).Perm F:=by
 have lt:∀p∈s.st.map (·.p)++s.cl,p<M.length:=λp l=>by
  obtain z|z:=mAq.mp l;.have(f,hf,rfl):=mMq.mp z;show(h.ok f hf).lt
  .show h.lc p z
 have(Q,n,sub):=O5 h.nd lt;show(_,sub,?_);have rows:∀st:List Fm,(∀f∈st,Sm M f)->(st.flatMap Fm.c).Perm ((st.map (·.p)).flatMap λp=>M.getD p []):=λst=>by induction st with
  |nil=>intro _;show .refl _
  |cons f fs t=>intro ok;show aF.append (ok f<|aa ..).pm<|t λg u=>ok g<|mCo _ u
 have B:=(Nt s.st).symm.trans<|rows s.st h.ok;have E:((s.st.map (·.p)++s.cl).flatMap λp=>M.getD p []).Perm<|Q.flatMap λp=>M.getD p []:=aF.flatMap_right _ n;show aF.trans ?_ E;rw[jB];show aF.trans ?_<|aF.append_right _ B;show(aF.append_right _ h.tl).trans ?_;rw[af,af];show aF.append_left _ ay
def Wi.less(h:Wi M s)(n:¬ Fin s):de s.th<de (bt M):=by
 have(F,sub,pm):=h.full;have z:=oJ sub;have t:=d9 pm;rw[lAq,lMq]at t;suffices (s.st.flatMap λf=>f.a++f.r)≠[] by have:=e9 fA this;lia
 intro q;have em:=je.mp q;have l:=h.ch;match e:s.st,l with
 | [f],_=>show n (f,e,(cR.mp<|em f<|by rw[e];simp).2)
 |f::g::fs,hc=>
  have((x,d,u,_),_):=hc;have:=em f<|by rw[e];simp
  rw[u]at this;cases this
def Wi.whole(J:Mp M)(h:Wi M s)(fin:Fin s)(one:∀k,k<de M->rX M 0 k):de s.th=de (bt M)/\de s.ks=de M/\aF (s.th.map (·.2)) (bt M):=by
 have(f,e,B):=fin;have l:=h.ch;rw[e]at l;have hf:=h.ok f<|by rw[e];simp
 have n:∀k∈s.ks,∀x∈cn M k [],x∈s.th.map (·.2):=λk hk x t=>by
  rw[h.ck,e]at hk;show e9 (eP h.tl) ?_;obtain z|z:=mAq.mp hk;.have z:=mSq.mp z;rw[z]at t;have:=e9 (eP hf.pm) t;unfold Fm.c at this;rw[l.1,B,aNq]at this;show ai _ ?_;rw[e];show ai _ this
  .show ah _<|e9 bx (k,z,t)
 have all:∀k,rX M 0 k->k∈s.ks:=λk hk=>by induction hk with
  |base=>show aa ..
  | @step k r x _ hr t G=>show h.out x<|n k G x ?_;rw[gDq,hr];show t
 have kp:=e9 (bp h.kn cE) λk=>by
  rw[bF];show(λhk=>?_,λhk=>all k<|one k hk);obtain z|z:=mAq.mp<|(h.ck k).mp hk;.have(g,H,rfl):=mMq.mp z;show(h.ok g H).lt
  .show h.lc k z
 have u:=e9 (bp h.nd h.kn) λk=>(h.ck k).symm;have E:aF (s.th.map (·.2))<|bt M:=by
  show m9 h.tl ?_;have I:s.st.flatMap (·.d)=f.c:=by rw[e];change f.d++[]=f.a++f.d++f.r;rw[l.1,B];rfl
  rw[I];show(m9 (aF.append_right _ hf.pm)) ?_;have:(cn M f.p []++s.cl.flatMap λp=>cn M p [])=(s.st.map (·.p)++s.cl).flatMap λp=>cn M p []:=by rw[e];rfl
  rw[this];show(m9 (aF.flatMap_right _<|m9 u kp)) ?_;rw[List.flatMap_def,uA]
 show(?_,?_,E);.have:=d9 E;rwa [lMq]at this
 .have:=d9 kp;rwa [aX]at this
end
end K52
open K52 renaming stp->Vf
namespace K52
open PySem L2 Mr Z Xe Zl
open K15 (nx GS)
open K18 (pp cp PC DY sR rS Dp uo)
open K43 (xP getD_some)
open K51 (rX Df)
noncomputable def Sw.cur(s:Sw):Int:=match s.st with
 | []=>0
 |f::_=>XA (f.r++f.a) 0
section
variable {s:Sw}
def Sm.nxt(h:Sm M f){L:Ϝ}(u:f.a++f.d=L++[y])(ne:f.r++f.a≠[]):nx M y=XA (f.r++f.a) 0:=by
 have n:f.c=L++[y]++f.r:=by delta Fm.c;rw[u]
 cases q:f.r with
 |nil=>
  rw[q,cA]at ne;rw[q,aNq]at n;have(z,l,t):=K18.uv ne;have B:f.c=z::(l++f.d++f.r):=by delta Fm.c;rw[t];rfl
  have:=h.cy %[y|z]<|by rw[sR n B];simp
  rw[t];show this
 |cons z r=>
  rw[q]at n;have:f.c≠[]:=by rw[n];simp
  have(w,l,E):=K18.uv this;have G:cp f.c=pp (f.c++[w]):=by rw[E];rfl
  have H:f.c++[w]=L++y::z::(r++[w]):=by rw[n];simp
  show h.cy %[y|z]<|by rw[G,H,DY];simp
noncomputable def EO(s:Sw):List<|qk×D:=%[aO 0|j0]::s.cb.map λp=>%[aO (p.1:Int)|b7 p.2]
def Fq(kn:s.ks.Nodup)(h:%[p|x]∈s.cb):Z.getD (EO s) (.inl (p:Int))=aB (.int x):=by
 have key:∀cb:List<|Nat×Int,(cb.map (·.1)).Nodup->%[p|x]∈cb->Z.getD (cb.map λp=>%[(.inl<|p.1)|D.int p.2]) (.inl<|p)=aB (.int x):=λcb=>by induction cb with
  |nil=>intro _ h;cases h
  |cons c cb t=>
   intro nd h;rw[aq]at nd;have(l,n):=au.mp nd;delta Z.getD;rw[aq,dU];obtain z|z:=ae.mp h;.subst z;rw[d5 rfl];rfl
   .have ne:¬ ((aO<|c.1:qk) = .inl (p)):=λq=>l (by
     have:c.1=p:=by have:=aO.inj q;lia
     rw[this];show mMq.mpr (_,z,rfl));rw[d6 ne];show t n z
 have(l,n):=au.mp kn;have u:¬ ((aO 0:qk) = .inl (p)):=λq=>l (by
  have:p=0:=by have:=aO.inj q;lia
  rw[←this];show mMq.mpr (_,h,rfl));have:=key s.cb n h;delta Z.getD EO at *;rw[dU,d6 u];show this
def Qg s(t:Nat):fC (l5 (EO s)<|aO (t:Int))=decide (t∈s.ks):=by
 unfold l5;rw[dW,bL,gN,decide_eq_true_iff];constructor
 .rintro⟨q,n,h⟩;have h:=of_decide_eq_true h;obtain z|z:=ae.mp n
  .rw[z]at h;have:t=0:=by have:=aO.inj h;lia
   rw[this];show aa ..
  .have(c,l,rfl):=mMq.mp z;have:c.1=t:=by have:=aO.inj h;lia
   show mCo _<|e9 mMq (c,l,this)
 .intro h;obtain z|z:=ae.mp h;.show(_,aa ..,d5<|by rw[z];rfl)
  .have(c,l,rfl):=mMq.mp z;show(_,mCo _<|e9 mMq (c,l,rfl),d5 rfl)
def Wi.ahead(h:Wi M s)(hf:f∈s.st)(l:y∈f.a++f.r)(hn:c8 (bt M)):y∉s.th.map (·.2):=by have(F,sub,pm):=h.full;have nd:=e9 (lW pm)<|hn.sublist sub;show λq=>(nAq.mp nd).2.2 y q y (e9 bx (f,hf,l)) rfl
noncomputable def Sw.way(s:Sw):Ϝ:=dw (s.st.flatMap (·.a))
inductive Go (M:Λ)(s t:Sw):Prop
 |up:t.th=s.th++[%["up"|s.cur]]->t.cb=s.cb->Z.getD (EO s) (.inl (plc M s.cur:Int))=aB (.int s.cur)->s.way=t.way++[s.cur]->(¬ Fin t->t.cur=nx M (-s.cur))->Go M s t
 |down:t.th=s.th++[%["down"|s.cur]]->t.cb=s.cb++[%[plc M<|-s.cur|-s.cur]]->plc M (-s.cur)∉s.ks->(∃v,Z.getD (EO s) (.inl (plc M s.cur:Int))=aB v/\AY (.int s.cur) v=aB (.bl f_))->t.way=s.way++[-s.cur]->(∀w y,s.way=w++[y]->y≠s.cur)->t.cur=nx M (-s.cur)->Go M s t
 |side:t.th=s.th++[%["side"|s.cur]]->t.cb=s.cb->plc M (-s.cur)∈s.ks->(∃v,Z.getD (EO s) (.inl (plc M s.cur:Int))=aB v/\AY (.int s.cur) v=aB (.bl f_))->t.way=s.way->(∀w y,s.way=w++[y]->y≠s.cur)->(¬ Fin t->t.cur=nx M s.cur)->Go M s t
def P6(B:Mp M)(h:Wi M s)(R:¬ Fin s):s.cur∈bt M/\s.cur∉s.th.map (·.2)/\Go M s (stp M s):=by have h':=JR B h;have(st,cl,cb,th):=s;cases st with
 |nil=>show j5 h.ch
 |cons f fs=>
  have hf:=h.ok f<|aa ..;have t:c8 f.c:=e9 (lW hf.pm)<|B.hn.sublist<|aL<|mGq<|getD_some hf.lt;have u:f.a=[]/\f.p=0/\fs=[]∨∃x,f.a=[x]/\%[f.p|x]∈cb:=by cases fs with
   |nil=>show jE (h.ch.1,h.ch.2,rfl)
   |cons g E=>have((x,d,n,_),_):=h.ch;show iq (x,n,h.cv f (aa ..) x n)
  cases q:f.r with
  |cons e r=>
   have l:((f::fs,cl,cb,th):Sw).cur=e:=by change(XA (f.r++f.a)) 0=e;rw[q];rfl
   have S:e∈f.c:=by delta Fm.c;rw[q];simp
   have(P,U):=hf.mem B S;have X:=h.ahead (aa ..) (y:=e) (by rw[q];simp) B.hn;have Y:=hf.tell q;have val:∃v,l5 (EO (f::fs,cl,cb,th)) (aO (plc M e:Int))=aB v/\AY (b7 e) v=aB (k9 f_):=by
    rw[U];obtain⟨_,z,_⟩|⟨x,n,hx⟩:=u;.rw[z];show(j0,rfl,rfl)
    .show(b7 x,Fq h.kn hx,?_);have:e≠x:=λw=>by delta Fm.c at t;rw[n,q]at t;show(au.mp t).1<|by rw[←w];simp
     rw[IZ,d6 this]
   have Q:∀w y,((f::fs,cl,cb,th):Sw).way=w++[y]->y≠e:=λw y I z=>by
    have e2:((f::fs,cl,cb,th):Sw).way=dw (fs.flatMap (·.a))++dw f.a:=by change(dw (f.a++fs.flatMap (·.a)))=_;rw[bU]
    rw[e2]at I;obtain⟨z1,_,G⟩|⟨x,n,_⟩:=u;.rw[z1,G]at I;have:=congrArg de I;simp at this
    .rw[n]at I;have:=(iX I rfl).2;have:x=y:=by simpa using this
     delta Fm.c at t;rw[n,q]at t;show(au.mp t).1<|by rw[this,z];simp
   rw[l];show(P,X,?_);by_cases c:plc M (-e)∈((f::fs,cl,cb,th):Sw).ks
   .have J:stp M (f::fs,cl,cb,th)=(f.tell e r::fs,cl,cb,th++[%["side"|e]]):=by delta stp;simp only[q];rw[pZ c]
    rw[J];show .side (by rw[l]) rfl (by rw[l];show c) (by rw[l];show val) rfl (by rw[l];show Q) λH=>?_;rw[l];show(Y.nxt (L:=f.a++f.d) (y:=e) (by change f.a++(f.d++[e])=_;rw[af]) λz=>H ?_).symm;have G:=cR.mp z;obtain⟨_,_,O⟩|⟨x,n,_⟩:=u;.show(f.tell e r,by rw[O],G.1)
    .have O:f.a=[]:=G.2;rw[n]at O;cases O
   .have J:stp M (f::fs,cl,cb,th)=((plc M<|-e,[-e],[],frm M<|-e)::f.tell e r::fs,cl,cb++[%[plc M<|-e|-e]],th++[%["down"|e]]):=by delta stp;simp only[q];rw[pW c]
    rw[J];show .down (by rw[l]) (by rw[l]) (by rw[l];show c) (by rw[l];show val) ?_ (by rw[l];show Q) ?_;.rw[l];change(dw ([-e]++(f.a++fs.flatMap (·.a))))=dw (f.a++fs.flatMap (·.a))++[-e];rw[bU];rfl
    .rw[l];show((NT B<|p9 B e P).nxt (L:=[]) rfl ⋯).symm
  |nil=>cases fs with
   |nil=>show absurd (f,rfl,q) R
   |cons g E=>
    have((x,d,n,ed),ch):=h.ch;have l:((f::g::E,cl,cb,th):Sw).cur=x:=by change(XA (f.r++f.a)) 0=x;rw[q,n];rfl
    have cx:x∈f.c:=by delta Fm.c;rw[n];simp
    have(xM,px):=hf.mem B cx;have xt:=h.ahead (aa ..) (y:=x) (by rw[n];simp) B.hn;have J:stp M (f::g::E,cl,cb,th)=(g::E,f.p::cl,cb,th++[%["up"|x]]):=by delta stp;simp only[q,n]
    rw[l,J];show(xM,xt,.up (by rw[l]) rfl ?_ ?_ λH=>?_);.rw[l,px];show Fq h.kn<|h.cv f (aa ..) x n
    .rw[l];change(dw (f.a++(g::E).flatMap (·.a)))=dw ((g::E).flatMap (·.a))++[x];rw[n,bU];rfl
    .rw[l];show((h.ok g ⋯).nxt (by rw[ed,af]) λz=>H ?_).symm;have G:=cR.mp z;cases E with
     |nil=>show(g,rfl,G.1)
     |cons k ks=>have((y,_,ey,_),_):=ch;show absurd G.2<|by rw[ey];simp
theorem yD(l:Mp M)(t:0<de M)(one:∀k,k<de M->rX M 0 k):∀n,n<=de (bt M)->de (run M n).th=n
 |0,_=>rfl
 |n+1,h=>by
  have z:=yD l t one n<|by rfl'
  have w:=ux l t n;have u:¬ Fin (run M n):=λf=>by have:=(w.whole l f one).1;lia
  have e:de (run M<|n+1).th=de (run M n).th+1:=by obtain⟨a,_⟩|⟨a,_⟩|⟨a,_⟩:=(P6 l w u).2.2;all_goals
    change(de (stp M<|run M n).th)=_;rw[a,lAq];rfl
  simp +arith[*]
def Bu(l:Mp M)(t:0<de M)(one:∀k,k<de M->rX M 0 k)(h:n<de (bt M)):(run M n).cur∈bt M/\(run M n).cur∉(run M n).th.map (·.2)/\Go M (run M n) (run M<|n+1)/\¬ Fin (run M n):=by
 have w:=ux l t n;have u:¬ Fin (run M n):=λf=>by
  have:=(w.whole l f one).1;have:=yD l t one n<|by rfl'
  lia
 have(a,b,c):=P6 l w u;show(a,b,c,u)
def vL(l:Mp M)(n:0<de M)(one:∀k,k<de M->rX M 0 k):Fin<|run M<|de (bt M):=gA λt=>by have:=(ux l n<|de (bt M)).less t;have:=yD l n one (de (bt M))<|ag _;lia
def UC(M:Λ)(s:Sw)(e:Int)(v6:Option AV):AS:=[aB<|b8<|dM M,aB<|eT<|qd 0 M,aB<|eT<|aAc<|O2 M,aB<|eT<|EO s,aB<|d8<|s.th.map Df,i6 e,v6]
noncomputable def muw(N:Nat):AS->Nat
 | [_,_,_,_,aB (d8 ts),_,_]=>N-de ts
 |_=>0
def WI(h:p∉s.ks)v:zw (EO s) (aO (p:Int)) (b7 v)=EO (s.st,s.cl,s.cb++[%[p|v]],s.th):=by
 delta zw;have:(EO s).any (λkv=>decide<|kv.1=(aO (p:Int)))=f_:=by rw[jQ];intro q;show h<|decide_eq_true_iff.mp ?_;rw[←Qg s p];delta l5;rw[dW,gN];have(x,l,n):=hU.mp q;show(x,l,n)
 rw[this];delta EO;rw[mBq];rfl
def W8(n:Mp M)(B:s.cur∈bt M)(g:Go M s t)(hl:de s.th<=1000)(hk:de s.cb<=1000):∃e H,aAa (UC M s s.cur v6)=aB (gb<|UC M t e H)/\(¬ Fin t->e=t.cur):=by
 have I:l5 (qd 0 M) (aO s.cur)=aB (b7 (plc M s.cur:Int)):=(xP n).kv B;have J:l5 (qd 0 M) (aO<|-s.cur)=aB (b7 (plc M<|-s.cur:Int)):=(xP n).kv<|p9 n _ B;have U:=GS n.hn B;have R:=GS n.hn<|p9 n _ B;have E:=Qg s<|plc M<|-s.cur;have L:de (s.th.map Df)<qS:=by rw[lMq];change _<16777216;lia
 have l:de s.th<qS:=by change _<16777216;lia
 have S:de (EO s)<qS:=by change(de (s.cb.map _))+1<16777216;rw[lMq];lia
 have u:∀w:String,s.th.map Df++[b8<|lG [j3 w,b7 s.cur]]=(s.th++[%[w|s.cur]]).map Df:=λw=>by rw[mBq];rfl
 obtain⟨a,b,c,_,d⟩|⟨a,b,c,⟨v,O,P⟩,_,_,d⟩|⟨a,b,c,⟨v,O,P⟩,_,_,d⟩:=g
 .show(nx M<|-s.cur,i6 (plc M<|-s.cur:Int),?_,λG=>fx (d G));have z:EO t=EO s:=by delta EO;rw[b]
  have X:decide (s.cur=s.cur)=t_:=d5 rfl;have u:=u "up";delta UC;rw[z,a];simp! [aAa,I,J,c,X,L,l,u,R]
 .show(nx M<|-s.cur,i6 (plc M<|-s.cur:Int),?_,λG=>fx d);rw[d6 c]at E;have z:=WI c<|-s.cur;have Q:EO t=EO (s.st,s.cl,s.cb++[%[plc M<|-s.cur|-s.cur]],s.th):=by delta EO;rw[b]
  delta UC;rw[Q,a,←z];simp! [aAa,I,J,O,P,E,L,l,S,u,R]
 .show(nx M s.cur,i6<|plc M<|-s.cur,?_,λG=>fx (d G));rw[d5 c]at E;have z:EO t=EO s:=by delta EO;rw[b]
  delta UC;rw[z,a];simp! [aAa,I,J,O,P,E,L,l,S,u,U]
def abg(n:Mp M)(h:Wi M s):de s.cb<=de M:=by
 have:=aAy (de M) s.ks h.kn λk hk=>by
  obtain z|z:=mAq.mp<|(h.ck k).mp hk;.have(g,l,rfl):=mMq.mp z;show(h.ok g l).lt
  .show h.lc k z
 unfold Sw.ks at this;rw[lCq,lMq]at this;rfl'
end
end K52
namespace K54
open PySem L2 Mr Z Xe Zl
open K18 (pp cp PC rS tD pN Ln nL qf)
open K43 (xP getD_some uA)
open K51 (rX)
open K52 (Fm Sw Wi Sm run stp Fin frm NT GJ Chn ux Bu vL yD)
noncomputable def ug(s:Sw):Ϝ:=(s.th.filter λx=>decide<|x.1 = "side").map (·.2)
def big(s:Sw):Ϝ:=ug s++s.st.flatMap (·.r)
def far(M:Λ)(s:Sw):Λ:=((aH<|de M).filter λk=>decide<|k∉s.ks).map λk=>cn M k []
def Cw(M:Λ)(s:Sw):Λ:=big s::far M s
def xO(th:List<|String×Int)w e:((th++[%[w|e]]).filter λx=>decide<|x.1 = "side").map (·.2)=(th.filter λx=>decide<|x.1 = "side").map (·.2)++(if w = "side" then [e]else []):=by
 rw[cu,mBq];by_cases h:w = "side";.rw[pZ h,bW<|by simpa using h];rfl
 .rw[pW h,bZ<|by simpa using h];rfl
def YU{r:Ϝ}(h:x∈r):∃X Y,r=X++x::Y/\r.drop (r.idxOf x+1)++r.take (r.idxOf x)=Y++X:=by have lt:=iD h;show(r.take<|r.idxOf x,r.drop<|r.idxOf x+1,?_,rfl);have e:=gD lt;conv=>lhs;rw[←aV (r.idxOf x) r,az lt,e]
def Xv(u:Mp M)(h:Wi M s)(J:¬ Fin s):Cw M (stp M s)=Cw M s∨∃(A B F:Ϝ) (e:Int) (R:Λ),big s=A++e::B/\big (stp M s)=A++F++B/\far M (stp M s)=R/\(∃t,aF (far M s) (t::R)/\t≠[]/\∀q,(cp t).count q=(cp<|-e::F).count q):=by have(st,cl,cb,th):=s;cases st with
 |nil=>show j5 h.ch
 |cons f fs=>have hf:=h.ok f<|aa ..;cases q:f.r with
  |cons e r=>
   have L:e∈f.c:=by delta Fm.c;rw[q];simp
   have(O,pe):=hf.mem u L;by_cases c:plc M (-e)∈((f::fs,cl,cb,th):Sw).ks
   .left;have l:stp M (f::fs,cl,cb,th)=(f.tell e r::fs,cl,cb,th++[%["side"|e]]):=by delta Vf;simp only[q];rw[pZ c]
    rw[l];delta Cw;have E:big (f.tell e r::fs,cl,cb,th++[%["side"|e]])=big (f::fs,cl,cb,th):=by skip;change((th++[%["side"|e]]).filter _).map _++(r++fs.flatMap (·.r))=(th.filter _).map _++(f.r++fs.flatMap (·.r));rw[xO,pZ rfl,q];simp
    rw[E];rfl
   .right;have l:stp M (f::fs,cl,cb,th)=((plc M<|-e,[-e],[],frm M<|-e)::f.tell e r::fs,cl,cb++[%[plc M<|-e|-e]],th++[%["down"|e]]):=by delta Vf;simp only[q];rw[pW c]
    have(tl,G):=GJ u<|p9 u e O;have P:(((plc M<|-e,[-e],[],frm M<|-e)::f.tell e r::fs,cl,cb++[%[plc M<|-e|-e]],th++[%["down"|e]]):Sw).ks=((f::fs,cl,cb,th):Sw).ks++[plc M<|-e]:=by delta K52.Sw.ks;rw[mBq];rfl
    show((th.filter λx=>decide<|x.1 = "side").map (·.2),r++fs.flatMap (·.r),frm M<|-e,e,_,?_,?_,rfl,cn M (plc M<|-e) [],?_,λz=>(by rw[z]at G;cases G),?_);.change(th.filter _).map _++(f.r++fs.flatMap (·.r))=_;rw[q];rfl
    .rw[l];change((th++[%["down"|e]]).filter _).map _++(frm M (-e)++(r++fs.flatMap (·.r)))=_;rw[xO,pW ⋯,aNq,af]
    .rw[l];delta far;rw[P];show aF.map (λk=>cn M k [])<|e9 (bp (cE.filter _)<|e9 au (λz=>?_,cE.filter _)) λk=>?_;.have:=(ax.mp z).2;simp at this
     .rw[ae,ax,ax,bF,decide_eq_true_iff,decide_eq_true_iff,mAq,mSq];constructor
      .rintro⟨H,I⟩;by_cases z:k=plc M (-e);.show jE z
       .show iq (H,λw=>t6 w I z)
      .rintro(z|⟨H,I⟩);.rw[z];show(tl,c)
       .show(H,λw=>I<|jE w)
    .intro p;have(X,Y,Q,S):=YU G;rw[Q];delta K52.frm;rw[S];show rS X (-e::Y) p
  |nil=>cases fs with
   |nil=>show absurd (f,rfl,q) J
   |cons g n=>
    left;have((x,d,U,ed),ch):=h.ch;have l:stp M (f::g::n,cl,cb,th)=(g::n,f.p::cl,cb,th++[%["up"|x]]):=by delta Vf;simp only[q,U]
    rw[l];delta Cw;have E:big (g::n,f.p::cl,cb,th++[%["up"|x]])=big (f::g::n,cl,cb,th):=by change((th++[%["up"|x]]).filter _).map _++(g::n).flatMap (·.r)=(th.filter _).map _++(f.r++(g::n).flatMap (·.r));rw[xO,pW ⋯,aNq,q];rfl
    rw[E];rfl
def adx{A:Ϝ}{R:Λ}(hn:((A++F++B)::R).flatten.Nodup)(ln:Ln ((A++F++B)::R) E):∃l,Ln ((A++e::B)::(-e::F)::R) l/\nL ((A++e::B)::(-e::F)::R) l=nL ((A++F++B)::R) E:=by
 have H:∀q,(PC<|((B++A)++F)::R).count q=(PC<|(A++F++B)::R).count q:=λq=>by rw[pN,pN,af B A F,rS B<|A++F]
 have n:=ln.congr λq=>H q;have t:(((B++A)++F)::R).flatten.Nodup:=by show(aF.nodup_iff<|aF.append_right _ ?_).mpr hn;rw[af];show ay
 have(l,I,G):=Ln.newp n t (i:=0) rfl e;have J:∀q,(PC<|(A++e::B)::(-e::F)::R).count q=(PC<|(((B++A)++F)::R).set 0 ((B++A)++[e])++[-e::F]).count q:=λq=>by
  change _=(PC<|(((B++A)++[e])::R)++[-e::F]).count q;have pm:((((B++A)++[e])::R)++[-e::F]).Perm<|((B++A)++[e])::(-e::F)::R:=aF.cons _ ay;rw[tD pm,pN,pN,pN,pN,af B A [e],rS B<|A++[e]];have:A++[e]++B=A++e::B:=by simp
  rw[this]
 show(l,I.congr λq=>J q,?_);delta K18.nL at G ⊢;have L:((A++e::B)::(-e::F)::R).count []=R.count []:=by rw[qf,qf,pW ⋯,pW ⋯];rfl'
 have O:((((B++A)++F)::R).set 0 ((B++A)++[e])++[-e::F]).count []=R.count []:=by simp
 have P:(((B++A)++F)::R).count []=((A++F++B)::R).count []:=by
  rw[qf,qf];congr 1;show ite_congr (propext ?_) (λQ=>rfl) λQ=>rfl;simp only[cR];constructor;.rintro⟨⟨u,x⟩,z⟩;show((x,z),u)
  .rintro⟨⟨u,x⟩,z⟩;show((z,u),x)
 simp only[L,←O,G,P]
def aci(t:Mp M)(h:Wi M s):c8 (Cw M s).flatten:=by
 have(F,sub,pm):=h.full;have nd:=e9 (lW pm)<|t.hn.sublist sub;have sb:dD (big s) (s.th.map (·.2)++s.st.flatMap λf=>f.a++f.r):=by skip;show dD.append (bH.map _) ?_;generalize s.st=st;induction st with
  |nil=>show .refl _
  |cons f fs I=>show dD.append (gw _ _) I
 have sf:dD (far M s).flatten<|bt M:=by have:=K17.FZ<|(bH (p:=λk=>decide<|k∉s.ks) (l:=aH<|de M)).map λk=>cn M k [];rwa [uA]at this
 have B:∀x∈big s,plc M x∈s.ks:=λx u=>by
  have u:=sb.subset u;rw[h.ck];obtain z|z:=mAq.mp u
  .obtain z|z:=mAq.mp<|h.tl.mem_iff.mp z;.have(f,hf,n):=bx.mp z;rw[((h.ok f hf).mem t<|by skip;show ai _<|ah _ n).2];show ai _<|e9 mMq (f,hf,rfl)
   .have(p,H,E):=bx.mp z;rw[plc_eq t.hn (getD_some<|h.lc p H) E];show ah _ H
  .have(f,hf,n):=bx.mp z;have:x∈f.c:=by
    skip;obtain w|w:=mAq.mp n;.show ai _<|ai _ w
    .show ah _ w
   rw[((h.ok f hf).mem t this).2];show ai _<|e9 mMq (f,hf,rfl)
 unfold Cw;rw[fCq];show e9 nAq (nd.sublist sb,t.hn.sublist sf,λx u y J e=>?_);subst e;have(r,hr,G):=mFq.mp J;have(k,hk,rfl):=mMq.mp hr;have(L,O):=ax.mp hk;have:plc M x=k:=plc_eq t.hn (getD_some<|bF.mp L) G;show of_decide_eq_true O<|this ▸ B x u
def abQ(n:Mp M)(h:Wi M s)(x:¬ Fin s)(ln:Ln (Cw M<|stp M s) u):∃l,Ln (Cw M s) l/\nL (Cw M s) l=nL (Cw M<|stp M s) u:=by
 obtain z|⟨A,B,F,e,R,b1,b2,E,t,pt,G,ct⟩:=Xv n h x;.rw[z]at ln ⊢;show(u,ln,rfl)
 .have H:Cw M (stp M s)=(A++F++B)::R:=by unfold Cw;rw[b2,E]
  have nd:=aci n<|K52.JR n h;rw[H]at ln nd ⊢;have(l,I,J):=adx nd ln;have pm:aF (Cw M s)<|(A++e::B)::t::R:=by unfold Cw;rw[b1];show aF.cons _ pt
  show(l,I.congr λq=>?_,?_);.rw[tD pm,pN,pN,pN,pN,ct q]
  .rw[←J];unfold Pv;rw[nt pm,qf,qf,qf,qf,pW<|show ¬ A++e::B=[] by simp,pW G,pW ⋯]
theorem UK(u:Mp M)(x:0<de M)(one:∀k,k<de M->rX M 0 k):∀n,n<=de (bt M)->∀{l},Ln (Cw M<|run M n) l->∃t,Ln (Cw M<|run M 0) t/\nL (Cw M<|run M 0) t=nL (Cw M<|run M n) l
 |0,_,l,ln=>(l,ln,rfl)
 |n+1,hn,l,ln=>by
  have(_,_,_,z):=Bu u x one<|show n<de (bt M) by rfl'
  have(I,B,E):=abQ u (ux u x n) z ln;have(L2,G,H):=UK u x one n (by rfl') B;show(L2,G,fq H E)
def Vm(l:Mp M)(n:0<de M)(one:∀k,k<de M->rX M 0 k)(ln:Ln [ug<|run M<|de (bt M)] B):∃t,Ln M t/\nL M t=nL [ug<|run M<|de (bt M)] B:=by
 have w:=ux l n<|de (bt M);have E:Cw M (run M<|de (bt M))=[ug<|run M<|de (bt M)]:=by
  have(f,e,u):=vL l n one;have R:=(w.whole l (vL l n one) one).2.1;unfold Cw;have x:big (run M<|de (bt M))=ug (run M<|de (bt M)):=by unfold big;rw[e];change _++(f.r++[])=_;rw[u];simp
  have G:far M (run M<|de (bt M))=[]:=by
   unfold far;rw[jD,fT];intro k hk;intro z;have z:=of_decide_eq_true z;have:=aAy (de M) (k::(run M<|de (bt M)).ks) (e9 au (z,w.kn)) λp H=>by
    obtain q|q:=ae.mp H;.rw[q];show bF.mp hk
    .obtain q|q:=mAq.mp<|(w.ck p).mp q;.have(g,I,rfl):=mMq.mp q;show(w.ok g I).lt
     .show w.lc p q
   rw[lCq]at this;lia
  rw[x,G]
 rw[←E]at ln;have(J,L,x):=UK l n one (de (bt M)) (ag _) ln;have pm:aF (Cw M<|run M 0) M:=by
  have u:=uA M;have O:aF (0::(aH<|de M).filter λk=>decide<|k∉(run M 0).ks)<|aH<|de M:=by
   show(bp (e9 au (λz=>?_,cE.filter _)) cE).mpr λk=>?_;.have:=of_decide_eq_true (ax.mp z).2;show this<|aa ..
   .rw[ae,ax,bF,decide_eq_true_iff];have P:k∈(run M 0).ks↔k=0:=mSq;constructor
    .rintro(z|z);.rw[z];show n
     .show z.1
    .intro z;by_cases c:k=0;.show jE c
     .show iq (z,λq=>c<|P.mp q)
  have:=O.map λk=>cn M k [];rw[u]at this;have Q:big (run M 0)=cn M 0 []:=by change[]++(cn M 0 []++[])=_;simp
  unfold Cw;rw[Q];show this
 show(J,L.congr λq=>fx (tD pm q),?_);rw[←E,←x];unfold Pv;rw[nt pm]
end K54
namespace K47
open PySem L2 Mr Z Xe Zl
open K18 (PC wF pN tD cp Ln nL qf GR JW ON)
open K43 (xP vP wt zb ya Da MC)
open K17 (cls DZ GE xw zZ D7 Ci wB Bp)
open K51 (rX Ps Pc)
def pn(M:Λ):Nat:=@dite _ (∃kn PS,Ps M (de M) kn PS) (aK _) (λh=>de (Classical.choose<|ic h)) λQ=>0
section
variable {N:Λ}
def T7(l:Mp M){PS}(n:Ps M (de M) kn PS):de PS=pn M:=by have h:∃kn PS,Ps M (de M) kn PS:=(kn,PS,n);delta pn;rw[dif_pos h];show Ci (xP l) (xP l) n (ic<|ic h) (λQ=>Iff.rfl) rfl (λS Q hr=>hr) λS Q hr=>hr
def uE(l:Mp M):∃kn PS,Ps M (de M) kn PS/\de PS=pn M:=by have(kn,PS,n,_):=K51.BM<|xP l;show(kn,PS,n,T7 l n)
def aap(n:Mp M)(hn:Mp N)(s:∀x,x∈bt M↔x∈bt N)(hb:M.count []=N.count [])(t:∀S:Int->Prop,(∀x,S x->S (-x))->(∀r∈N,∀x∈r,∀y∈r,S x->S y)->∀r∈M,∀x∈r,∀y∈r,S x->S y)(u:∀S:Int->Prop,(∀x,S x->S (-x))->(∀r∈M,∀x∈r,∀y∈r,S x->S y)->∀r∈N,∀x∈r,∀y∈r,S x->S y):pn M=pn N:=by have(_,PS,B,e):=uE n;have(_,E,l,G):=uE hn;rw[←e,←G];show Ci (xP n) (xP hn) B l s hb t u
def E3(l:Mp M)(h:aF M N):Mp N:=((qj h).nodup_iff.mp l.hn,by rw[← d9 (qj h)];show l.hl,by rw[←d9 h];show l.hr,λe n=>(qj h).mem_iff.mp<|p9 l e<|e9 (qj h).mem_iff n)
def E5(n:Mp M)(h:aF M N):pn M=pn N:=aap n (E3 n h) (λx=>eP (qj h)) (nt h _) (λS Q hr r l=>hr r<|h.mem_iff.mp l) λS Q hr r l=>hr r<|e9 (eP h) l
def W0(l:Mp M)(hz:z∈bt M)(hb:rX (ft z M) (plc M z)<|plc M<|-z):pn (ft z M)=pn M:=by have(_,PS,s,e):=uE l;have(_,t,n,u):=uE<|zb (z:=z) l;rw[←e,←u];show K43.Ek l hz hb s n
def Wy(l:Mp M)(hz:z∈bt M)(hb:¬ rX (ft z M) (plc M z) (plc M<|-z)):pn (ft z M)=pn M+1:=by have(_,PS,s,e):=uE l;have(_,t,n,u):=uE<|zb (z:=z) l;rw[←e,←u];show K43.Em l hz hb s n
def Jc(l:Mp<|X++Y)(hX:∀e∈bt X, -e∈bt X)(hY:∀e∈bt Y, -e∈bt Y):pn (X++Y)=pn X+pn Y:=by
 have hn:=l.hn;rw[fAq]at hn;have(n1,n2,n3):=nAq.mp hn;have l1:=l.hl;have l2:=l.hr;rw[fAq,lAq]at l1;rw[lAq]at l2;have I:Mp X:=(n1,by lia,by lia,hX);have J:Mp Y:=(n2,by lia,by lia,hY);have(_,PX,P,eX):=uE I;have(_,PY,Q,eY):=uE J;have(_,PA,pA,eA):=uE l;rw[←eX,←eY,←eA];have bX:=DZ (xP I) P;have bY:=DZ (xP J) Q;have qX:=YV P;have qY:=YV Q;have qA:=YV pA;have R:=wB qX;have S:=wB qY;have U:Bp<|cls X PX++cls Y PY:=(by rw[fAq,fAq];show(R.append S).nodup_iff.mpr hn,λp L=>by
   obtain h|h:=mAq.mp L;.show bX.ne p h
   .show bY.ne p h,λp L hb=>by
   obtain h|h:=mAq.mp L;.show bX.ba p h hb
   .show bY.ba p h hb);have:=D7 (DZ (xP l) pA) U (λx=>by rw[eP (wB qA),fAq,fAq,fAq,mAq,mAq,eP R,eP S]) (λp L q hq x O u y=>by
  have(ps,hps,rfl):=mMq.mp L;have(s,_,pc):=pA.pc ps hps;obtain h|h:=mAq.mp hq
  .have(B,n,rfl):=mMq.mp h;have(t,_,E):=P.pc B n;have sub:∀a,a∈bt (B.map λk=>cn X k [])->a∈bt X:=λa ha=>R.mem_iff.mp (e9 mFq (by have(r,hr,G):=mFq.mp ha;show(r,e9 mFq (_,e9 mMq (B,n,rfl),hr),G)));show(GE (xP l) pc (λz H=>xw (xP I) E H) (λr hr a ha b hb h=>?_) O u y,GE (xP I) E (λz H=>xw (xP l) pc H) (λr hr a ha b hb h=>zZ (xP l) pc (ai _ hr) ha hb h) u O y);obtain hr|hr:=mAq.mp hr;.show zZ (xP I) E hr ha hb h
   .show absurd rfl<|n3 a (sub a h) a<|e9 mFq (r,hr,ha)
  .have(B,n,rfl):=mMq.mp h;have(t,_,E):=Q.pc B n;have sub:∀a,a∈bt (B.map λk=>cn Y k [])->a∈bt Y:=λa ha=>S.mem_iff.mp (e9 mFq (by have(r,hr,G):=mFq.mp ha;show(r,e9 mFq (_,e9 mMq (B,n,rfl),hr),G)));show(GE (xP l) pc (λz H=>xw (xP J) E H) (λr hr a ha b hb h=>?_) O u y,GE (xP J) E (λz H=>xw (xP l) pc H) (λr hr a ha b hb h=>zZ (xP l) pc (ah _ hr) ha hb h) u O y);obtain hr|hr:=mAq.mp hr;.show absurd rfl<|n3 a (e9 mFq (r,hr,ha)) a<|sub a h
   .show zZ (xP J) E hr ha hb h) (by simp only[fAq,cAq,nt qA,nt qX,nt qY,cAq]);rw[lAq]at this;rwa [lMq,lMq,lMq]at this
def pn_bare(hk:k<=900):pn (ao k ([]:Ϝ))=k:=by
 have fl:bt (ao k ([]:Ϝ))=[]:=by simp
 have mp:Mp<|ao k ([]:Ϝ):=(by rw[fl];show bA,by rw[fl];show aY _,by rw[aU];lia,λe l=>by rw[fl]at l;cases l);have(_,PS,n,e):=uE mp;have ln:Ln (ao k ([]:Ϝ)) []:=(λx y=>by
  have:PC (ao k ([]:Ϝ))=[]:=by delta K18.PC;rw[je];intro r hr;rw[(List.mem_replicate.mp hr).2];rfl
  rw[this];rfl,λc s=>by cases s);have(g,eq):=ON _ rfl mp (λe l=>by rw[fl]at l;cases l) (by rw[aU];show hk) n ln;have le:=n.len;delta Pv at eq;rw[fl,aU,List.count_replicate_self,e]at eq;rw[aU,e]at le;simp only[cw]at eq;lia
end
end K47
namespace K47
open PySem L2 Mr Z Xe Zl
open K18 (PC wF pN tD cp Ln nL qf GR JW ON wC)
open K43 (xP vP wt zb ya Da MC)
open K51 (rX Ps Pc)
structure Mv (M:Λ):Prop where
 mp:Mp M
 nz:∀e∈M.flatten,e≠0
 lv:M.length<=450
 le:M.flatten.length<=450
def Bl(M:Λ):Prop:=∃l,Ln M l/\4*pn M+de (bt M)=2*de M+2*nL M l
def Z7(h:Mv M)(ln:Ln M l):∃g:Nat,4*pn M+de (bt M)=2*de M+2*nL M l+4*g:=by have(_,PS,n,e):=uE h.mp;rw[←e];show ON _ rfl h.mp h.nz (by have:=h.lv;lia) n ln
def Bl.any(h:Mv M)(b:Bl M)(ln:Ln M l):4*pn M+de (bt M)=2*de M+2*nL M l:=by have(s,n,e):=b;rw[e,A1 h.mp n ln]
def Mv.cut(h:Mv M):Mv<|ft z M:=(zb h.mp,λe l=>h.nz e (wt.mp l).1,by rw[ya];show h.lv,by
 have:=h.le;have:de (ft z M).flatten<=de (bt M):=by rw[aAt];show cU _ _
 lia)
def W4(l:Mp M)(hz:z∈bt M)(n:z ≠ -z):de (ft z M).flatten+2=de (bt M):=by
 have hw:=zb (z:=z) l;have pm:aF (bt M)<|z :: -z::bt (ft z M):=by
  rw[bp l.hn (by
   show e9 au (?_,e9 au (λh=>(wt.mp h).2.2 rfl,hw.hn));intro h;obtain q|q:=ae.mp h;.show n q
   .show(wt.mp q).2.1 rfl)];intro x;rw[ae,ae,wt];constructor
  .intro h;by_cases s:x=z;.show jE s
   .by_cases t:x = -z;.show iq<|jE t
    .show iq<|iq (h,s,t)
  .rintro(q|q|q);.rw[q];show hz
   .rw[q];show p9 l z hz
   .show q.1
 have:=d9 pm;simp only[lCq,lCq]at this;simp +arith[*]
def Bl.cut(h:Mv M)(b:Bl M)(hz:z∈bt M):Bl<|ft z M:=by
 have H:=h.nz z hz;have n:z ≠ -z:=by simp +arith[*]
 have(I,L2,u,t,x):=JW h.mp (by have:=h.lv;lia) hz n;have J:=b.any h u;have(g,B):=Z7 (h.cut) t;have l:=W4 h.mp hz n;have s:pn (ft z M)=pn M+(if MC M z=t_ then 1 else 0):=by
  delta K43.MC;by_cases q:rX (ft z M) (plc M z) (plc M<|-z);.rw[W0 h.mp hz q,pW<|by simp[q]];rfl
  .rw[Wy h.mp hz q,pZ<|by simp[q]]
 show(L2,t,?_);simp only[ya]at B ⊢;obtain E|⟨E,G⟩:=x
 .by_cases q:MC M z=t_;.rw[pZ q]at s;lia
  .rw[pW q]at s;lia
 .rw[G,pW ⋯]at s;lia
noncomputable def kp(S:Int->Bool)(M:Λ):Λ:=M.map λr=>r.filter S
def C7(S)M:bt (kp S M)=M.flatten.filter S:=by delta kp;rw[jC]
def Bl.filter:∀n {M}{S},de (M.flatten.filter λe=>!S e)=n->Mv M->(∀e∈bt M,S (-e)=S e)->Bl M->Bl (kp S M):=by intro n;induction n using eQ with
 |_ n B=>intro M S hn h t b;cases hf:M.flatten.filter λe=>!S e with
  |nil=>
   have all:∀e∈bt M,S e=t_:=λe l=>by cases q:S e with
    |true=>rfl
    |false=>have:e∈M.flatten.filter λe=>!S e:=e9 ax (l,by rw[q];rfl);rw[hf]at this;cases this
   have:kp S M=M:=fq (mCq (g:=id) λr hr=>e9 fK λe l=>all e<|e9 mFq (r,hr,l))<|eK _;rw[this];show b
  |cons z rest=>
   have u:z∈M.flatten.filter λe=>!S e:=by rw[hf];show aa ..
   have(x,E):=ax.mp u;have sz:S z=f_:=by simpa using E
   have s:S (-z)=f_:=by rw[t z x];show sz
   have same:kp S (ft z M)=kp S M:=by delta kp ft;rw[mPq];show mCq λr Q=>?_;change(oK z r).filter S=r.filter S;delta oK;rw[gF];show gf λe Q=>?_;cases q:S e with
    |false=>rfl
    |true=>have:e≠z/\e ≠ -z:=(λw=>(by rw[w,sz]at q;cases q),λw=>(by rw[w,s]at q;cases q));simp[this.1,this.2]
   rw[←same];show B _ ?_ rfl (h.cut (z:=z)) (λe l=>t e (wt.mp l).1)<|b.cut h x;rw[←hn,aAt];delta oK;rw[gF];have lt:de (M.flatten.filter λe=>(!S e) && !decide (e∈[z, -z]))<de (M.flatten.filter λe=>!S e):=by
    have G:(M.flatten.filter λe=>(!S e) && !decide (e∈[z, -z]))=(M.flatten.filter λe=>!S e).filter λe=>!decide (e∈[z, -z]):=by rw[gF];show gf λe Q=>Bool.and_comm ..
    rw[G];show e9 List.length_filter_lt_length_iff_exists (z,u,by simp)
   show lt
end K47
namespace K54
open PySem L2 Mr Z Xe Zl
open K18 (Ln nL wC)
open K43 (xP getD_some)
open K47 (pn uE Bl Mv)
open K51 (rX)
open K52 (Fm Sw Wi run stp Fin frm ux Bu vL yD)
def Vs(h:Wi M s)(t:¬ Fin s):de (ug<|stp M s)+de (stp M s).cb+de (stp M s).cl=de (ug s)+de s.cb+de s.cl+1:=by have(st,cl,cb,th):=s;cases st with
 |nil=>show j5 h.ch
 |cons f fs=>cases q:f.r with
  |cons e r=>
   by_cases c:plc M (-e)∈((f::fs,cl,cb,th):Sw).ks
   .have l:stp M (f::fs,cl,cb,th)=(f.tell e r::fs,cl,cb,th++[%["side"|e]]):=by delta Vf;simp only[q];rw[pZ c]
    rw[l];delta ug;rw[xO,pZ rfl,lAq,lSq];dsimp only;rfl'
   .have l:stp M (f::fs,cl,cb,th)=((plc M<|-e,[-e],[],frm M<|-e)::f.tell e r::fs,cl,cb++[%[plc M<|-e|-e]],th++[%["down"|e]]):=by delta Vf;simp only[q];rw[pW c]
    rw[l];delta ug;rw[xO,pW ⋯,aNq];dsimp only;rw[lAq,lSq];rfl'
  |nil=>cases fs with
   |nil=>show absurd (f,rfl,q) t
   |cons g n=>
    have((x,d,u,z),ch):=h.ch;have l:stp M (f::g::n,cl,cb,th)=(g::n,f.p::cl,cb,th++[%["up"|x]]):=by delta Vf;simp only[q,u]
    rw[l];delta ug;rw[xO,pW ⋯,aNq];skip;rw[lCq];rfl'
theorem Qb(l:Mp M)(t:0<de M)(one:∀k,k<de M->rX M 0 k):∀n,n<=de (bt M)->de (ug<|run M n)+de (run M n).cb+de (run M n).cl=n
 |0,_=>rfl
 |n+1,hn=>by
  have u:=Qb l t one n<|by rfl'
  have:=Vs (ux l t n) (Bu l t one<|by rfl').2.2.2;change(de (ug<|stp M<|run M n))+de (stp M<|run M n).cb+de (stp M<|run M n).cl=_;simp +arith[*]
def RY(l:Mp M)(n:0<de M)(one:∀k,k<de M->rX M 0 k):de (ug<|run M<|de (bt M))+2*de M=de (bt M)+2:=by
 have a:=Qb l n one (de (bt M))<|ag _;have w:=ux l n<|de (bt M);have(f,e,_):=vL l n one;have x:=(w.whole l (vL l n one) one).2.1;have z:de (run M<|de (bt M)).ks=de (run M<|de (bt M)).cb+1:=by delta K52.Sw.ks;rw[lCq,lMq]
 have t:=e9 (bp w.nd w.kn) λk=>(w.ck k).symm;have u:=d9 t;rw[lAq,e]at u;have B:de ([f].map (·.p))=1:=rfl;lia
def aaH(l:Mp M)(n:0<de M)(one:∀k,k<de M->rX M 0 k):pn M=1:=by have(kn,PS,t,e):=uE l;rw[←e];show K51.Ie t n λa b ha hb=>sX ((one a ha).symm<|xP l)<|one b hb
end K54
namespace K54
open PySem L2 Mr Z Xe Zl
open K43 (xP getD_some)
open K51 (rX)
open K52 (Fm Sw Wi run stp Fin Go EO Fq ux Bu vL yD)
def Ya(u:Mp M)(h:Wi M s)(E:x∈s.th.map (·.2)):plc M x∈s.ks:=by
 rw[h.ck];obtain z|z:=mAq.mp<|h.tl.mem_iff.mp E;.have(f,hf,l):=bx.mp z;rw[((h.ok f hf).mem u<|by show ai _<|ah _ l).2];show ai _<|e9 mMq (f,hf,rfl)
 .have(p,B,n):=bx.mp z;rw[plc_eq u.hn (getD_some<|h.lc p B) n];show ah _ B
def W6{p:Nat}(h:l5 (EO s) (aO (p:Int))=aB (b7 v)):v∈s.cb.map (·.2):=by
 have(q,n,l):=oMq.mp h;have:=List.mem_of_find?_eq_some n;obtain z|z:=ae.mp this;.rw[z]at l;cases l
 .have(c,u,rfl):=mMq.mp z;have:=l;cases this;show e9 mMq (c,u,rfl)
structure Si (M:Λ)(s:Sw):Prop where
 dn:∀e,%["down"|e]∈s.th->-e∈s.cb.map (·.2)
 up:∀e,%["up"|e]∈s.th->e∈s.cb.map (·.2)
 sd:∀e,%["side"|e]∈s.th->e∉s.cb.map (·.2)/\-e∉s.cb.map (·.2)
 vt:∀v∈s.cb.map (·.2),%["down"|-v]∈s.th
 pl:∀c∈s.cb,plc M c.2=c.1
 wd:∀x∈s.th,x.1 = "down" ∨ x.1 = "up" ∨ x.1 = "side"
def Si.step(L:Mp M)(w:Wi M s)(h:Si M s)(hn:s.cur∉s.th.map (·.2))(g:Go M s t):Si M t:=by
 have n:∀{w:String}{e:Int},%[w|e]∈s.th->e∈s.th.map (·.2):=λh=>e9 mMq (_,h,rfl);have last:∀{a b:String}{e f:Int},%[a|e]∈s.th++[%[b|f]]->%[a|e]∈s.th∨(a=b/\e=f):=λh=>by
  obtain z|z:=mAq.mp h;.show jE z
  .have:=mSq.mp z;show iq (congrArg kK this,congrArg Prod.snd this)
 obtain⟨a,b,c,_,_⟩|⟨a,b,c,_,_,_,_⟩|⟨a,b,c,⟨v,G,H⟩,_,_,_⟩:=g
 .show(λe l=>?_,λe l=>?_,λe l=>?_,λv B=>?_,by rw[b];show h.pl,λx u=>?_)
  .rw[a]at l;rw[b];obtain z|⟨z,_⟩:=last l;.show h.dn e z
   .show absurd z ⋯
  .rw[a]at l;rw[b];obtain z|⟨_,z⟩:=last l;.show h.up e z
   .rw[z];show W6 c
  .rw[a]at l;rw[b];obtain z|⟨z,_⟩:=last l;.show h.sd e z
   .show absurd z ⋯
  .rw[b]at B;rw[a];show ai _<|h.vt v B
  .rw[a]at u;obtain z|z:=mAq.mp u;.show h.wd x z
   .rw[mSq.mp z];show iq<|jE rfl
 .have cv:t.cb.map (·.2)=s.cb.map (·.2)++[-s.cur]:=by rw[b,mBq];rfl
  show(λe l=>?_,λe l=>?_,λe l=>?_,λv B=>?_,λx u=>?_,λx u=>?_)
  .rw[a]at l;rw[cv];obtain z|⟨_,z⟩:=last l;.show ai _<|h.dn e z
   .rw[z];show ah _<|e9 mSq rfl
  .rw[a]at l;rw[cv];obtain z|⟨z,_⟩:=last l;.show ai _<|h.up e z
   .show absurd z ⋯
  .rw[a]at l;rw[cv];obtain z|⟨z,_⟩:=last l
   .have(O,P):=h.sd e z;have Q:e ≠ -s.cur:=λq=>c<|by rw[←q];show Ya L w<|n z
    have R:-e ≠ -s.cur:=λq=>hn (by
     have:s.cur=e:=by lia
     rw[this];show n z);show(λq=>?_,λq=>?_)
    .obtain q|q:=mAq.mp q;.show O q
     .show Q<|mSq.mp q
    .obtain q|q:=mAq.mp q;.show P q
     .show R<|mSq.mp q
   .show absurd z ⋯
  .rw[cv]at B;rw[a];obtain z|z:=mAq.mp B;.show ai _<|h.vt v z
   .rw[mSq.mp z,bf];show ah _<|e9 mSq rfl
  .rw[b]at u;obtain z|z:=mAq.mp u;.show h.pl x z
   .rw[mSq.mp z]
  .rw[a]at u;obtain z|z:=mAq.mp u;.show h.wd x z
   .rw[mSq.mp z];show jE rfl
 .show(λe l=>?_,λe l=>?_,λe l=>?_,λv B=>?_,by rw[b];show h.pl,λx u=>?_)
  .rw[a]at l;rw[b];obtain z|⟨z,_⟩:=last l;.show h.dn e z
   .show absurd z ⋯
  .rw[a]at l;rw[b];obtain z|⟨z,_⟩:=last l;.show h.up e z
   .show absurd z ⋯
  .rw[a]at l;rw[b];obtain z|⟨_,z⟩:=last l;.show h.sd e z
   .rw[z];show(λq=>?_,λq=>?_)
    .have(p,I,J):=mMq.mp q;have pp:=h.pl p I;rw[J]at pp;have E:%[p.1|s.cur]∈s.cb:=by rw[←J];show I
     have S:=Fq w.kn E;rw[pp,S]at G;cases G;rw[IZ,d5 rfl]at H;cases H
    .have:=h.vt _ q;rw[bf]at this;show hn<|n this
  .rw[b]at B;rw[a];show ai _<|h.vt v B
  .rw[a]at u;obtain z|z:=mAq.mp u;.show h.wd x z
   .rw[mSq.mp z];show iq<|iq rfl
theorem MY(l:Mp M)(u:0<de M)(one:∀k,k<de M->rX M 0 k):∀n,n<=de (bt M)->Si M (run M n)
 |0,_=>(λe h=>(by cases h),λe h=>(by cases h),λe h=>(by cases h),λv h=>(by cases h),λc h=>(by cases h),λx h=>(by cases h))
 |n+1,hn=>by
  have(_,b,c,_):=Bu l u one<|show n<de (bt M) by rfl'
  show(MY l u one n<|by rfl').step l (ux l u n) b c
def U0(n:Mp M)(H:0<de M)(one:∀k,k<de M->rX M 0 k):Mp [ug<|run M<|de (bt M)]:=by
 have w:=ux n H<|de (bt M);have B:=MY n H one (de (bt M))<|ag _;have(_,_,E):=w.whole n (vL n H one) one;have I:bt [ug<|run M<|de (bt M)]=ug (run M<|de (bt M)):=by simp
 have sb:dD (ug<|run M<|de (bt M)) ((run M<|de (bt M)).th.map (·.2)):=bH.map _;have mem:∀{x:Int},x∈ug (run M<|de (bt M))↔%["side"|x]∈(run M<|de (bt M)).th:=λ{x}=>by
  constructor;.intro h;have(q,G,e):=mMq.mp h;have(J,L):=ax.mp G;have:q=%["side"|x]:=jF (of_decide_eq_true L) e;rw[←this];show J
  .show λh=>e9 mMq (_,e9 ax (h,by rfl),rfl)
 have R:=oJ sb;have S:=d9 E;have hl:=n.hl;show(by rw[I];show(e9 (lW E) n.hn).sublist sb,by rw[I];lia,by simp,λx u=>?_);rw[I]at u ⊢;have u:=mem.mp u;have(O,P):=B.sd x u;have Q:=e9 (eP E)<|p9 n x<|E.mem_iff.mp<|e9 mMq (_,u,rfl);have(q,G,e):=mMq.mp Q;have l:%[q.1|-x]∈(run M<|de (bt M)).th:=by rw[←e];show G
 obtain z|z|z:=B.wd q G;.rw[z]at l;have:=B.dn _ l;rw[bf]at this;show absurd this O
 .rw[z]at l;show absurd (B.up _ l) P
 .rw[z]at l;show e9 mem l
end K54
namespace K41
open PySem L2 Mr Z Xe Zl
noncomputable def thn(g t:Ϝ):Ϝ:=t.filter λe=>!decide (e∈g)
def pst(g:Ϝ)(M:Λ):Λ:=M.map<|thn g
end K41
namespace K41
open PySem L2 Mr Z Xe Zl
open K51 (rX Pc)
noncomputable def ab(i:Int):Int:=if i<0 then -i else i
def ab_ i:(if i<0 then -i else i)=ab i:=rfl
end K41
namespace K41
open PySem L2 Mr Z Xe Zl K31
def Oi x:ab (-x)=ab x:=by delta ab;split <;> split <;> lia
end K41
namespace K45
open PySem L2 Mr Z Xe Zl K31 K41
open K51 (rX Pc)
def gr(r:Ϝ):Ϝ:=(r.map ab)++(r.map ab).map λz=>-z
def Tch(M:Λ)(z:Int)(a:Nat):Prop:=∃e row,M[a]?=aB row/\e∈row/\ab e=z
def Lk(M:Λ)(r:Ϝ)(p:Nat)(z l:Int):Prop:=∃a b,a≠p/\b≠p/\Tch M z a/\Tch M l b/\rX (pst (gr r) M) a b
structure Fam (E:Int->Int->Prop)(U:Ϝ)(X:Λ):Prop where
 so:∀x∈X,vH x=x
 ne:∀x∈X,x≠[]
 fl:X.flatten.Perm U
 eq:∀x∈X,∀z∈x,∀z'∈x,E z z'
 on:∀x∈X,∀y∈X,∀z∈x,∀z'∈y,E z z'->x=y
end K45
namespace K47
open PySem L2 Mr Z Xe Zl
open K18 (PC wF pN tD cp Ln nL qf)
open K41 (ab Oi pst thn)
open K45 (gr Tch Lk Fam)
open K51 (rX Ps)
section
variable {N:Λ}
def Mv.perm(h:Mv M)(p:aF M N):Mv N:=(E3 h.mp p,λe l=>h.nz e<|e9 (qj p).mem_iff l,by rw[←d9 p];show h.lv,by rw[← d9 (qj p)];show h.le)
def Bl.perm(h:Mp M)(p:aF M N)(b:Bl M):Bl N:=by have(l,ln,e):=b;show(l,ln.congr λq=>fx (tD p q),?_);rw[←E5 h p,← d9 (qj p),←d9 p,e];delta Pv;rw[nt p]
def Zk(h:Mv M)(u:∀e∈bt M,S (-e)=S e):Mv<|kp S M:=by
 have sub:dD (kp S M).flatten<|bt M:=by rw[C7];show bH
 have le:=oJ sub;have n:de (kp S M)=de M:=lMq _;show((h.mp.hn.sublist sub,by have:=h.mp.hl;lia,by rw[n];show h.mp.hr,λe l=>?_),λe l=>h.nz e<|sub.subset l,by rw[n];show h.lv,by have:=h.le;lia);rw[C7]at l ⊢;have(t,x):=ax.mp l;show e9 ax (p9 h.mp e t,by rw[u e t];show x)
end
def rest(Y:Λ)(r:Ϝ):Ϝ:=r.filter λe=>Y.any λy=>decide<|ab e∈y
end K47
namespace K54
open PySem L2 Mr Z Xe Zl
open K18 (Ln nL wC PC cp qf rS)
structure Wo (W:Ϝ):Prop where
 nd:W.Nodup
 ng:∀x∈W, -x∈W
 nz:∀x∈W,x≠0
 le:W.length<=400
section
variable {A B:Ϝ}
def Wo.mp(h:Wo W):Mp [W]:=by
 have l:bt [W]=W:=by simp
 have:=h.le;show(by rw[l];show h.nd,by rw[l];lia,by simp,by rw[l];show h.ng)
def Wo.sub{V}(w:Wo W)(s:dD V W)(ng:∀x∈V, -x∈V):Wo V:=(w.nd.sublist s,ng,λx l=>w.nz x<|s.subset l,bI (oJ s) w.le)
def OG(z:Wo<|A++B)(s:Ln [A++B] u):∃t,Ln [x::(A ++ -x::B)] t/\(nL [x::(A ++ -x::B)] t=nL [A++B] u+1∨nL [x::(A ++ -x::B)] t+1=nL [A++B] u):=by
 have I:∀{C D:Ϝ},C≠[]->D≠[]->∀L,nL [C] L=nL [D] L:=λ{C D} hC hD L=>by delta Pv;rw[e9 cL λq=>hC<|fx (mSq.mp q),e9 cL λq=>hD<|fx (mSq.mp q)]
 have rot:∀{C D L:Ϝ}{t:Λ},C++D≠[]->Ln [D++C] t->Ln [C++D] t:=λ{C D L t} _ h=>h.congr λq=>by change(K18.cp (C++D)++[]).count q=(K18.cp (D++C)++[]).count q;rw[aNq,aNq];show rS C D q
 cases A with
 |nil=>have(L2,l,n):=Ln.open s (i:=0) (r:=[]) (L:=B) rfl x;show(L2,l,jE n)
 |cons a A=>cases B with
  |nil=>
   rw[aNq]at s ⊢;have(L2,l,n):=Ln.open s (i:=0) (r:=[]) (L:=a::A) rfl<|-x;have l:Ln [[-x]++(x::a::A)] L2:=by rw[bf]at l;show l
   have n:nL [[-x]++(x::a::A)] L2=nL [a::A] u+1:=by rw[bf]at n;show n
   show(L2,rot (C:=x::a::A) (D:=[-x]) (L:=[]) ⋯ l,jE ?_);rw[←n];show I ⋯ ⋯ _
  |cons b B=>
   have ab:a≠b:=λq=>(nAq.mp z.nd).2.2 a (aa ..) b (aa ..) q;have key:∃L2,Ln [a::A,b::B] L2/\(nL [a::A,b::B] L2=nL [a::A++b::B] u+1∨nL [a::A,b::B] L2+1=nL [a::A++b::B] u):=by
    have(c,E,ac):=K18.BK z.mp s (x:=a) ⋯;have(d,hd,G):=K18.BK z.mp s (x:=b) ⋯;by_cases q:c=d;.subst q;have(L2,l,n):=K18.NO s z.mp ab E ac G;show(L2,l,jE n)
    .have(L2,l,n,_):=Ln.join s z.mp.hn E hd q ac G;show(L2,l,iq n)
   have(L2,l,n):=key;have(H,J,M):=Ln.loop l ab x;show(H,J,?_);have:nL [x::(a::A ++ -x::b::B)] H=nL [a::A,b::B] L2:=M;rw[this];show n
def Wo.out(w:Wo<|x::(A ++ -x::B)):Wo (A++B)/\x∉A++B/\-x∉A++B:=by
 have(z,l):=au.mp w.nd;have sub:dD (A++B)<|x::(A ++ -x::B):=.cons _<|dD.append (.refl _)<|.cons _<|.refl _;have s:x∉A++B:=λn=>z<|by obtain h|h:=mAq.mp n <;> simp[h]
 have t:-x∉A++B:=λn=>by
  rw[nAq]at l;obtain h|h:=mAq.mp n;.show l.2.2 (-x) h (-x) (aa ..) rfl
  .show(au.mp l.2.1).1 h
 show(w.sub sub λy n=>?_,s,t);have u:=w.ng y<|sub.subset n;simp only[ae,mAq]at u ⊢;obtain h|h|h|h:=u;.show absurd (show -x=y by simp +arith[*]) λq=>t<|q ▸ n
 .show jE h
 .show absurd (show x=y by lia) λq=>s<|q ▸ n
 .show iq h
def GG:∀n {W},de W=n->Wo W->∀{s},Ln [W] s->∃g,de W+2=2*nL [W] s+4*g:=by intro n;induction n using eQ with
 |ind n u=>intro W hn w s ln;cases W with
  |nil=>have l:Ln [[]] []:=(λx y=>rfl,λc z=>(by cases z));rw[A1 w.mp ln l];show(0,rfl)
  |cons x R=>
   have E:=w.nz x<|aa ..;have m:=pX (ae.mp<|w.ng x<|aa ..) λq=>E ∅;have(A,B,rfl):=bu m;have t:=w.out.1;have hl:de (x::(A ++ -x::B))=de (A++B)+2:=by simp;rfl'
   have(H,l):=wC t.mp;have(g,i0):=u (de (A++B)) ∅ rfl t l;have(I,G,e):=OG t l;rw[A1 w.mp ln G];obtain e|e:=e;.show(g,by lia)
   .show(g+1,by lia)
def Bw(W:Ϝ):Prop:=∃l,Ln [W] l/\de W+2=2*nL [W] l
def Bw.rot(b:Bw<|A++B):Bw<|B++A:=by
 have(n,l,e):=b;show(n,l.congr λq=>?_,?_);.change(cp (B++A)++[]).count q=(cp (A++B)++[]).count q;rw[aNq,aNq];show rS B A q
 .have:([A++B]).count []=([B++A]).count []:=by cases A <;> cases B <;> rfl
  delta Pv at e ⊢;simp only[←this,←e,lAq,lAq];rfl'
def Bw.cut(w:Wo W)(b:Bw W)(G:x∈W):Bw<|W.filter λz=>!decide (z=x∨z = -x):=by
 have(C,D,rfl):=bu G;have pm:aF (x::(D++C))<|C++x::D:=(ay (l₁:=x::D));have l:Wo<|x::(D++C):=(e9 (lW pm) w.nd,λy n=>e9 (eP pm)<|w.ng y<|pm.mem_iff.mp n,λy n=>w.nz y<|pm.mem_iff.mp n,by rw[d9 pm];show w.le);have b1:Bw<|x::(D++C):=Bw.rot b;have H:=l.nz x<|aa ..;have m:=pX (ae.mp<|l.ng x<|aa ..) λq=>H ∅;have(A,B,e):=bu m;rw[e]at l b1;have(s,I,J):=l.out;have(L,t):=wC s.mp;have(g,i0):=GG _ rfl s t;have(S,M,q):=OG s t;have(U,O,P):=b1;rw[A1 l.mp O M]at P;have hl:de (x::(A ++ -x::B))=de (A++B)+2:=by simp;rfl'
 have u:(D++C).filter (λz=>!decide (z=x∨z = -x))=A++B:=by rw[e,cu,bZ ⋯,←cu];show e9 fK λz E=>?_;have Q:z≠x:=λq=>I<|q ▸ E;have R:z ≠ -x:=λq=>J<|q ▸ E;simp[Q,R]
 rw[cu,bZ ⋯];rw[cu]at u;show Bw.rot ?_;rw[u];show(L,t,by lia)
def Bw.filter(hS:∀e,S (-e)=S e):∀n {W},de W=n->Wo W->Bw W->Bw (W.filter S):=by intro n;induction n using eQ with
 |ind n u=>
  intro W hn w b;by_cases c:∃x∈W,S x=f_
  .have(x,s,t):=c;have sub:dD (W.filter λz=>!decide (z=x∨z = -x)) W:=bH;have lt:de (W.filter λz=>!decide (z=x∨z = -x))<n:=by rw[←hn];show Nat.lt_of_le_of_ne (oJ sub) λq=>by have:=fK.mp (sub.eq_of_length q) x s;simp at this
   have:=u _ lt rfl (w.sub sub λy l=>by rw[ax]at l ⊢;show(w.ng y l.1,?_);have:=l.2;skip;lia)<|b.cut w s;rw[gF,gf λz Q=>?_]at this;.show this
   .by_cases sz:S z=t_
    .have E:z≠x:=λq=>by rw[q,t]at sz;cases sz
     have G:z ≠ -x:=λq=>by rw[q,hS,t]at sz;cases sz
     simp[E,G,sz]
    .rw[e9 jQ sz,kg]
  .rw[e9 fK λz H=>?_];.show b
   .cases q:S z with
    |true=>rfl
    |false=>show absurd (z,H,q) c
def YL(h:Wo<|A++x :: -x::B)(h':Wo<|A++B):Bw (A++x :: -x::B)↔Bw (A++B):=by
 have(u,l):=wC h'.mp;have(L2,n,z):=Ln.open l (i:=0) rfl x;have E:fb ([A++B]) 0 (A++[x]++(-x::B))=[A++x :: -x::B]:=by simp
 rw[E]at n z;have H:de (A++x :: -x::B)=de (A++B)+2:=by simp;rfl'
 constructor;.rintro⟨G,s,t⟩;show(u,l,?_);rw[A1 h.mp s n]at t;lia
 .rintro⟨G,s,t⟩;show(L2,n,?_);rw[A1 h'.mp s l]at t;lia
def ab3:Bw []:=by show([],(λx y=>rfl,λc l=>(by cases l)),rfl)
def Oc(h:Wo [x,y, -x, -y]):¬ Bw [x,y, -x, -y]:=by
 rintro⟨z,l,e⟩;have ln:Ln [[x,y, -x, -y]] [[-x,y,x, -y]]:=by show(λu v=>?_,λc n=>by rw[mSq.mp n];simp);have s:PC [[-x,y,x, -y]]=[%[-x|y],%[y|x],%[x|-y],%[-y|-x]]:=rfl;have t:PC [[x,y, -x, -y]]=[%[x|y],%[y|-x],%[-x|-y],%[-y|x]]:=rfl;simp only[s,t];simp only[K18.rO,bG,K18.vV,bf];rfl'
 rw[A1 h.mp l ln]at e;have:nL [[x,y, -x, -y]] [[-x,y,x, -y]]=1:=rfl;rw[this]at e;simp at e
def bl_cross{C n s:Ϝ}(h:Wo<|A++x::(B++y::(C ++ -x::(n ++ -y::s)))):¬ Bw (A++x::(B++y::(C ++ -x::(n ++ -y::s)))):=by
 intro b;have pm:aF (A++x::(B++y::(C ++ -x::(n ++ -y::s))))<|[x,y, -x, -y]++(A++B++C++n++s):=by rw[cF];simp only[cAq,bS,bG];lia
 have nd:=pm.nodup_iff.mp h.nd;have(t,O,u):=nAq.mp nd;have out:∀L:Ϝ,(∀z∈L,z∈A++B++C++n++s)->L.filter (λz=>decide<|z∈[x,y, -x, -y])=[]:=λL E=>by rw[fT];intro z l q;show u z (of_decide_eq_true q) z (E z l) rfl
 have G:=out A λz l=>by simp[l]
 have H:=out B λz l=>by simp[l]
 have hC:=out C λz l=>by simp[l]
 have I:=out n λz l=>by simp[l]
 have J:=out s λz l=>by simp[l]
 have i1:decide (x∈[x,y, -x, -y])=t_:=by simp
 have i2:decide (y∈[x,y, -x, -y])=t_:=by simp
 have i3:decide (-x∈[x,y, -x, -y])=t_:=by simp
 have i4:decide (-y∈[x,y, -x, -y])=t_:=by simp
 have M:(A++x::(B++y::(C ++ -x::(n ++ -y::s)))).filter (λz=>decide<|z∈[x,y, -x, -y])=[x,y, -x, -y]:=by simp only[cu,G,bW (p:=λz=>decide<|z∈[x,y, -x, -y]) i1,cu,H,bW (p:=λz=>decide<|z∈[x,y, -x, -y]) i2,cu,hC,bW (p:=λz=>decide<|z∈[x,y, -x, -y]) i3,cu,I,bW (p:=λz=>decide<|z∈[x,y, -x, -y]) i4,J];rfl
 have b2:=Bw.filter (S:=λz=>decide<|z∈[x,y, -x, -y]) (λe=>by show e9 decide_eq_decide ?_;simp only[ae,cP,or_false];lia) _ rfl h b;rw[M]at b2;show Oc (t,λz l=>?_,λz l=>h.nz z<|e9 (eP pm)<|ai _ l,by simp) b2;simp only[ae,cP,or_false]at l ⊢;lia
noncomputable def Lm:Ϝ->Ϝ->Bool
 |_,[]=>t_
 |op,e::l=>if -e∈op then (if op.head?=aB (-e)then Lm op.tail l else f_)else Lm (e::op) l
theorem Jn:∀(n op:Ϝ),Wo (dw op++n)->(∀z∈op, -z∈n)->(Lm op n=t_↔Bw (dw op++n))
 | [],op,w,t=>by
  have:op=[]:=by cases op with
   |nil=>rfl
   |cons z op=>show absurd (t z<|aa ..) ⋯
  subst this;show(λZ=>ab3,λZ=>rfl)
 |e::n,op,w,t=>by
  have J:dw (e::op)++n=dw op++e::n:=by simp
  unfold Lm;by_cases c:-e∈op;.rw[pZ c];cases op with
   |nil=>cases c
   |cons z l=>
    by_cases d:z = -e
    .subst d;have eq:dw (-e::l)++e::n=dw l ++ -e :: - -e::n:=by simp
     have E:Wo<|dw l ++ -e :: - -e::n:=by rw[←eq];show w
     have pm:aF (dw l ++ -e :: - -e::n)<|-e :: - -e::(dw l++n):=m9 fJ<|aF.cons _ fJ;have nd:=pm.nodup_iff.mp E.nd;have(L,O):=au.mp nd;have(R,S):=au.mp O;have M:Wo<|dw l++n:=(S,λx G=>by
      have H:=pm.mem_iff.mp<|E.ng x<|e9 (eP pm)<|mCo _<|mCo _ G;obtain q|q:=ae.mp H;.show absurd (by rw[show - -e=x by lia];show G) R
      .obtain q|q:=ae.mp q;.show absurd (mCo _<|by rw[show -e=x by simp +arith[*]];show G) L
       .show q,λx G=>E.nz x<|e9 (eP pm)<|mCo _<|mCo _ G,by have:=d9 pm;have:=E.le;simp only[lCq]at *;lia);have I:∀z∈l, -z∈n:=λz s=>by
      obtain q|q:=ae.mp<|t z<|mCo _ s;.show absurd (mCo _<|ai _<|e9 bB<|by rw[show -e=z by lia];show s) L
      .show q
     rw[pZ<|show(-e::l).head?=aB (-e)from rfl,eq,YL E M];show Jn n l M I
    .rw[pW<|show ¬ (z::l).head?=aB (-e)from λq=>d<|aB.inj q];show(λq=>(by cases q),λb=>?_);exfalso;have U:=pX (ae.mp c) λq=>d<|fx q;have s:-z∈n:=by
      obtain q|q:=ae.mp<|t z<|aa ..;.show absurd ∅ d
      .show q
     have(P,Q,X):=bu<|e9 bB U;have(Y,D2,eD):=bu s;have eq:dw (z::l)++e::n=P ++ -e::(Q++z::([] ++ - -e::(Y ++ -z::D2))):=by rw[gc,X,eD];simp
     rw[eq]at w b;show bl_cross w b
  .rw[pW c,←J];show Jn n (e::op) (by rw[J];show w) λz s=>?_;have ne:∀{u:Int},u∈dw op++e::n->u≠0:=λhu=>w.nz _ hu;obtain q|q:=ae.mp s
   .subst q;have H:=w.ng z ⋯;obtain q|q:=mAq.mp H;.show absurd (bB.mp q) c
    .obtain q|q:=ae.mp q;.have:=ne (u:=z) ⋯;lia
     .show q
   .obtain p|p:=ae.mp<|t z q;.show absurd (by rw[show -e=z by lia];show q) c
    .show p
end
end K54
namespace K51
open PySem L2 Mr Z Xe Zl
noncomputable abbrev Hw(x:String×Int):D:=lG [j3 x.1,b7 x.2]
end K51
namespace K54
open PySem L2 Mr Z Xe Zl
open K41 (ab ab_)
open K51 (Hw)
def DM:Ϝ->List (String×Int)->Option (Int×Int)
 |_,[]=>n_
 |op,x::th=>if x.1 = "side" then (if -x.2∈op then (if op.head?=aB (-x.2)then DM op.tail th else aB %[ab x.2|ab<|XA op 0])else DM (x.2::op) th)else DM op th
noncomputable def sds(th:List<|String×Int):Ϝ:=(th.filter λx=>decide<|x.1 = "side").map (·.2)
def Mq(x)th:sds (x::th)=(if x.1 = "side" then [x.2]else [])++sds th:=by
 delta sds;by_cases h:x.1 = "side";.rw[pZ h,bW<|by simpa using h];rfl
 .rw[pW h,bZ<|by simpa using h];rfl
theorem C2:∀th op,DM op th=n_↔Lm op (sds th)=t_
 | [],op=>(λQ=>rfl,λQ=>rfl)
 |x::th,op=>by
  unfold DM;rw[Mq];by_cases h:x.1 = "side"
  .rw[pZ h,pZ h];change _↔Lm op (x.2::sds th)=t_;unfold Lm;by_cases c:-x.2∈op
   .rw[pZ c,pZ c];by_cases d:op.head?=aB (-x.2);.rw[pZ d,pZ d];show C2 th _
    .rw[pW d,pW d];show(λq=>(by cases q),λq=>(by cases q))
   .rw[pW c,pW c];show C2 th _
  .rw[pW h,pW h];show C2 th _
def adj{op:Ϝ}(h:e∉op):ab e∈op.map ab↔-e∈op:=by
 constructor
 .intro q;have(z,n,l):=mMq.mp q;delta K41.ab at l;have:z=e∨z = -e:=by split at l <;> split at l <;> lia
  obtain w|w:=this;.show absurd (w ▸ n) h
  .show w ▸ n
 .show λq=>e9 mMq (_,q,K41.Oi e)
noncomputable def XI(o:Option<|Int×Int):D:=match o with
 |n_=>j0
 |aB p=>lG [b7 p.1,b7 p.2]
def la_(L:Ϝ)y:((L++[y]).map λn=>b8<|b7 n)[de (L++[y])-1]?=i6 y:=by rw[lAq,lSq,dQ,mBq,gYq<|by rw[lMq];show ag _,lMq,cZ];rfl
def ld_(L:Ϝ)y:l8 ((L++[y]).map λn=>b8<|b7 n)=L.map λn=>b8<|b7 n:=by rw[mBq];show cM
def Yh:decide (eB "up" = eB "side")=f_:=by trivial
def RJ:decide (eB "down" = eB "side")=f_:=by trivial
def MD(v0:Option AV)(op:Ϝ)(v2 v3 v4 v5:Option AV):AS:=[v0,aB<|aI<|op.reverse.map ab,v2,v3,v4,v5]
theorem Ae:∀th (op:Ϝ) {v0 v2 v3 v4 v5},c8 (dw op++sds th)->de op+de th<=1000->(∀x∈th,x.1 = "down" ∨ x.1 = "up" ∨ x.1 = "side")->∃S,xh 2 3 pI (th.map Hw) (MD v0 op v2 v3 v4 v5)=aB (match DM op th with|n_=>gb S|aB p=>.rt<|b8<|lG [b7 p.1,b7 p.2])
 | [],op,v0,v2,v3,v4,v5,_,_,_=>(_,rfl)
 |x::th,op,v0,v2,v3,v4,v5,nd,hl,hw=>by
  have t:=λy M=>hw y<|mCo _ M;simp only[lCq]at hl;rw[Mq]at nd;have go:∀{I:AS}{o:E2},pI (MD v0 op (aB<|b8<|j3 x.1) (i6 x.2) v4 v5)=aB (gb I)->xh 2 3 pI (th.map Hw) I=aB o->xh 2 3 pI ((x::th).map Hw) (MD v0 op v2 v3 v4 v5)=aB o:=λ{I o} h1 h2=>by change(pI<|MD v0 op (aB<|b8<|j3 x.1) (i6 x.2) v4 v5).bind _=_;rw[h1];show h2
  have H:=oV<|op.reverse.map ab;by_cases h:x.1 = "side"
  .rw[pZ h]at nd;have ne:x.2∉op:=λq=>(nAq.mp nd).2.2 x.2 (e9 bB q) x.2 ⋯ rfl;have E:decide (eB x.1=eB "side")=t_:=by rw[h];show d5 rfl
   have s:=Na t_ (ab x.2)<|op.reverse.map ab;rw[pZ rfl]at s;have L:ab x.2∈op.reverse.map ab↔-x.2∈op:=by rw[←adj ne,gk,bB]
   by_cases c:-x.2∈op;.rw[d5<|e9 L c]at s;cases op with
    |nil=>cases c
    |cons z l=>
     have J:(z::l).reverse.map ab=l.reverse.map ab++[ab z]:=by simp
     have la:=la_ (l.reverse.map ab)<|ab z;have ld:=ld_ (l.reverse.map ab)<|ab z;rw[J]at s H;by_cases d:z = -x.2
     .have dz:decide (ab z=ab x.2)=t_:=d5<|by rw[d,K41.Oi]
      have u:DM (z::l) (x::th)=DM l th:=by change(if x.1 = "side" then (if -x.2∈z::l then (if (z::l).head?=aB (-x.2)then DM l th else _)else _)else _)=_;rw[pZ h,pZ c,pZ<|by rw[d];rfl]
      have B:pI (MD v0 (z::l) (aB<|b8<|j3 x.1) (i6 x.2) v4 v5)=aB (gb<|MD v0 l (aB<|b8<|j3 x.1) (i6 x.2) (i6<|ab x.2)<|i6<|ab z):=by unfold MD;rw[J];simp! [pI,ab_,E,H,dI,s,la,ld,dz]
      have(S,G):=Ae th l (v0:=v0) (v2:=aB<|b8<|j3 x.1) (v3:=i6 x.2) (v4:=i6<|ab x.2) (v5:=i6<|ab z) (by show nd.sublist ?_;rw[gc,af];show dD.append (.refl _)<|List.sublist_append_of_sublist_right<|gw _ _) (by rw[lCq]at hl;lia) t;show(S,by rw[u];show go B G)
     .have dz:decide (ab z=ab x.2)=f_:=d6 λq=>by
       have O:z≠x.2:=λw=>ne<|by rw[w];show aa ..
       unfold K41.ab at q;have:z=x.2∨z = -x.2:=by split at q <;> split at q <;> lia
       show t6 this O d
      have u:DM (z::l) (x::th)=aB %[ab x.2|ab z]:=by change(if x.1 = "side" then (if -x.2∈z::l then (if (z::l).head?=aB (-x.2)then DM l th else aB %[ab x.2|ab z])else _)else _)=_;rw[pZ h,pZ c,pW<|show ¬ (z::l).head?=aB (-x.2)from λq=>d<|aB.inj q]
      show([],?_);rw[u];change(pI<|MD v0 (z::l) (aB<|b8<|j3 x.1) (i6 x.2) v4 v5).bind _=_;have B:pI (MD v0 (z::l) (aB<|b8<|j3 x.1) (i6 x.2) v4 v5)=aB (.rt<|b8<|lG [b7<|ab x.2,b7<|ab z]):=by unfold MD;rw[J];simp! [pI,ab_,E,H,dI,s,la,ld,dz]
      rw[B];rfl
   .rw[d6 λq=>c<|L.mp q]at s;have u:DM op (x::th)=DM (x.2::op) th:=by change(if x.1 = "side" then (if -x.2∈op then _ else DM (x.2::op) th)else _)=_;rw[pZ h,pW c]
    have P:(op.reverse.map ab).map (λn=>b8<|b7 n)++[b8<|b7<|ab x.2]=((x.2::op).reverse.map ab).map λn=>b8<|b7 n:=by simp
    have Q:de (dw op)<qS:=by rw[iz];change _<16777216;lia
    have B:pI (MD v0 op (aB<|b8<|j3 x.1) (i6 x.2) v4 v5)=aB (gb<|MD v0 (x.2::op) (aB<|b8<|j3 x.1) (i6 x.2) (i6<|ab x.2) v5):=by unfold MD;simp! [pI,ab_,E,H,dI,s,Q,P]
    have(S,G):=Ae th (x.2::op) (v0:=v0) (v2:=aB<|b8<|j3 x.1) (v3:=i6 x.2) (v4:=i6<|ab x.2) (v5:=v5) (by rw[gc,af];show nd) (by rw[lCq];lia) t;show(S,by rw[u];show go B G)
  .rw[pW h,cA]at nd;have E:decide (eB x.1=eB "side")=f_:=by
    obtain q|q|q:=hw x<|aa ..;.rw[q];show RJ
    .rw[q];show Yh
    .show absurd q h
   have u:DM op (x::th)=DM op th:=by change(if x.1 = "side" then _ else DM op th)=_;rw[pW h]
   have B:pI (MD v0 op (aB<|b8<|j3 x.1) (i6 x.2) v4 v5)=aB (gb<|MD v0 op (aB<|b8<|j3 x.1) (i6 x.2) (i6<|ab x.2) v5):=by unfold MD;simp! [pI,ab_,E]
   have(S,G):=Ae th op nd (by rfl') t;show(S,by rw[u];show go B G)
def KH(nd:c8 (sds th))(hl:de th<=1000)(hw:∀x∈th,x.1 = "down" ∨ x.1 = "up" ∨ x.1 = "side"):sr [ew<|th.map Hw]=aB (b8<|XI<|DM [] th):=by have(S,e):=Ae th [] nd (by simpa using hl) hw;have l:xh 2 3 pI (th.map Hw) [i7<|th.map Hw,aB<|d8 [],n_,n_,n_,n_]=_:=e;unfold XI;cases q:DM [] th with
 |none=>rw[q]at l;simp! [sr,vY,NG,l]
 |some p=>rw[q]at l;simp! [sr,vY,NG,l]
end K54
namespace K52
open PySem L2 Mr Z Xe Zl
open K15 (nx GS)
open K18 (pp cp PC DY sR rS Dp uo)
open K43 (xP getD_some)
open K51 (rX Df)
def MB(l:Mp M)(t:0<de M)(one:∀k,k<de M->rX M 0 k):K54.D4 [dM M]=aB (d8<|(run M<|de (bt M)).th.map Df):=by
 have(kn,PS,O,P):=K51.BM<|xP l;have Q:((de PS:Nat):Int)=1:=by rw[K51.Ie O t λa b ha hb=>sX ((one a ha).symm<|xP l)<|one b hb];rfl
 have I:K54.rZ [dM M]=aB (b8 j0):=by simp! [K54.rZ,K54.vB,P,Q]
 have hr:=getD_some t;have u:atI (M.map dI) 0=aB (dI<|cn M 0 []):=uS (j:=0)<|by rw[gMq,hr];rfl
 have hl:=l.hl;have hv:=l.hr;cases q:cn M 0 []with
 |nil=>
  rw[q]at u hr;have x:∀k,rX M 0 k->k=0:=λk hk=>by induction hk with
   |base=>rfl
   |step _ a b R=>rw[R,hr]at a;cases a;cases b
  have U:de M=1:=by have:=x (de M-1)<|one _ ∅;lia
  have em:M=[[]]:=by match M,U,hr with
   | [r],_,hr=>simp at hr;rw[hr]
  have n:(run M<|de (bt M)).th=[]:=by rw[em];rfl
  rw[n];have z:decide (((0:Nat):Int)=0)=t_:=rfl;have B:atI (M.map dI) 0=aB (ew []):=u;simp! [K54.D4,K54.JE,I,dM,B,z]
 |cons n J=>
  rw[q]at u;have B:atI (b7 n::J.map b7) 0=aB (b7 n):=uS (j:=0) rfl;have X:=AD l.hn ∅;have E:=K51.VJ l.hn l.hl;have ln:de (aAc<|O2 M)=de (bt M):=by rw[K51.Pe,K51.Ia]
  have z:decide (((de J+1:Nat):Int)=0)=f_:=d6 ∅;have Y:(run M 0).cur=n:=by change(XA (cn M 0 []++[])) 0=n;rw[q];rfl
  have key:=wX (c:=rQ<|pQ O7 (vJ rq<|oR (oQ 4) pE)<|vJ KI<|oR (oQ 2) pE) (body:=aAa) (λS=>∃i e s,i<=de (bt M)/\S=UC M (run M i) e s/\(i<de (bt M)->e=(run M i).cur)) (muw<|de (bt M)) (λS=>∃e s,S=UC M (run M<|de (bt M)) e s) (by
   rintro S ⟨i,e,s,hi,rfl,he⟩;have L:=yD l t one i hi;have w:=ux l t i;have lk:=abg l w;show(decide<|i<de (bt M),UC M (run M i) e s,?_,λlt=>?_,λge=>?_)
   .have lm:de ((run M i).th.map Df)=i:=by rw[lMq,L]
    have dc:decide ((i:Int)<(de (bt M):Int))=decide (i<de (bt M)):=e9 decide_eq_decide<|by simp +arith[*]
    unfold UC;simp! [L,ln,dc]
   .have lt:i<de (bt M):=of_decide_eq_true lt;have(g1,g2,g3,g4):=Bu l t one lt;have(e',G,w1,w2):=W8 l g1 g3 ∅ ∅ (v6:=s);rw[he lt];show(_,w1,(i+1,e',G,by lia,rfl,λh=>w2 (Bu l t one h).2.2.2),?_);have l2:=yD l t one (i+1) ∅;change de (bt M)-de ((run M<|i+1).th.map Df)<de (bt M)-de ((run M i).th.map Df);rw[lMq,lMq];lia
   .have:i=de (bt M):=by have:=of_decide_eq_false ge;rfl'
    subst this;show(e,s,rfl)) 100000 (UC M (run M 0) n n_) (0,n,n_,by rfl',rfl,λZ=>fx Y) (by change de (bt M)-_<100000;lia);have(S',H,e,s,rfl):=key;unfold UC at H;have t0:(run M 0).th.map Df=[]:=rfl;have b0:EO (run M 0)=[%[aO 0|j0]]:=rfl;rw[t0,b0]at H;simp! [K54.D4,K54.JE,I,dM,u,dI,B,z,X,E,H]
end K52
namespace K18
open PySem L2 Mr Z Xe Zl
open K12 (cN aP acj yE Nm)
open K11 (ER Cn)
def Wl(last:Λ):Nat->Θ->Prop
 |_,[]=>True
 |h,p::rest=>(p<h/\∃e l n,last[p]?=aB (l++[e])/\last[h]?=aB (-e::n))/\Wl last p rest
theorem Wl.keep:∀{t}{h},Wl last h t->(∀k,k<h->l[k]?=last[k]?)->(∀s,last[h]?=aB s->∃x,l[h]?=aB (s++x))->Wl l h t
 | [],_,_,_,_=>trivial
 |p::rest,h,⟨⟨lt,e,p0,n0,h1,h2⟩,w⟩,hk,hs=>by have(x,u):=hs _ h2;show((lt,e,p0,n0++x,by rw[hk p lt];show h1,u),w.keep (λk z=>hk k ∅) λs n=>([],by rw[hk p lt,n,aNq]))
section
variable {last:Λ}
def XD(A:Λ)l h(y:Ϝ):fb (A++l) (de A+h) y=A++fb l h y:=by rw[fZ _ _<|by rfl',gH]
def U6(hh:h<de last):last[h]?=aB (cn last h []):=by rw[gDq,gEg hh];rfl
end
end K18
namespace K44
open PySem L2 Mr Z Xe Zl
open K18 (Wl Ln nL tL)
open K31 (Wd Os xk sg atL yB w0)
noncomputable def Cm(w:Wd):Λ:=fb w.T w.h<|cn w.T w.h []++dw w.loose
structure Pl (nm:Ϝ)(w:Wd):Prop where
 wl:Wl w.T w.h w.t0.reverse
 ln:∃LL,Ln (Cm w) LL/\nL (Cm w) LL+w.T.length+w.left.length=nm.length+2
def adI(ok:Os nm w n)(hn:c8 (yB nm)):c8 (Cm w).flatten:=by show e9 bP λa=>?_;have hr:=K18.U6 ok.hh;delta Cm;rw[K12.yE a hr,jH];have:=ok.cnt a;have:=bP.mp hn a;lia
def Pl.step(ok:Os nm w n)(hn:c8 (yB nm))(k:Pl nm w)c:Pl nm<|xk f_ w c:=by
 have nd:=adI ok hn;have(T,t0,h,loose,left):=w;have l:h<de T:=ok.hh;have hr:T[h]?=aB (cn T h []):=K18.U6 l;have(wl,O,ln,eu):=k;simp only at wl eu;have I:(Cm (T,t0,h,loose,left))[h]?=aB (cn T h []++dw loose):=aA l;have same:∀y,fb (Cm (T,t0,h,loose,left)) h y=fb T h y:=λy=>dC ..;delta xk;skip;have H:Cm (T,t0,h,loose,left)=fb T h (cn T h []++dw loose):=rfl;generalize cn T h []=r at hr I H;have u:∀x,Wl (fb T h<|r++x) h<|dw t0:=λx=>wl.keep (λj X=>ar ∅) λs L=>(x,by rw[aA l];rw[hr]at L;cases L;rfl);split
 .rename_i q;obtain⟨t,p,Y⟩:∃t p,t0=t++[p]:=(l8 t0,t0.getLast q.2,fx (iA q.2));subst Y;rw[cM,ik];simp only[jd,ko,jW];rw[bU]at wl;have((lt,e,P,Q,R,S),w'):=wl;rw[hr]at S;have U:r = -e::Q:=aB.inj S;rw[U]at I;have cp:(Cm (T,t++[p],h,loose,left))[p]?=aB (P++[e]):=by rw[H,ar ∅];show R
  have(E,G,J):=ln.back nd (show h≠p by lia) I cp;have own:fb T h r=T:=Z.BD hr;have eC:fb (fb (Cm (T,t++[p],h,loose,left)) h<|-e::Q) p (P++[e]++dw loose)=Cm (T,t,p,loose,left):=by rw[same,←U,own];change _=fb T p (cn T p []++dw loose);rw[gDq,R];rfl
  rw[eC]at G J;show(w',E,G,by simp only;lia)
 .split
  .rename_i q;have(z,x,el):=tL q.2;subst el;have e1:atL f_ c (z++[x])=de z:=by change(de (z++[x]))-1=_;rw[lAq,lSq,dQ]
   have e2:cn (z++[x]) (de z) 0=x:=by rw[gDq,iE];rfl
   have e3:ef (z++[x]) (de z)=z:=by rw[eZ<|ag _,cZ];simp
   rw[e1,e2,e3];have B:Cm (fb T h<|r++[x],t0,h,z,left)=Cm (T,t0,h,z++[x],left):=by rw[H];change(fb T h<|r++[x]).set h (cn (fb T h<|r++[x]) h []++dw z)=_;rw[gDq,aA l,dC,bU];change fb T h ((r++[x])++dw z)=fb T h (r++([x]++dw z));rw[af]
   show(u _,O,by rw[B];show ln,by rw[B];simp only[lZq];show eu)
  .cases left with
   |nil=>show(wl,O,ln,eu)
   |cons x left=>
    simp only;simp only[lCq]at eu;generalize sg c x=e;split
    .have(E,G,J):=ln.newp nd I e;have M:de (fb T h<|r++[e])=de T:=lZq;have B:Cm (fb T h (r++[e])++[[-e]],t0++[h],de T,loose,left)=fb T h (r++[e])++[-e::dw loose]:=by
      change(fb T h (r++[e])++[[-e]]).set (de T) (cn (fb T h (r++[e])++[[-e]]) (de T) []++dw loose)=_;have g:cn (fb T h (r++[e])++[[-e]]) (de T) []=[-e]:=by rw[←M];show K11.VL
      rw[g];have:=K18.XD (fb T h<|r++[e]) [[-e]] 0<|[-e]++dw loose;rw[M,iY]at this;show this
     rw[same,←B]at G J;show(?_,E,G,?_)
     .simp only[bU];have gh:(fb T h (r++[e])++[[-e]])[h]?=aB (r++[e]):=by rw[gZq ∅,aA l]
      have gn:(fb T h (r++[e])++[[-e]])[de T]?=aB (-e::[]):=by rw[←M,iE]
      show((l,e,r,[],gh,gn),(u [e]).keep (λj X=>gZq ∅) λs L=>([],?_));rw[aNq,gZq ∅];show L
     .simp only[lAq,M,lSq];lia
    .have(E,G,J):=ln.open I e;have B:Cm (fb T h<|r++[e],t0,h,loose++[-e],left)=fb T h (r++[e]++(-e::dw loose)):=by change(fb T h<|r++[e]).set h (cn (fb T h<|r++[e]) h []++dw (loose++[-e]))=_;rw[gDq,aA l,dC,bU];rfl
     rw[same,←B]at G J;show(u _,E,G,by simp only[lZq];lia)
end K44
namespace K17
open PySem L2 Mr Z Xe Zl
open K15 (nx fw)
open K25 (Rt)
open K43 (xP rds)
open K51 (rX Ps Pc)
theorem Nc:∀l:Λ,(l.map good).count []=l.count []
 | []=>rfl
 | []::l=>by simp only[aq,UA,jy,jy,Nc l]
 | (x::r)::l=>by
  have n:good (x::r)≠[]:=λq=>by have:=congrArg de q;rw[LU]at this;cases this
  rw[aq,jr n,jr ⋯,Nc l]
end K17
namespace K44
open PySem L2 Mr Z Xe Zl
open K15 (nx fw DV GS Rd)
open K16 (kvI)
open K18 (Ln nL)
open K43 (MC)
open K51 (rX Ps Pc)
end K44
namespace K44
open PySem L2 Mr Z Xe Zl
open K15 (Rd kI)
open K16 (kvI pm)
open K18 (Ln nL)
def fl(P:List<|Int×Int)(x:Int):Int:=match l5 (kvI P) (aO x)with
 |aB (b7 y)=>y
 |_=>0
def Pn(T:Λ):Prop:=K11.Cn T/\∃l u,Ln T l/\nL T l+de T=u+2/\de (bt T)=2*u
end K44
namespace K52
open PySem L2 Mr Z Xe Zl
open K43 (xP getD_some uA)
open K51 (rX)
structure K0 (N:Λ):Prop where
 mp:Mp N
 pos:0<N.length
 one:∀k,k<N.length->rX N 0 k
end K52
namespace K54
open PySem L2 Mr Z Xe Zl
open K18 (Ln nL wC)
open K51 (Hw Df)
open K52 (K0 run ux vL MB)
def Xu(p:K0 M)(nz:∀e∈bt M,e≠0)(G:de (bt M)<=400):∃l g,Ln M l/\de (bt M)+4=2*de M+2*nL M l+4*g/\(DM [] (run M<|de (bt M)).th=n_↔g=0):=by
 have mp:=U0 p.mp p.pos p.one;have J:=RY p.mp p.pos p.one;have(_,_,t):=(ux p.mp p.pos<|de (bt M)).whole p.mp (vL p.mp p.pos p.one) p.one;have sb:dD (ug<|run M<|de (bt M)) ((run M<|de (bt M)).th.map (·.2)):=bH.map _;have sub:∀x∈ug (run M<|de (bt M)),x∈bt M:=λx n=>t.mem_iff.mp<|sb.subset n;have(u,lw):=wC mp;have(l,lm,e):=Vm p.mp p.pos p.one lw;have fs:DM [] (run M<|de (bt M)).th=n_↔Lm [] (ug<|run M<|de (bt M))=t_:=by rw[C2];rfl
 rw[fs];generalize ug (run M<|de (bt M))=W at *;have B:bt [W]=W:=by simp
 have E:Wo W:=(by have:=mp.hn;rwa [B]at this,by have:=p9 mp;rwa [B]at this,λx n=>nz x<|sub x n,by have:=oJ sb;have:=d9 t;lia);have(g,L):=GG _ rfl E lw;show(l,g,lm,by lia,(Jn W [] E λz H=>by cases H).trans (?_,λq=>(u,lw,?_)));.rintro⟨L2,I,s⟩;have s:de W+2=2*nL [W] L2:=s;rw[A1 mp I lw]at s;lia
 .change de W+2=2*nL [W] u;simp +arith[*]
def Mn(p:K0 M):D4 [dM M]=aB (d8<|(run M<|de (bt M)).th.map Df)/\sr [ew<|(run M<|de (bt M)).th.map Hw]=aB (b8<|XI<|DM [] (run M<|de (bt M)).th):=by have(n,_,l):=(ux p.mp p.pos<|de (bt M)).whole p.mp (vL p.mp p.pos p.one) p.one;have sb:dD (ug<|run M<|de (bt M)) ((run M<|de (bt M)).th.map (·.2)):=bH.map _;show(MB p.mp p.pos p.one,KH ((e9 (lW l) p.mp.hn).sublist sb) (by have:=p.mp.hl;lia) (MY p.mp p.pos p.one (de (bt M))<|ag _).wd)
def uZ:List Λ->Option (Int×Int)
 | []=>n_
 |N::P=>match DM [] (run N<|de (bt N)).th with
  |n_=>uZ P
  |aB q=>aB q
theorem Bk:∀{P},uZ P=n_↔∀N∈P,DM [] (run N<|de (bt N)).th=n_
 | []=>(λQ N h=>(by cases h),λQ=>rfl)
 |N::P=>by unfold uZ;cases q:DM [] (run N<|de (bt N)).th with
  |none=>rw[Bk];show(λh K l=>t6 (ae.mp l) (λz=>z ▸ q) λz=>h K z,λh K l=>h K<|mCo _ l)
  |some x=>show(λh=>(by cases h),λh=>?_);have:=h N<|aa ..;rw[q]at this;cases this
theorem Ey:∀P,(∀N∈P,K0 N)->∀{v0 v1 v2},∃S,rA 1 sj (P.map dM) [v0,v1,v2]=aB (match uZ P with|n_=>gb S|aB q=>.rt<|b8<|lG [b7 q.1,b7 q.2])
 | [],_,v0,v1,v2=>(_,rfl)
 |N::P,h,v0,v1,v2=>by
  have(w,c):=Mn<|h N<|aa ..;have t:((run N<|de (bt N)).th.map Df).map oY=(run N<|de (bt N)).th.map Hw:=by rw[mPq];show mCq λr Q=>uc _
  cases q:DM [] (run N<|de (bt N)).th with
  |none=>
   rw[q]at c;have l:uZ (N::P)=uZ P:=by change(match DM [] (run N<|de (bt N)).th with|n_=>uZ P|aB q=>aB q)=_;rw[q]
   have n:sj [v0,aB<|b8<|dM N,v2]=aB (gb [v0,aB<|b8<|dM N,aB<|b8 j0]):=by have s:zz j0 j0=aB (k9 f_):=rfl;unfold XI at c;simp! [sj,w,t,c,s]
   have(S,u):=Ey P<|λK z=>h K<|mCo _ z;show(S,?_);rw[l];change(sj [v0,aB<|b8<|dM N,v2]).bind _=_;rw[n];show u
  |some x=>
   rw[q]at c;have l:uZ (N::P)=aB x:=by change(match DM [] (run N<|de (bt N)).th with|n_=>uZ P|aB q=>aB q)=_;rw[q]
   have n:sj [v0,aB<|b8<|dM N,v2]=aB (.rt<|b8<|lG [b7 x.1,b7 x.2]):=by have s:zz (lG [b7 x.1,b7 x.2]) j0=aB (k9 t_):=rfl;unfold XI at c;simp! [sj,w,t,c,s]
   show([],?_);rw[l];change(sj [v0,aB<|b8<|dM N,v2]).bind _=_;rw[n];rfl
def Ho(h:∀N∈P,K0 N)(n:oY x = ew (P.map dM))(e:K51.zR [dM M]=aB x):vq [dM M]=aB (b8<|XI<|uZ P):=by have(S,l):=Ey P h (v0:=aB<|b8<|dM M) (v1:=n_) (v2:=n_);delta XI;cases q:uZ P with
 |none=>rw[q]at l;simp! [vq,Bd,e,n,l]
 |some p=>rw[q]at l;simp! [vq,Bd,e,n,l]
def RB(n:Mp M)(hs:s0<de M)(pc:K51.Pc M s0 ps):K0<|ps.map λk=>cn M k []:=by
 have lt:=pc.lt;have(Q,U,s):=K52.O5 pc.nd lt;have L:aF (ps.map λk=>cn M k []).flatten<|Q.flatMap λp=>cn M p []:=by show aF.flatMap_right _ U
 have X:=aAy (de M) ps pc.nd lt;have x:∀{j k:Nat},ps[j]?=aB k->(ps.map λk=>cn M k [])[j]?=aB (cn M k []):=λ{j k} e=>by rw[gMq,e];rfl
 have H:∀{e:Int},e∈bt M->plc M e∈ps->e∈bt (ps.map λk=>cn M k []):=λ{e} l q=>e9 mFq (_,e9 mMq (plc M e,q,rfl),(K52.GJ n l).2);have t:∀{e:Int},e∈bt (ps.map λk=>cn M k [])->e∈bt M/\plc M e∈ps:=λ{e} l=>by have(r,hr,G):=mFq.mp l;have(k,hk,rfl):=mMq.mp hr;have O:=K43.getD_some<|lt k hk;show(e9 mFq (_,mGq O,G),?_);rw[plc_eq n.hn O G];show hk
 have clo:∀{e:Int},e∈bt M->plc M e∈ps->plc M (-e)∈ps:=λ{e} l q=>by have(r,Y,G):=n.at l;show(pc.iff _).mpr<|TF ((pc.iff _).mp q) Y G
 have mp:Mp<|ps.map λk=>cn M k []:=(e9 (lW L)<|n.hn.sublist s,by have:=d9 L;have:=oJ s;have:=n.hl;lia,by rw[lMq];have:=n.hr;lia,λe l=>H (p9 n e (t l).1)<|clo (t l).1 (t l).2);have go:∀{i k I:Nat},ps[i]?=aB k->K51.rX M k I->∃j,ps[j]?=aB I/\K51.rX (ps.map λk=>cn M k []) i j:=λ{i k I} hi r=>by induction r with
  |base=>show(i,hi,vr)
  | @step k1 row e r1 u l ih=>
   have(j,z,rj):=ih;have P:=e9 mFq (row,mGq u,l);have q1:=clo P<|by rw[plc_eq n.hn u l];show mGq z
   have(j',B):=aC.mp q1;have E:K51.rX (ps.map λk=>cn M k []) i<|plc (ps.map λk=>cn M k [])<|-e:=TF rj (x z)<|by rw[gDq,u];show l
   rw[plc_eq mp.hn (x B) (K52.GJ n<|p9 n e P).2]at E;show(j',B,E)
 have J:=e9 (pc.iff s0) vr;have pos:=dh J;show(mp,by rw[lMq];show pos,λk hk=>?_);rw[lMq]at hk;have R:=gEg pos;have S:=gEg hk;have r0:=(pc.iff _).mp<|mGq R;have rk:=(pc.iff _).mp<|mGq S;have(j,z,r):=go R<|sX (r0.symm<|K43.xP n) rk;have:=(iN (gSq.mp z).1 pc.nd).mp<|fq z<|fx S;rw[←this];show r
def CV(n:Mp M):∃P:List Λ,aF (bt P) M/\(∀N∈P,K0 N)/\de P=K47.pn M/\vq [dM M]=aB (b8<|XI<|uZ P):=by
 have(kn,PS,s,e):=K51.BM<|K43.xP n;have all:∀N∈PS.map λl=>l.map λk=>cn M k [],K0 N:=λN u=>by have(l,t,rfl):=mMq.mp u;have(z,x,pc):=s.pc l t;show RB n x pc
 show(PS.map λl=>l.map λk=>cn M k [],YV s,all,by rw[lMq];show K47.T7 n s,Ho all ?_ e);rw[qZ,mPq,mPq];show congrArg ew<|mCq λl Q=>?_;change oY (d8<|l.map λk=>aI<|cn M k [])=dM _;rw[qZ,mPq];change _=ew ((l.map λk=>cn M k []).map dI);rw[mPq];show congrArg ew<|mCq λk Q=>oV _
end K54
namespace K54
open PySem L2 Mr Z Xe Zl
open K18 (Ln nL PC wF)
open K47 (Mv pn)
open K52 (K0 run)
def XQ(h:Mv<|X++Y)(l:∀e∈bt X, -e∈bt X):Mv X:=by have n:=h.mp.hn;rw[fAq]at n;have s:=h.mp.hl;have t:=h.mp.hr;have u:=h.lv;have x:=h.le;rw[fAq,lAq]at s x;rw[lAq]at t u;show(((nAq.mp n).1,by lia,by lia,l),λe z=>h.nz e<|by rw[fAq];show ai _ z,by lia,by lia)
theorem S5:∀{P},(∀N∈P,K0 N)->(∀e∈bt (bt P),e≠0)->de (bt (bt P))<=400->∃s g,Ln (bt P) s/\de (bt (bt P))+4*de P=2*de (bt P)+2*nL (bt P) s+4*g/\(uZ P=n_↔g=0)
 | [],_,_,_=>([],0,(λx y=>rfl,λc l=>(by cases l)),rfl,λQ=>rfl,λQ=>rfl)
 |N::P,hp,nz,hl=>by
  simp only[fCq,fAq]at nz hl;rw[lAq]at hl;have(z,B,t,ex,E):=Xu (hp N<|aa ..) (λe n=>nz e<|ai _ n) ∅;have(G,H,u,I,J):=S5 (λK L=>hp K<|mCo _ L) (λe n=>nz e<|ah _ n) ∅;show(z++G,B+H,(λx y=>?_,λc l=>t6 (mAq.mp l) (t.ne c)<|u.ne c),?_,?_);.simp only[fCq,wF,wF,t.cnt x y,u.cnt x y]
  .delta Pv at ex I ⊢;simp only[fCq,fAq,lAq,lAq,lAq,cAq,lCq];lia
  .have f:uZ (N::P)=n_↔DM [] (run N<|de (bt N)).th=n_/\uZ P=n_:=by rw[Bk,Bk];simp only[ae,forall_eq_or_imp]
   rw[f,E,J];simp +arith[*]
end K54
namespace K64
open PySem L2 Mr Z Xe Zl
open K18 (Ln nL PC wC)
open K47 (Mv Bl pn Jc pn_bare E5 uE kp C7)
open K54 (uZ CV S5 XI)
def bl_cross(h:Mv M)(l:de (bt M)<=400)(b:Bl M):K54.vq [dM M]=aB (b8 j0):=by
 have(P,pm,pc,pl,t):=CV h.mp;have n:=qj pm;have(s,g,ln,eu,u):=S5 pc (λe z=>h.nz e<|n.mem_iff.mp z)<|by rw[d9 n];show l
 have b2:=K47.Bl.any h b (λx y=>by rw[ln.cnt x y];show K18.tD pm _,ln.ne);have B:nL (bt P) s=nL M s:=by delta nL;rw[nt pm]
 simp only[d9 n,d9 pm]at eu;rw[t,e9 u ∅];rfl
def Om(l:Mp M)(n:e∈bt M):plc M (Zd M e)=plc M e:=K17.ab4 l n
def MV(n:Mp M)(lo:∀e∈bt M,plc M e≠plc M (-e))(s:∀e∈bt M,∀f∈bt M,plc M e=plc M f->plc M (-e)=plc M (-f)->e=f)(sp:∀e∈bt M,Zd M e≠e)(ln:Ln M u):∀l∈u,3<=de l:=by
 intro l hl;have o:=ln.orb n;have(e,cy):=o.cy l hl;have x:=(o.all e).mp<|e9 mFq (l,hl,cy.self);have hn:=p9 n e x;have b:=cy.back;have E:=cy.len;obtain q|q:=jJ (de l) 3
 .exfalso;have c:de l=1∨de l=2:=by lia
  obtain c|c:=c;.rw[c]at b;have t:Zd M (-e)=e:=b;have:=Om n hn;rw[t]at this;show lo e x this
  .rw[c]at b;have t:Zd M (-(Zd M<|-e))=e:=b;have B:=Om n hn;have hf:=K15.Ea n.hn hn;have z:=Om n<|p9 n _ hf;rw[t]at z;have:=s (Zd M<|-e) hf (-e) hn B<|by rw[bf,←z]
   show sp (-e) hn this
 .show q
theorem Hy:∀{L:Λ},(∀l∈L,3<=de l)->3*de L<=de (bt L)
 | [],_=>aY _
 |l::L,h=>by have:=Hy λx n=>h x<|mCo _ n;have:=h l<|aa ..;simp only[fCq,lAq,lCq];lia
theorem Qi:∀{L:Λ},(∀l∈L,l=[]∨6<=de l)->6*(de L-L.count [])<=de (bt L)/\L.count []<=de L
 | [],_=>(aY _,aY _)
 |l::L,h=>by
  have(s,t):=Qi λx n=>h x<|mCo _ n;simp only[fCq,lAq,K18.qf,lCq];obtain z|z:=h l<|aa ..;.rw[pZ z];lia
  .rw[pW<|λq=>by rw[q]at z;simp at z];lia
def JX(h:Mv M)(t:M.flatten≠[]):M.count []+1<=pn M:=by
 have p:M.Perm<|ao (M.count []) ([])++M.filter λr=>!decide (r=[]):=by
  have:=(List.filter_append_perm (λr=>decide<|r=[]) M).symm;have e:M.filter (λr=>decide<|r=[])=ao (M.count []) []:=by rw[gg];show(?_,λb hb=>of_decide_eq_true (ax.mp hb).2);rw[←cG];show List.countP_congr λr Q=>by simp
  rwa [e]at this
 have fr:(ao (M.count []) ([]:Ϝ)).flatten=[]:=by simp
 have u:=K47.E3 h.mp p;have n:=qj p;rw[fAq,fr,cA]at n;rw[E5 h.mp p,Jc u (λe s=>by rw[fr]at s;cases s)<|λe s=>n.mem_iff.mp<|h.mp.hneg e<|n.mem_iff.mpr s,pn_bare<|by have:=List.count_le_length (a:=([])) (l:=M);have:=h.lv;lia];have B:Mp<|M.filter λr=>!decide (r=[]):=(n.nodup_iff.mp h.mp.hn,by rw[←n.length_eq];show h.mp.hl,bI (cU _ _) h.mp.hr,λe s=>n.mem_iff.mp<|h.mp.hneg e<|n.mem_iff.mpr s);have(kn,PS,x,e):=uE B;rw[←e];cases z:(M.filter λr=>!decide (r=[]))with
 |nil=>rw[z]at n;show absurd (aF.eq_nil n) t
 |cons r R=>
  rw[z]at x;have(q,E,_):=x.mem 0<|x.all 0<|by rw[lCq];lia
  have:=dh E;lia
def Rh(h:Mv M)(b:Bl M)(t:bt M≠[])(lo:∀e∈bt M,plc M e≠plc M (-e))(u:∀e∈bt M,∀f∈bt M,plc M e=plc M f->plc M (-e)=plc M (-f)->e=f):∃r∈M,r≠[]/\de r<=5:=by
 apply gA;intro G;have six:∀r∈M,r=[]∨6<=de r:=λr hr=>by
  by_cases c:r=[];.show jE c
  .show iq (by apply gA;intro q;show G (r,hr,c,by rfl'))
 have H:∀e∈bt M,Zd M e≠e:=λe I z=>by
  have(r,hr,l):=h.mp.at I;have n:=mGq hr;have hl:=pX (six r n)<|λq=>by rw[q]at l;cases l
  have(j,x,J):=gv l;have B:r[j]?=aB e:=by rw[gEg x,J]
  have s:(j+1) % de r<de r:=kc _ ∅;have:=K16.HY h.mp.hn n B<|gEg s;rw[z]at this;have nd:=bz.sublist (aL n) h.mp.hn;have E:j=(j+1) % de r:=(iN x nd).mp<|by rw[B,gEg s,←this]
  obtain w|w:=jJ (j+1)<|de r;.rw[fG w]at E;lia
  .have:j+1=de r:=by rfl'
   rw[this,gL]at E;lia
 have(L,ln,eu):=b;have O:=Hy<|MV h.mp lo u H ln;have fl:=d9 (ln.flat h.mp.hneg h.mp.hn);have(P,Q):=Qi six;have pm:=JX h t;delta nL at eu;lia
end K64
namespace K54
open PySem L2 Mr Z Xe Zl
open K18 (Ln nL wC)
open K47 (Mv pn Jc T7 E5 uE)
open K43 (rds)
open K52 (K0)
section
variable {P:List Λ}
def TQ(h:∀N∈P,∀e∈bt N, -e∈bt N):∀z∈bt (bt P), -z∈bt (bt P):=λe x=>by have(r,hr,l):=mFq.mp x;have(K,u,n):=mFq.mp hr;have(B,s,t):=mFq.mp<|h K u e<|e9 mFq (r,n,l);show e9 mFq (B,e9 mFq (K,u,s),t)
theorem Pa:∀{P:List Λ},(∀N∈P,K0 N)->Mv (bt P)->pn (bt P)=de P
 | [],_,h=>by have(kn,PS,n,e):=uE h.mp;rw[←e];cases PS with
  |nil=>rfl
  |cons s _=>have(u,t,_):=n.pc s<|aa ..;show absurd t<|dg _
 |N::P,hN,h=>by simp only[fCq]at h ⊢;have hP:=TQ λK l=>p9 (hN K<|mCo _ l).mp;have p:=hN N<|aa ..;simp only[Jc h.mp p.mp.hneg hP,aaH p.mp p.pos p.one,Pa (λK l=>hN K<|mCo _ l)<|XQ (h.perm ay) hP,lCq];rfl'
end
end K54
namespace K61
open PySem L2 Mr Z Xe Zl
def Uw{t k:Nat}(n:l5 kvs (aO<|-e)=aB (b7 (t:Int)))(hk:de ks<500000) :
  vz [v0,aB<|b8<|m6 kvs,i6 (k:Int),aB<|eT<|kd ks,i6 e,v5]=aB (gb [v0,aB<|b8<|m6 kvs,i6 (k:Int),aB<|eT<|kd<|if t=k then ks else addN ks t,i6 e,i6 (t:Int)]):=by
 have s:de (kd ks)<qS:=by delta kd;rw[lMq];change _<16777216;lia
 have u:=kd_put2 ks t;by_cases h:t=k
 .have l:(t:Int)=(k:Int):=by simp +arith[*]
  simp! [vz,n,l,h]
 .have l:¬ (t:Int)=(k:Int):=by lia
  simp! [vz,n,l,h,u,s]
def aav(u:Mp l){k:Nat}{r:Ϝ}(hr:l[k]?=aB r):zO [dI r,m6<|qd 0 l,b7 (k:Int)]=aB (aI<|(nb l k r).map λn:Nat=>(n:Int)):=by
 have B:=u.row hr;have key:=xY (x:=4) (body:=vz) (λi S=>∃t s,S=[aB<|b8<|dI r,aB<|b8<|m6<|qd 0 l,i6 (k:Int),aB<|eT<|kd<|(r.take i).foldl (KL l k) [],t,s]) (ds:=r.map b7) (S:=[aB<|b8<|dI r,aB<|b8<|m6<|qd 0 l,i6 (k:Int),aB<|eT [],n_,n_])
  (n_,n_,rfl) (by rintro i d S hd ⟨t,s,rfl⟩;rw[gMq]at hd;have(e,E,rfl):=oMq.mp hd;have z:e∈r:=mGq E;have G:=Jw l k (r.take i) [];rw[lTq,cw]at G;have step:=Uw (k:=k) (v0:=aB<|b8<|dI r) (v5:=s) (u.kv<|u.other hr z) (ks:=(r.take i).foldl (KL l k) []) ∅;show(_,step,i6 e,i6 (plc l<|-e:Int),?_);rw[BZ E];rfl);have(I,e,t,s,rfl):=key;rw[lMq,bC]at e;have hk:(kd<|nb l k r).map (λp=>b8<|kD p.1)=((nb l k r).map λn:Nat=>(n:Int)).map λn=>b8<|b7 n:=by unfold kd;rw[mPq,mPq];rfl
 have H:rA 4 vz (kL b7 r) [aB<|b8<|dI r,aB<|b8<|m6<|qd 0 l,i6 (k:Int),aB<|eT [],n_,n_]=aB (gb [aB<|b8<|dI r,aB<|b8<|m6<|qd 0 l,i6 (k:Int),aB<|eT<|kd<|nb l k r,t,s]):=e;simp! [zO,IF,H,hk]
def Hm(l:Λ):Nat->Λ->Λ
 |_,[]=>[]
 |k,r::ts=>((nb l k r).map λn:Nat=>(n:Int))::Hm l (k+1) ts
theorem Qn l:∀{ts:Λ}{k i:Nat}{r:Ϝ},ts[i]?=aB r->(Hm l k ts)[i]?=aB ((nb l (k+i) r).map λn:Nat=>(n:Int))
 | [],_,_,_,h=>by simp at h
 |t::ts,k,0,r,h=>by cases h;rfl
 |t::ts,k,i+1,r,h=>by rw[Hm,ja,Qn l<|by show h,show k+1+i=k+(i+1) by rfl']
theorem J5 l:∀ts k,de (Hm l k ts)=de ts
 | [],_=>rfl
 |t::ts,k=>by simp only[Hm,lCq,J5 l ts<|k+1,lCq]
theorem LQ l:∀ts k,(B5 k<|ts.map dI).map (λd:D×D=>match d with|%[.int i|.list ds]=>aI<|(nb l i.toNat<|QH<|.list ds).map λn:Nat=>(n:Int)|_=>.sh .non)=(Hm l k ts).map aI
 | [],_=>rfl
 |t::ts,k=>by rw[aq,B5,aq,Hm,aq,LQ l ts<|k+1];congr 1;change aI ((nb l (cC (k:Int))<|QH<|dI t).map λn:Nat=>(n:Int))=_;rw[OX,aQ]
def Kl(s:Mp l):xE [dM l]=aB (.ow<|(Hm l 0 l).map aI):=by
 have hl:=s.hl;have t:=s.hr;have B:=AD s.hn ∅;have E:l.length<=qS:=by change _<=16777216;lia
 have key:=IG (te:=rH zO<|oS (pO 1)<|oS (pO 2)<|oS (pO 0) pV) (cap:=[aB<|.sh<|.dict<|qd 0 l]) (λd:D×D=>match d with|%[.int i|.list G]=>aI<|(nb l i.toNat<|QH<|.list G).map λn:Nat=>(n:Int)|_=>.sh .non) (ds:=B5 0<|l.map dI) (by
  intro d hd;have(i,hi):=aC.mp hd;have u:i<l.length:=by have:=(gSq.mp hi).1;rwa [DS,lMq]at this
  have hr:l[i]?=aB l[i]:=gEg u;have H:=DX (n:=0) (ds:=l.map dI) (i:=i) (d:=dI l[i])<|by rw[gMq,hr];rfl
  rw[H,bD]at hi;have x:=(aB.inj hi).symm;subst x;have z:=aav s hr;show([i6 (i:Int),aB<|.sh<|dI l[i],aB<|.sh<|.dict<|qd 0 l],?_);have I:QH (.list<|kL D.int l[i])=l[i]:=OX l[i];change rH zO (oS (pO 1)<|oS (pO 2)<|oS (pO 0) pV) [i6 (i:Int),aB<|.sh<|dI l[i],aB<|.sh<|.dict<|qd 0 l]=aB %[aI<|(nb l (cC (i:Int))<|QH<|.list<|kL D.int l[i]).map λn:Nat=>(n:Int)|_];rw[I,aQ];simp! [z]);rw[LQ]at key;simp! [xE,Cb,B,dM,E,key]
end K61
namespace K52
open PySem L2 Mr Z Xe Zl
open K31 (AL Og Wd Os yB qh)
open K12 (cN CA yE JZ)
open K43 (xP getD_some)
open K51 (rX Ps)
def Sx(hn:K31.Nm nm)(w:K31.Wm nm T):K0<|CD<|T.map good:=by
 have l:aF (CD<|T.map good).flatten<|bt T:=m9 (qj<|ue _)<|tP vx _;have u:de (CD<|T.map good)=de T:=by rw[Cj,lMq]
 have hl:=w.le;have z:=hn.len;have B:=w.len;have n:=w.pos;have mp:Mp<|CD<|T.map good:=(e9 (lW l)<|w.nodup hn,by rw[d9 l];lia,by lia,λe s=>e9 (eP l)<|w.neg hn<|l.mem_iff.mp s);show(mp,by lia,λk hk=>?_);show K31.Q5 mp n w.tr (λq=>rX (CD<|T.map good) 0 q) (0,by change 0<de (CD<|T.map good);lia,vr) (λp r x hr t h=>TF h hr t) k hk
end K52
namespace K64
open PySem L2 Mr Z Xe Zl
open K31 (Wd Os yB Nm Wm xk sg)
open K12 (cN)
open K44 (Pl)
open K18 (Ln nL)
open K52 (K0)
abbrev gd(T:Λ):Λ:=CD<|T.map good
noncomputable abbrev wk(T:Λ)(t0:Θ)(h:Nat)(op rd:Ϝ):Wd:=(T,t0,h,op.map λz=>-z,rd)
structure Pn (T:Λ):Prop where
 pc:K0<|gd T
 eu:∃LL,Ln (gd T) LL/\(gd T).flatten.length+4=2*(gd T).length+2*nL (gd T) LL
def J8 T:aF (gd T).flatten<|bt T:=m9 (qj<|ue _)<|tP vx _
def Pn.neg(h:Pn T):∀z∈bt T, -z∈bt T:=λz l=>(J8 T).mem_iff.mp<|p9 h.pc.mp z<|e9 (J8 T).mem_iff l
def acN T l:nL (gd T) l=nL T l:=by delta nL;rw[nt (ue<|T.map good),K17.Nc]
def acd T:de (gd T)=de T:=by rw[Cj,lMq]
structure Ac (R:Ϝ)(P:List Λ)(rd:Ϝ):Prop where
 pn:∀T∈P,Pn T
 cnt:∀a,P.flatten.flatten.count a+(yB rd).count a=(yB R).count a
 nm:Nm rd
 le:rd.length<=60
def Z0(h:Nm m)(s:dD l m):Nm l:=(by have:=oJ s;have:=h.len;lia,h.nd.sublist s,λx n=>h.lo x<|s.subset n)
section
variable {rd r:Ϝ}
def Rl(hn:Nm nm)(B:de nm<=60)(w:Os nm (wk T t0 h op rd) n)(pl:Pl nm<|wk T t0 h op rd):Pn (fb T h<|cn T h []++op.reverse.map λz=>-z)/\(∀a,(fb T h<|cn T h []++op.reverse.map λz=>-z).flatten.count a+(yB rd).count a=(yB nm).count a):=by
 have l:=w.len;have(hh,ht,lw,lT,lf,cnt,tr):=w;have(_,E,ln,eu):=pl;have t:K44.Cm (wk T t0 h op rd)=fb T h (cn T h []++op.reverse.map λz=>-z):=by delta K44.Cm;rw[gk]
 rw[t]at ln eu;simp only at hh ht lw lT lf cnt tr l eu;have hr:T[h]?=aB (cn T h []):=by rw[gDq,gEg hh];rfl
 have u:∀a,(fb T h<|cn T h []++op.reverse.map λz=>-z).flatten.count a+(yB rd).count a=(yB nm).count a:=λa=>by have c:=cnt a;rw[K12.yE a hr,gk,jH];show c
 have G:de (fb T h<|cn T h []++op.reverse.map λz=>-z)=de T:=lZq;have H:Wm nm<|fb T h<|cn T h []++op.reverse.map λz=>-z:=((rd,u),tr.set hr,by lia,by lia);show((K52.Sx hn H,E,ln.rows,?_),u);rw[d9 (J8 _),acd,acN];have I:de (fb T h<|cn T h []++op.reverse.map λz=>-z).flatten+de (yB rd)=de (yB nm):=by rw[←lAq];show(d9 (e9 cF λa=>by rw[cAq];show u a))
 rw[aAe,aAe]at I;lia
structure Go (R:Ϝ)(k:Nat)(P:List Λ)(T:Λ)(t0:Θ)(h:Nat)(op rd nm:Ϝ)(n:Nat):Prop where
 ac:Ac R P nm
 ok:Os nm (wk T t0 h op rd) n
 pl:Pl nm<|wk T t0 h op rd
 nk:n<=k
 sub:rd.Sublist nm
 lp:P.flatten.length+T.length<=k+1
noncomputable abbrev sh(d:Nat)(l:Θ):Θ:=l.map (· + d)
def Go.w(g:Go R k P T t0 h op rd nm n)c(e:xk f_ (wk T t0 h op rd) c=wk T' t0' h' op' rd')(sb:dD rd' nm)(hl:de T'<=de T+1):Go R (k+1) P T' t0' h' op' rd' nm<|n+1:=by have w:=g.ok.step (wild:=f_) c;have p:=g.pl.step g.ok (K31.BX g.ac.nm) c;rw[e]at w p;show(g.ac,w,p,by have:=g.nk;rfl',sb,by have:=g.lp;lia)
def Go.stay(g:Go R k P T t0 h op rd nm n):Go R (k+1) P T t0 h op rd nm n:=(g.ac,g.ok,g.pl,by have:=g.nk;rfl',g.sub,by have:=g.lp;rfl')
def sgs(l:s=1∨s = -1):∃c:Int,(c=0∨c=4)/\∀x,sg c x=s*x:=by
 obtain rfl|rfl:=l;.show(0,jE rfl,λx=>by change x*(1-2*(0 / 4 % 2))=1*x;simp)
 .show(4,iq rfl,λx=>by change x*(1-2*(4 / 4 % 2)) = -1*x;simp)
def D6(t:s=1∨s = -1)(hr:cn T h []=r):∃c,xk f_ (wk T t0 h op<|x::rd) c=wk (fb T h (r++[s*x])++[[-(s*x)]]) (t0++[h]) (de T) op rd:=by have(c,l,u):=sgs t;show(c,?_);delta xk;dsimp only;rw[pW<|λz=>by obtain rfl|rfl:=l <;> show absurd z.1 ⋯,pW<|λz=>by obtain rfl|rfl:=l <;> show absurd z.1 ⋯,pZ<|by obtain rfl|rfl:=l <;> rfl,u,hr]
def Ui(t:s=1∨s = -1)(hr:cn T h []=r):∃c,xk f_ (wk T t0 h op<|x::rd) c=wk (fb T h<|r++[s*x]) t0 h (op++[s*x]) rd:=by
 have(c,l,u):=sgs t;show(c+3,?_);have B:sg (c+3) x=s*x:=by rw[←u x];obtain rfl|rfl:=l <;> rfl
 delta xk;dsimp only;rw[pW<|λz=>by obtain rfl|rfl:=l <;> show absurd z.1 ⋯,pW<|λz=>by obtain rfl|rfl:=l <;> show absurd z.1 ⋯,pW<|by obtain rfl|rfl:=l <;> decide,B,hr];change _=((_,_,_,(op++[s*x]).map λz=>-z,_):Wd);rw[mBq];rfl
def JM:xk f_ (wk T (t0++[j]) h op rd) 1=wk T t0 j op rd:=by delta xk;rw[pZ (by rfl,by simp),cM,ik];rfl
def S7(hr:cn T h []=r):xk f_ (wk T t0 h (op++[y]) rd) 2=wk (fb T h<|r++[-y]) t0 h op rd:=by
 delta xk;rw[pW<|λz=>absurd z.1 ⋯,pZ (by rfl,by simp)];have l:K31.atL f_ 2 ((op++[y]).map λz=>-z)=de op:=by change(de ((op++[y]).map λz=>-z))-1=de op;simp
 have t:cn ((op++[y]).map λz=>-z) (de op) 0 = -y:=by rw[gDq,gMq,gYq<|ag _,cZ];rfl
 have u:ef ((op++[y]).map λz=>-z) (de op)=op.map λz=>-z:=by rw[mBq,eZ ⋯];simp
 simp only[l,t,u,hr]
end
end K64
namespace K64
open PySem L2 Mr Z Xe Zl
open K31 (Wd Os yB Nm Wm xk)
open K12 (cN)
open K44 (Pl)
open K18 (Ln nL)
def pl0 nm:Pl nm<|wk [[]] [] 0 [] nm:=(trivial,[],(λx y=>rfl,λc l=>(by cases l)),by change 0+1+1+de nm=de nm+2;rfl')
def Go.next(g:Go R k P T t0 h op rd nm n):Go R (k+1) (P++[fb T h<|cn T h []++op.reverse.map λz=>-z]) [[]] [] 0 [] rd rd 0:=by
 have a:=g.ac;have(l,t):=Rl a.nm a.le g.ok g.pl;have u:=Z0 a.nm g.sub;show((λS hS=>?_,λb=>?_,u,bI (oJ g.sub) a.le),K31.T5 rd,pl0 rd,aY _,dD.refl _,?_)
 .obtain z|z:=mAq.mp hS;.show a.pn S z
  .rw[mSq.mp z];show l
 .rw[fAq,aN,fAq,cAq];have:=a.cnt b;have:=t b;lia
 .have:=g.lp;rw[fAq,aN,lAq,lZq];change _+1<=_;rfl'
def La(g:Go R k P T t0 h op rd nm n)(hk:k<=1000)(hl:0<=l/\l<=4)(J:s=1∨s = -1):∃L T' t0' h' op' rd' M S B E,qm (AX v0 (bt P++T) (sh (de (bt P))<|t0++[h]) op rd (i6 l) (i6 s) v7 v8)=aB (gb<|AX v0 (bt L++T') (sh (de (bt L))<|t0'++[h']) op' rd' (i6 l) (i6 s) B E)/\Go R (k+1) L T' t0' h' op' rd' M S:=by
 have hh:h<de T:=g.ok.hh;have hr:T[h]?=aB (cn T h []):=by rw[gDq,gEg hh];rfl
 have lp:=g.lp;have U:=g.ac.le;have I:=g.ok.len;simp only at I;rw[lMq]at I;have rl:=oJ g.sub;have Q:=K12.JZ hr;generalize G:bt P=D at *;have H:(D++T)[h+de D]?=aB (cn T h []):=by rw[gYq ∅,dQ];show hr
 have st:∀(O:Ϝ),fb (D++T) (h+de D) O=D++fb T h O:=λO=>by rw[fZ _ _ ∅,dQ]
 have X:de (D++T)=de T+de D:=by rw[lAq];rfl'
 have u:sh (de D) (t0++[h])=sh (de D) t0++[h+de D]:=by delta sh;rw[mBq];rfl
 have Y:de t0<=n:=g.ok.lw;have nk:=g.nk;have la:de (sh (de D) t0++[h+de D])<500000:=by simp;lia
 have c:l=0∨l=1∨l=2∨l=3∨l=4:=by lia
 rw[u];obtain rfl|rfl|rfl|rfl|rfl:=c;.cases rd with
  |nil=>show(P,T,t0,h,op,[],nm,n,n_,v8,by rw[G,u];show Uc H<|jE rfl,g.stay)
  |cons x rd=>
   have(B,E,e):=abX (v0:=v0) (v7:=v7) (v8:=v8) (op:=op) (x:=x) (rd:=rd) H J ∅ la ∅<|by have:=lCq (a:=x) (as:=rd);lia
   have(c,w):=D6 (op:=op) (t0:=t0) (rd:=rd) (x:=x) J (r:=cn T h []) (T:=T) (h:=h) rfl;show(P,_,t0++[h],de T,op,rd,nm,n+1,B,E,?_,g.w c w ((jm x rd).trans g.sub) ⋯);rw[G,e,st,X,af];delta sh;rw[mBq,mBq];rfl
 .obtain z|⟨t,j,z⟩:=dJ t0;.subst z;show(P,T,[],h,op,rd,nm,n,n_,v8,by rw[G];show ZW H,g.stay)
  .rw[dN]at z;subst z;show(P,T,t,j,op,rd,nm,n+1,n_,v8,?_,g.w 1 JM g.sub<|by rfl');have e2:sh (de D) (t++[j])=sh (de D) t++[j+de D]:=by delta sh;rw[mBq];rfl
   rw[G,e2];show abP H
 .cases rd with
  |nil=>show(P,T,t0,h,op,[],nm,n,n_,v8,by rw[G,u];show Uc H<|iq rfl,g.stay)
  |cons x rd=>
   have(B,E,e):=aam (v0:=v0) (v7:=v7) (v8:=v8) (t:=sh (de D) t0) (op:=op) (x:=x) (rd:=rd) H J ∅ ∅<|by have:=lCq (a:=x) (as:=rd);lia
   have(c,w):=Ui (op:=op) (t0:=t0) (rd:=rd) (x:=x) J (r:=cn T h []) (T:=T) (h:=h) rfl;show(P,_,t0,h,op++[s*x],rd,nm,n+1,B,E,?_,g.w c w ((jm x rd).trans g.sub) ⋯);rw[G,e,st,u]
 .obtain z|⟨o,y,z⟩:=dJ op;.subst z;show(P,T,t0,h,[],rd,nm,n,n_,v8,by rw[G,u];show Xg H,g.stay)
  .rw[dN]at z;subst z;show(P,_,t0,h,o,rd,nm,n+1,n_,v8,?_,g.w 2 (S7 (r:=cn T h []) rfl) g.sub ⋯);rw[G,u,←st];show abL H ∅
 .show(_,[[]],[],0,[],rd,rd,0,n_,v8,?_,g.next);have e:=aaN (v0:=v0) (v7:=v7) (v8:=v8) (t:=sh (de D) t0) (op:=op) (rd:=rd) (s:=s) H ∅ ∅;rw[e,fAq,G];simp
theorem EF:∀W {k h n}{P}{T}{t0}{op rd nm}{v5 v6 v7 v8},Lt W->k+de W<=1000->Go R k P T t0 h op rd nm n->∃G T' t0' h' op' rd' t H u z B E,xh 5 6 qm (W.map pD) (AX v0 (bt P++T) (sh (de (bt P))<|t0++[h]) op rd v5 v6 v7 v8)=aB (gb<|AX v0 (bt G++T') (sh (de (bt G))<|t0'++[h']) op' rd' u z B E)/\Go R (k+de W) G T' t0' h' op' rd' t H
 | [],k,h,n,P,T,t0,op,rd,nm,v5,v6,v7,v8,_,_,g=>(P,T,t0,h,op,rd,nm,n,v5,v6,v7,v8,rfl,g)
 |w::W,k,h,n,P,T,t0,op,rd,nm,v5,v6,v7,v8,hW,hk,g=>by have(l,s):=w;simp only[lCq]at hk;have hw:=hW %[l|s]<|aa ..;have(S,U,X,Y,I,rd1,J,n1,w7,w8,L,M):=La g ∅ hw.1 hw.2;have(G,T',t0',h',op',rd',t,H,u,z,B,E,O,g2):=EF W (λp Q=>hW p<|mCo _ Q) ∅ M;show(G,T',t0',h',op',rd',t,H,u,z,B,E,?_,by rw[lCq,show k+(de W+1)=k+1+de W by rfl'];show g2);change(qm<|AX v0 (bt P++T) (sh (de (bt P))<|t0++[h]) op rd (i6 l) (i6 s) v7 v8).bind _=_;rw[L];show O
def Rm ns:∃R P rd,zV [o9 ns]=aB (d8<|P.flatten.map aI)/\Ac R P rd/\de R<=60/\Nm R/\de (bt P)<=253:=by
 have(R,H,z,B):=VH ns;have(W,I,Y,J):=X2 ns;have L:Go R 0 [] [[]] [] 0 [] R R 0:=((λT M=>(by cases M),λa=>⋯,z,B),K31.T5 R,pl0 R,ag _,dD.refl _,by simp);have(P,T,t0,h,op,rd,nm,n,v5,v6,v7,v8,e,g):=EF (v0:=aB<|b8<|o9 ns) W (v5:=n_) (v6:=n_) (v7:=n_) (v8:=n_) J ∅ L;have O:=g.next;show(R,_,rd,?_,O.ac,B,z,?_)
 .have hh:h<de T:=g.ok.hh;have hr:T[h]?=aB (cn T h []):=by rw[gDq,gEg hh];rfl
  have l:=g.ok.len;simp only at l;rw[lMq]at l;have Q:=g.ac.le;have E:=K12.JZ hr;have S:(bt P++T)[h+de (bt P)]?=aB (cn T h []):=by rw[gYq ∅,dQ];show hr
  have u:sh (de (bt P)) (t0++[h])=sh (de (bt P)) t0++[h+de (bt P)]:=by delta sh;rw[mBq];rfl
  have G:=adH (v0:=aB<|b8<|o9 ns) (v5:=v5) (v6:=v6) (v7:=v7) (v8:=v8) (t:=sh (de (bt P)) t0) (op:=op) (rd:=rd) S ∅;rw[fZ _ _ ∅,dQ]at G;rw[u]at e;have U:xh 5 6 qm (W.map pD) [aB<|b8<|o9 ns,aB<|d8 [d8 []],aB<|d8 [b8<|b7 0],aB<|d8 [],aB<|aI R,n_,n_,n_,n_]=_:=e;have X:=Ss W;rw[fAq,aN];simp! [zV,EG,H,I,X,NG,U,G,AX]
 .rw[fAq,aN,lAq,lZq];have:=g.lp;lia
end K64
namespace K64
open PySem L2 Mr Z Xe Zl
open K31 (yB Nm)
open K18 (Ln nL PC wF)
open K52 (K0)
open K47 (Mv Bl pn)
theorem TR:∀{Q:List Λ},(∀T∈Q,Pn T)->∃n,Ln (bt (Q.map gd)) n/\de (Q.map gd).flatten.flatten+4*de Q=2*de (Q.map gd).flatten+2*nL (bt (Q.map gd)) n
 | [],_=>([],(λx y=>rfl,λc l=>(by cases l)),rfl)
 |T::Q,h=>by
  have(u,s,ex):=(h T<|aa ..).eu;have(z,t,B):=TR λK E=>h K<|mCo _ E;show(u++z,(λx y=>?_,λc l=>t6 (mAq.mp l) (s.ne c)<|t.ne c),?_);.simp only[aq,fCq,wF,wF,s.cnt x y,t.cnt x y]
  .delta Pv at ex B ⊢;simp only[aq,fCq,fAq,lAq,lAq,lAq,cAq,lCq];lia
def QL{Q:List Λ}(h:∀T∈Q,Pn T)(l:Mv<|bt (Q.map gd)):Bl<|bt (Q.map gd):=by have(n,ln,eu):=TR h;show(n,ln,?_);rw[K54.Pa (λN s=>by have(T,t,rfl):=mMq.mp s;show(h T t).pc) l,lMq];lia
def Ph:gd [[]]=[[]]:=by show List.perm_singleton.mp<|ue _
def pn_bare:Pn [[]]:=by
 show(?_,[],?_);.rw[Ph];show((by simp,by simp,by simp,by simp),by simp,λk hk=>by
   have:k=0:=by simpa using hk
   rw[this];show vr)
 .rw[Ph];show((λx y=>rfl,λc l=>(by cases l)),rfl)
theorem Qo:∀Q:List Λ,aF (Q.map gd).flatten<|Q.flatten.map good
 | []=>D1 _
 |T::Q=>by simp only[aq,fCq,fCq,mBq];show(ue _).append<|Qo Q
def aai(a:Ac R P rd)(I:Nm R)(J:de R<=60)(X:de (bt P)<=253)(hb:b<=3):Mv (CD<|(bt P++ao b []).map good)/\Bl (CD<|(bt P++ao b []).map good)/\de (CD<|(bt P++ao b []).map good).flatten<=120/\de (CD<|(bt P++ao b []).map good)<=256:=by
 have eq:bt (P++ao b [[]])=bt P++ao b []:=by rw[fAq];congr 1;induction b with
  |zero=>rfl
  |succ b L=>simp only[iy,fCq,L<|by rfl',iy];rfl
 have M:∀T∈P++ao b [[]],Pn T:=λT s=>by
  obtain z|z:=mAq.mp s;.show a.pn T z
  .rw[cV z];show pn_bare
 have pm:aF ((P++ao b [[]]).map gd).flatten<|CD<|(bt P++ao b []).map good:=by rw[←eq];show(m9 (Qo _)) (ue _).symm
 have fr:bt (ao b ([]:Ϝ))=[]:=by simp
 have n:aF (CD<|(bt P++ao b []).map good).flatten<|bt (bt P):=by show(m9 (qj<|ue _))<|m9 (tP vx _) ?_;rw[fAq,fr,aNq]
 have O:=K31.BX I;have nd:c8 (bt (bt P)):=by rw[bP];intro z;have:=a.cnt z;have:=bP.mp O z;lia
 have lf:de (bt (bt P))<=120:=by
  have:aF (bt (bt P)++yB rd)<|yB R:=e9 cF λz=>by rw[cAq];show a.cnt z
  have:=d9 this;rw[lAq,aAe,aAe]at this;lia
 have Y:de (CD<|(bt P++ao b []).map good)=de (bt P)+b:=by rw[Cj,lMq,lAq,aU]
 have neg:∀z∈bt (bt P), -z∈bt (bt P):=λz l=>by have(r,hr,t):=mFq.mp l;have(T,s,u):=mFq.mp hr;have:=(a.pn T s).neg z<|e9 mFq (r,u,t);have(Q,B,E):=mFq.mp this;show e9 mFq (Q,e9 mFq (T,s,B),E)
 have nz:∀z∈bt (bt P),z≠0:=λz l q=>by
  subst q;have h1:=a.cnt 0;have h2:=e9 bb l;have h3:(yB R).count 0=0:=e9 cL λS=>by have(x,U,G):=bx.mp S;have:=I.lo x U;simp at G;lia
  lia
 have H:Mv<|CD<|(bt P++ao b []).map good:=by have e:=d9 n;show((e9 (lW n) nd,by lia,by lia,λz l=>e9 (eP n)<|neg z<|n.mem_iff.mp l),λz l=>nz z<|n.mem_iff.mp l,by lia,by lia)
 show(H,?_,by rw[d9 n];show lf,by lia);show K47.Bl.perm (K47.E3 H.mp pm.symm) pm<|QL M<|K47.Mv.perm H pm.symm
end K64
namespace K64
open PySem L2 Mr Z Xe Zl
open K31 (yB Nm Os)
open K18 (Ln nL)
open K52 (K0)
noncomputable abbrev Ov(a5 l n s t u:Int):Λ:=[[-a5,l,n,s,t],[a5,u],[-l],[-n, -u],[-s],[-t]]
def aaP(hn:Nm [a4,a5,a0,a1,a2,a3])(H:s0=1∨s0 = -1)(l:s1=1∨s1 = -1)(u:s2=1∨s2 = -1)(E:s3=1∨s3 = -1)(I:s4=1∨s4 = -1) :
  Ac [a4,a5,a0,a1,a2,a3] [Ov a5 (s0*a0) (s1*a1) (s2*a2) (s3*a3)<|s4*a4] []:=by
 have g:Go [a4,a5,a0,a1,a2,a3] 0 [] [[]] [] 0 [] [a4,a5,a0,a1,a2,a3] [a4,a5,a0,a1,a2,a3] 0:=((λT B=>(by cases B),λa=>⋯,hn,by simp),K31.T5 _,pl0 _,ag _,dD.refl _,by simp);have sb:∀k:Nat,dD ([a4,a5,a0,a1,a2,a3].drop k) [a4,a5,a0,a1,a2,a3]:=λk=>cH k _;have(c,w):=Ui (T:=[[]]) (t0:=[]) (h:=0) (op:=[]) (x:=a4) (rd:=[a5,a0,a1,a2,a3]) I rfl;have g:=g.w (T':=[[s4*a4]]) (t0':=[]) (h':=0) (op':=[s4*a4]) (rd':=[a5,a0,a1,a2,a3]) c w (sb 1) ⋯;have(c,w):=D6 (T:=[[s4*a4]]) (t0:=[]) (h:=0) (op:=[s4*a4]) (x:=a5) (rd:=[a0,a1,a2,a3]) (s:=1) (jE rfl) rfl;rw[Int.one_mul]at w;have g:=g.w (T':=[[s4*a4,a5],[-a5]]) (t0':=[0]) (h':=1) (op':=[s4*a4]) (rd':=[a0,a1,a2,a3]) c w (sb 2) ⋯;have(c,w):=D6 (T:=[[s4*a4,a5],[-a5]]) (t0:=[0]) (h:=1) (op:=[s4*a4]) (x:=a0) (rd:=[a1,a2,a3]) H rfl;have g:=g.w (T':=[[s4*a4,a5],[-a5,s0*a0],[-(s0*a0)]]) (t0':=[0,1]) (h':=2) (op':=[s4*a4]) (rd':=[a1,a2,a3]) c w (sb 3) ⋯;have g:=g.w (T':=[[s4*a4,a5],[-a5,s0*a0],[-(s0*a0)]]) (t0':=[0]) (h':=1) (op':=[s4*a4]) (rd':=[a1,a2,a3]) 1 (JM (t0:=[0]) (j:=1)) (sb 3) ⋯;have(c,w):=D6 (T:=[[s4*a4,a5],[-a5,s0*a0],[-(s0*a0)]]) (t0:=[0]) (h:=1) (op:=[s4*a4]) (x:=a1) (rd:=[a2,a3]) l rfl;have g:=g.w (T':=[[s4*a4,a5],[-a5,s0*a0,s1*a1],[-(s0*a0)],[-(s1*a1)]]) (t0':=[0,1]) (h':=3) (op':=[s4*a4]) (rd':=[a2,a3]) c w (sb 4) ⋯;have g:=g.w (T':=[[s4*a4,a5],[-a5,s0*a0,s1*a1],[-(s0*a0)],[-(s1*a1), -(s4*a4)]]) (t0':=[0,1]) (h':=3) (op':=[]) (rd':=[a2,a3]) 2 (S7 (op:=[]) (y:=s4*a4) rfl) (sb 4) ⋯;have g:=g.w (T':=[[s4*a4,a5],[-a5,s0*a0,s1*a1],[-(s0*a0)],[-(s1*a1), -(s4*a4)]]) (t0':=[0]) (h':=1) (op':=[]) (rd':=[a2,a3]) 1 (JM (t0:=[0]) (j:=1)) (sb 4) ⋯;have(c,w):=D6 (T:=[[s4*a4,a5],[-a5,s0*a0,s1*a1],[-(s0*a0)],[-(s1*a1), -(s4*a4)]]) (t0:=[0]) (h:=1) (op:=[]) (x:=a2) (rd:=[a3]) u rfl;have g:=g.w (T':=[[s4*a4,a5],[-a5,s0*a0,s1*a1,s2*a2],[-(s0*a0)],[-(s1*a1), -(s4*a4)],[-(s2*a2)]]) (t0':=[0,1]) (h':=4) (op':=[]) (rd':=[a3]) c w (sb 5) ⋯;have g:=g.w (T':=[[s4*a4,a5],[-a5,s0*a0,s1*a1,s2*a2],[-(s0*a0)],[-(s1*a1), -(s4*a4)],[-(s2*a2)]]) (t0':=[0]) (h':=1) (op':=[]) (rd':=[a3]) 1 (JM (t0:=[0]) (j:=1)) (sb 5) ⋯;have(c,w):=D6 (T:=[[s4*a4,a5],[-a5,s0*a0,s1*a1,s2*a2],[-(s0*a0)],[-(s1*a1), -(s4*a4)],[-(s2*a2)]]) (t0:=[0]) (h:=1) (op:=[]) (x:=a3) (rd:=[]) E rfl;have g:=g.w (T':=[[s4*a4,a5],[-a5,s0*a0,s1*a1,s2*a2,s3*a3],[-(s0*a0)],[-(s1*a1), -(s4*a4)],[-(s2*a2)],[-(s3*a3)]]) (t0':=[0,1]) (h':=5) (op':=[]) (rd':=[]) c w (sb 6) ⋯;have a:=g.next.ac;have pm:aF (Ov a5 (s0*a0) (s1*a1) (s2*a2) (s3*a3)<|s4*a4).flatten<|bt [[s4*a4,a5],[-a5,s0*a0,s1*a1,s2*a2,s3*a3],[-(s0*a0)],[-(s1*a1), -(s4*a4)],[-(s2*a2)],[-(s3*a3)]]:=by rw[cF];intro z;simp only[Ov,fCq,List.flatten_nil,cAq,bS,bG];rfl'
 have nd:c8 [[s4*a4,a5],[-a5,s0*a0,s1*a1,s2*a2,s3*a3],[-(s0*a0)],[-(s1*a1), -(s4*a4)],[-(s2*a2)],[-(s3*a3)]].flatten:=by
  rw[bP];intro z;have l:=a.cnt z;have u:=bP.mp (K31.BX hn) z;have E:(yB []).count z=0:=rfl;have n:[[s4*a4,a5],[-a5,s0*a0,s1*a1,s2*a2,s3*a3],[-(s0*a0)],[-(s1*a1), -(s4*a4)],[-(s2*a2)],[-(s3*a3)]].flatten.count z+(yB []).count z=(yB [a4,a5,a0,a1,a2,a3]).count z:=by show l
  omega
 have J:c8 [s4*a4,a5]:=bz.sublist (aL<|aa ..) nd;have L:good [a5,s4*a4]=good [s4*a4,a5]:=Lh (t:=[s4*a4,a5]) J 1;have G:gd (Ov a5 (s0*a0) (s1*a1) (s2*a2) (s3*a3)<|s4*a4)=gd [[s4*a4,a5],[-a5,s0*a0,s1*a1,s2*a2,s3*a3],[-(s0*a0)],[-(s1*a1), -(s4*a4)],[-(s2*a2)],[-(s3*a3)]]:=by show Rc ?_;simp only[Ov,aq,bQ];rw[L];show aF.swap _ _ _
 have pn:Pn [[s4*a4,a5],[-a5,s0*a0,s1*a1,s2*a2,s3*a3],[-(s0*a0)],[-(s1*a1), -(s4*a4)],[-(s2*a2)],[-(s3*a3)]]:=a.pn _ ⋯;show(λT B=>?_,λz=>?_,(by simp,by simp,λx M=>(by cases M)),by simp);.rw[mSq.mp B];show(by rw[G];show pn.pc,by rw[G];show pn.eu)
 .have l:=a.cnt z;have u:=nt pm z;have n:[[s4*a4,a5],[-a5,s0*a0,s1*a1,s2*a2,s3*a3],[-(s0*a0)],[-(s1*a1), -(s4*a4)],[-(s2*a2)],[-(s3*a3)]].flatten.count z+(yB []).count z=(yB [a4,a5,a0,a1,a2,a3]).count z:=by show l
  simp only[←n,←u,aN]
def six{l:Ϝ}(h:de l=6):∃a0 a1 a2 a3 a4 a5,l=[a0,a1,a2,a3,a4,a5]:=by match l,h with
 | [a0,a1,a2,a3,a4,a5],_=>show(a0,a1,a2,a3,a4,a5,rfl)
def aaZ ns:∃R P rd,C3 [.scr ns]=aB (.ow<|P.flatten.map λr=>.sh<|dI r)/\Ac R P rd/\R.length<=60/\Nm R/\P.flatten.length<=253:=by
 have U:Zl.pM [.scr ns,.int 3]=i6 (cell ns 3):=wO ns (k:=3)<|by rfl'
 have X:=Gn ns 6;have u:ze [.int 6]=aB (pT 0 6):=uK (n:=6) ⋯;have z:(pT 0 6).length<=qS:=by rw[qg];change 6<=16777216;decide
 have B:ze [.int 5]=aB (pT 0 5):=uK (n:=5) ⋯;have E:(pT 0 5).length<=qS:=by rw[qg];change 5<=16777216;decide
 have O:=Me ns (n:=6) ⋯;have Y:((aH 6).map λi:Nat=>CL ns (i:Int)).length=6:=by rfl
 generalize hL:((aH 6).map λi:Nat=>CL ns (i:Int))=L at *;have pm:(vH L).Perm L:=xJ L;have(a0,a1,a2,a3,a4,a5,Q):=six (l:=vH L)<|by rw[pm.length_eq];show Y
 have nm:Nm [a4,a5,a0,a1,a2,a3]:=by
  have S:[a4,a5,a0,a1,a2,a3].Perm L:=by show aF.trans ?_<|Q ▸ pm;show(ay (l₁:=[a4,a5]) (l₂:=[a0,a1,a2,a3]))
  show(by simp,S.nodup_iff.mpr O.nd,λx hx=>O.lo x<|S.mem_iff.mp hx)
 have s:=λk:Int=>Jq<|cell ns 3 / (k+2);have a:=aaP nm (s 0) (s 1) (s 2) (s 3)<|s 4;show(_,_,[],?_,a,by simp,nm,by simp);have sL:=oV L;have c:=cell ns 3;generalize hc:cell ns 3=c at *;have s2:∀x:Int,B1 (.int 2) (.int<|x % 2)=aB (.int<|2*(x % 2)):=λx=>K4 ⋯ ⋯;have s3:∀a x:Int,B1 (.int a) (.int<|1-2*(x % 2))=aB (.int<|a*(1-2*(x % 2))):=λa x=>ZC ∅ ∅;have t:∀k:Int,0<=k->k<=4->B3 (.int c) (.int<|k+2)=aB (.int<|c / (k+2)):=λk h1 h2=>yr ∅ ∅;have m2:∀x:Int,vI (.int x) (.int 2)=aB (.int<|x % 2):=λx=>tG ⋯;have r5:pT 0 5=[.int 0,.int 1,.int 2,.int 3,.int 4]:=rfl;have i0:atI [D.int a0,.int a1,.int a2,.int a3,.int a4,.int a5] 0=aB (.int a0):=rfl;have i1:atI [D.int a0,.int a1,.int a2,.int a3,.int a4,.int a5] 1=aB (.int a1):=rfl;have i2:atI [D.int a0,.int a1,.int a2,.int a3,.int a4,.int a5] 2=aB (.int a2):=rfl;have i3:atI [D.int a0,.int a1,.int a2,.int a3,.int a4,.int a5] 3=aB (.int a3):=rfl;have i4:atI [D.int a0,.int a1,.int a2,.int a3,.int a4,.int a5] 4=aB (.int a4):=rfl;have i5:atI [D.int a0,.int a1,.int a2,.int a3,.int a4,.int a5] 5=aB (.int a5):=rfl;have d0:=t 0 ⋯ ⋯;have d1:=t 1 ⋯ ⋯;have d2:=t 2 ⋯ ⋯;have d3:=t 3 ⋯ ⋯;have d4:=t 4 ⋯ ⋯;have cmp:rD sV (kSc<|pQ B1 (pQ vd (oQ 1)<|oQ 0)<|pQ Cv (rC<|.int 1)<|pQ B1 (rC<|.int 2)<|pQ vI (pQ B3 (oQ 2)<|pQ AR (oQ 0)<|rC<|.int 2)<|rC<|.int 2) [i7 [.int a0,.int a1,.int a2,.int a3,.int a4,.int a5],i6 c] (pT 0 5)=aB [.sh<|.int<|a0*(1-2*(c / (0+2) % 2)),.sh<|.int<|a1*(1-2*(c / (1+2) % 2)),.sh<|.int<|a2*(1-2*(c / (2+2) % 2)),.sh<|.int<|a3*(1-2*(c / (3+2) % 2)),.sh<|.int<|a4*(1-2*(c / (4+2) % 2))]:=by rw[r5];simp! [rD,i0,i1,i2,i3,i4,d0,d1,d2,d3,d4,m2,s2,s3]
 have io:sP (L.map .int)=aB L:=vw L;have sS:oY (.ow [.sh<|.int a0,.sh<|.int a1,.sh<|.int a2,.sh<|.int a3,.sh<|.int a4,.sh<|.int a5]) = .list [.int a0,.int a1,.int a2,.int a3,.int a4,.int a5]:=by rfl
 generalize G:a0*(1-2*(c / (0+2) % 2))=g0 at cmp;generalize H:a1*(1-2*(c / (1+2) % 2))=g1 at cmp;generalize I:a2*(1-2*(c / (2+2) % 2))=g2 at cmp;generalize J:a3*(1-2*(c / (3+2) % 2))=g3 at cmp;generalize M:a4*(1-2*(c / (4+2) % 2))=g4 at cmp;have sG:oY (.ow [.sh<|.int g0,.sh<|.int g1,.sh<|.int g2,.sh<|.int g3,.sh<|.int g4]) = .list [.int g0,.int g1,.int g2,.int g3,.int g4]:=by rfl
 have k0:atI [D.int g0,.int g1,.int g2,.int g3,.int g4] 0=aB (.int g0):=rfl;have k1:atI [D.int g0,.int g1,.int g2,.int g3,.int g4] 1=aB (.int g1):=rfl;have k2:atI [D.int g0,.int g1,.int g2,.int g3,.int g4] 2=aB (.int g2):=rfl;have k3:atI [D.int g0,.int g1,.int g2,.int g3,.int g4] 3=aB (.int g3):=rfl;have k4:atI [D.int g0,.int g1,.int g2,.int g3,.int g4] 4=aB (.int g4):=rfl;have ct:Bc [D.int g0,.int g1,.int g2,.int g3,.int g4] n_ (aB 4)=[.int g0,.int g1,.int g2,.int g3]:=rfl;have fin:C3 [.scr ns]=aB (.ow<|(Ov a5 g0 g1 g2 g3 g4).map λr=>.sh<|dI r):=by have ex:((Ov a5 g0 g1 g2 g3 g4).map λr=>AV.sh<|dI r)=[.sh<|.list [.int<|-a5,.int g0,.int g1,.int g2,.int g3],.sh<|.list [.int a5,.int g4],.sh<|.list [.int<|-g0],.sh<|.list [.int<|-g1,.int<|-g4],.sh<|.list [.int<|-g2],.sh<|.list [.int<|-g3]]:=rfl;rw[ex];simp! [C3,K9,u,z,X,U,sL,dI,io,Q,sS,B,E,cmp,sG,k0,k1,k2,k3,k4,i5,ct,aq,bQ]
 simp only[fin,aN,←G,←H,←I,←J,←M];simp only[Int.mul_comm]
end K64
namespace K64
open PySem L2 Mr Z Xe Zl
open K47 (Mv Bl kp C7 Zk)
theorem Y8(M)k:∀{r:Ϝ}{ks},c8 ks->c8 (r.foldl (KL M k) ks)/\∀t∈r.foldl (KL M k) ks,t∈ks∨∃e∈r,plc M (-e)=t/\t≠k
 | [],ks,h=>(h,λt ht=>jE ht)
 |e::r,ks,h=>by
  have hn:c8 (KL M k ks e):=by
   unfold KL addN;split;.show h
   .split;.show h
    .rename_i q;show e9 nAq (h,jc _ _,λa ha b hb z=>by rw[mSq.mp hb]at z;subst z;show q ha)
  have(l,n):=Y8 M k hn;show(l,λt ht=>?_);obtain z|⟨f,hf,z⟩:=n t ht
  .unfold KL addN at z;split at z;.show jE z
   .rename_i q;split at z;.show jE z
    .obtain w|w:=mAq.mp z;.show jE w
     .have s:=mSq.mp w;subst s;show iq (e,aa ..,rfl,q)
  .show iq (f,mCo _ hf,z)
theorem IT:∀{l m:Θ},c8 l->(∀x∈l,x∈m)->de l<=de m
 | [],_,_,_=>aY _
 |a::l,m,h,s=>by have(t,u):=au.mp h;have:=IT u λx n=>e9 (jx<|show x≠a from λz=>t<|z ▸ n)<|s x<|mCo _ n;have ha:=s a<|aa ..;rw[gB ha]at this;have:=dh ha;rw[lCq];lia
theorem Sq:∀(l:Ϝ),l≠[]->∃e∈l,∀f∈l,e.natAbs<=f.natAbs
 | [],h=>absurd rfl h
 | [a],_=>(a,List.mem_singleton_self a,λf hf=>by rw[mSq.mp hf];show ag _)
 |a::b::l,_=>by
  have(e,s,n):=Sq (b::l) ⋯;by_cases c:a.natAbs<=e.natAbs
  .show(a,aa ..,λf hf=>?_);obtain z|z:=ae.mp hf;.rw[z];show ag _
   .show bI c<|n f z
  .show(e,mCo _ s,λf hf=>?_);obtain z|z:=ae.mp hf;.lia
   .show n f z
def acK(M:Λ)(e f:Int):Prop:=(plc M f=plc M e/\plc M (-f)=plc M (-e))∨(plc M f=plc M (-e)/\plc M (-f)=plc M e)
def Kp(M:Λ)(L:Θ)(e:Int):Prop:=plc M e∈L/\plc M (-e)∈L/\plc M e≠plc M (-e)/\∀f∈bt M,acK M e f->e.natAbs<=f.natAbs
def Wa(h:Kp M L e):Kp M L<|-e:=by have(l,n,s,u):=h;show(n,by rw[bf];show l,by rw[bf];show mr s,λf hf t=>?_);rw[kr];show u f hf ?_;unfold acK at t ⊢;rw[bf]at t;show t.symm
def abt(h:Mv M)(b:Bl M){L:Θ}(hL:L≠[])(O:∀p∈L,p<de M):∃p∈L,de ((nb M p<|cn M p []).filter λq=>decide<|q∈L)<=5:=by
 let S:Int->Bool:=λe=>@decide (Kp M L e)<|aK _;have hS:∀e,S e=t_↔Kp M L e:=λe=>@decide_eq_true_iff _<|aK _;have P:∀e∈bt M,S (-e)=S e:=λe Z=>by rw[bL,hS,hS];show(λq=>by have:=Wa q;rwa [bf]at this,Wa)
 have n:=Zk h P;have hbl:=K47.Bl.filter _ rfl h P b;have nf:=C7 S M;have mem:∀e,e∈bt (kp S M)↔e∈bt M/\Kp M L e:=λe=>by rw[nf,ax,hS]
 have J:∀e∈bt (kp S M),plc (kp S M) e=plc M e:=λe l=>by have(r,hr,her):=h.mp.at ((mem e).mp l).1;show plc_eq n.mp.hn (r:=r.filter S) ?_<|e9 ax (her,e9 (hS e) ((mem e).mp l).2);unfold kp;rw[gMq,hr];rfl
 have sub:∀p∈L,de ((nb M p<|cn M p []).filter λq=>decide<|q∈L)<=de ((cn M p []).filter S):=λp u=>by
  have(n1,n2):=Y8 M p (r:=cn M p []) (ks:=[]) bA;have G:=O p u;have hr:M[p]?=aB (cn M p []):=by rw[gDq,gEg G];rfl
  rw[←lMq (f:=λe=>plc M<|-e) (as:=(cn M p []).filter S)];show IT (n1.filter _) λq hq=>?_;have(hq1,hq2):=ax.mp hq;have hqL:=of_decide_eq_true hq2;obtain z|⟨e0,he0,ez,x⟩:=n2 q hq1;.cases z
  .have(e,l,Q):=Sq ((cn M p []).filter λf=>decide<|plc M (-f)=q) (λz=>by have:e0∈(cn M p []).filter λf=>decide<|plc M (-f)=q:=e9 ax (he0,d5 ez);rw[z]at this;cases this);have(B,H):=ax.mp l;have eq:=of_decide_eq_true H;have I:plc M e=p:=plc_eq h.mp.hn hr B;show e9 mMq (e,e9 ax (B,e9 (hS e) (by rw[I];show u,by rw[eq];show hqL,by rw[I,eq];show mr x,λf hf t=>?_)),eq);have E:∀g∈bt M,plc M g=p->plc M (-g)=q->e.natAbs<=g.natAbs:=λg hg g1 g2=>by have(r,R,hgr):=h.mp.at hg;rw[g1,hr]at R;cases R;show Q g<|e9 ax (hgr,d5 g2)
   obtain⟨t1,t2⟩|⟨t1,t2⟩:=t;.show E f hf (by rw[t1,I])<|by rw[t2,eq]
   .have:=E (-f) (p9 h.mp f hf) (by rw[t2,I])<|by rw[bf,t1,eq]
    rwa [kr]at this
 by_cases x:bt (kp S M)=[]
 .obtain⟨p,u⟩:∃p,p∈L:=by cases L with
   |nil=>show absurd rfl hL
   |cons a _=>show(a,aa ..)
  show(p,u,bI (sub p u) ?_);have:(cn M p []).filter S=[]:=by rw[fT];intro e l q;have G:=O p u;have hm:e∈bt M:=e9 mFq (cn M p [],mGq (i:=p)<|by rw[gDq,gEg G];rfl,l);have:=e9 (mem e) (hm,(hS e).mp q);rw[x]at this;cases this
  rw[this];show aY _
 .have(r,hr,r0,r5):=Rh n hbl x (λe l=>by have hm:=(mem e).mp l;rw[J e l,J (-e)<|p9 n.mp e l];show hm.2.2.2.1) (λe l f hf Y U=>by
   have h1:=(mem e).mp l;have h2:=(mem f).mp hf;rw[J e l,J f hf]at Y;rw[J _<|p9 n.mp e l,J _<|p9 n.mp f hf]at U;have a1:=h1.2.2.2.2 f h2.1<|jE (fx Y,fx U);have a2:=h2.2.2.2.2 e h1.1<|jE (Y,U);have a3:e.natAbs=f.natAbs:=ji a1 a2;obtain z|z:=Int.natAbs_eq_natAbs_iff.mp a3;.show z
   .exfalso;rw[z,bf]at U;rw[z]at Y;show h2.2.2.2.1 U);skip;have(s,hs,rfl):=mMq.mp hr;have(p,u,I):=gv hs;have eg:cn M p []=s:=by rw[gDq,gEg u,I];rfl
  have hps:M[p]?=aB s:=by rw[gEg u,I]
  obtain⟨e,l⟩:∃e,e∈s.filter S:=List.exists_mem_of_ne_nil _ r0;have(B,H):=ax.mp l;have X:p∈L:=by have:=((hS e).mp H).1;rwa [plc_eq h.mp.hn hps B]at this
  show(p,X,bI (sub p X) ?_);rw[eg];show r5
end K64
namespace K61
open PySem L2 Mr Z Xe Zl
def XG(hn:c8 (bt l))(hl:de (bt l)<=1000):∃v2 v3 v4,CF 2 3 wL 0 (l.map dI) [aB<|b8<|dM l,aB<|eT [],n_,n_,n_,n_,n_]=aB (gb [aB<|b8<|dM l,aB<|eT<|qd 0 l,v2,v3,v4,n_,n_]):=by
 have key:=Qy (x:=2) (y:=3) (k:=0) (body:=wL) (λi S=>∃v2 v3 v4,S=[aB<|b8<|dM l,aB<|eT<|qd 0<|l.take i,v2,v3,v4,n_,n_]) (ds:=l.map dI) (S:=[aB<|b8<|dM l,aB<|eT [],n_,n_,n_,n_,n_]) (n_,n_,n_,rfl) (by
  rintro i d S hd ⟨v2,v3,v4,rfl⟩;rw[bD];have(r,hr,rfl):=Di hd;have s:=sZ hr;have E:=vp l<|i+1;have hi:i<de l:=(gSq.mp hr).1;have t:c8 (bt (l.take i)++r):=by
   rw[←s];have H:bt l=bt (l.take<|i+1)++bt (l.drop<|i+1):=by rw[←fAq,aV]
   rw[H]at hn;show(nAq.mp hn).1
  rw[s,lAq]at E;have I:=xY (x:=4) (body:=zc) (λj S=>∃v4,S=[aB<|b8<|dM l,aB<|eT<|qd 0 (l.take i)++ud i (r.take j),i6 i,aB<|b8<|dI r,v4,n_,n_]) (ds:=r.map b7) (S:=[aB<|b8<|dM l,aB<|eT<|qd 0<|l.take i,i6 i,aB<|b8<|dI r,v4,n_,n_]) (v4,by simp[ud]) (by
   rintro j d S hd ⟨v4,rfl⟩;have(z,B,rfl):=Ds hd;have O:j<de r:=(gSq.mp B).1;have J:de (qd 0 (l.take i)++ud i (r.take j))<qS:=IW (by rw[lAq,GL];unfold ud;rw[lMq,lTq];lia);have u:zw (qd 0 (l.take i)++ud i (r.take j)) (aO z) (b7 (i:Int))=qd 0 (l.take i)++ud i (r.take<|j+1):=by
    rw[FS];.unfold ud;rw[sU B,mBq,af];rfl
    .rw[mBq,yN];intro m;have L:r.take (j+1)=r.take j++[z]:=sU B;obtain m|m:=mAq.mp m;.have(x,G,n):=mMq.mp m;cases n;show(nAq.mp t).2.2 _ G _ (mGq B) rfl
     .unfold ud at m;rw[mPq]at m;have(x,G,n):=mMq.mp m;cases n;have:=bz.sublist (bV (j+1) r) (nAq.mp t).2.1;rw[L]at this;show(nAq.mp this).2.2 _ G _ ⋯ rfl
   show(_,?_,i6 z,rfl);simp! [zc,J,u]);have(P,n,M,rfl):=I;rw[lMq,bC]at n;show(_,?_,i6 i,aB<|b8<|dI r,M,rfl);rw[sU hr,Br,lTq,eO<|by rfl',bD];simp! [wL,n]);have(Q,e,v2,v3,v4,rfl):=key;rw[bD,lMq,bC]at e;show(v2,v3,v4,e)
noncomputable abbrev cN(ks:Θ):Ϝ:=ks.map λn:Nat=>(n:Int)
def tX{t:Nat}:(t:Int)∈cN ks↔t∈ks:=by
 skip;rw[mMq];show(λ⟨n,h,e⟩=>?_,λh=>(t,h,rfl));have:n=t:=by lia
 rwa [←this]
def Lr{t k:Nat}(n:l5 kvs (aO<|-e)=aB (b7 (t:Int)))(hk:de ks<500000) :
  ui [v0,aB<|eT kvs,i6 (k:Int),v3,i6 e,v5,aB<|aI<|cN ks]=aB (gb [v0,aB<|eT kvs,i6 (k:Int),v3,i6 e,v5,aB<|aI<|cN<|if t=k then ks else addN ks t]):=by
 have x:de ks<qS:=by change _<16777216;lia
 have dn:=Na t_ (t:Int)<|cN ks;have st:=oV<|cN ks;by_cases h:t=k
 .have l:(t:Int)=(k:Int):=by simp +arith[*]
  simp! [ui,n,l,h]
 .have l:¬ (t:Int)=(k:Int):=by lia
  by_cases c:t∈ks;.have s:(t:Int)∈cN ks:=e9 tX c;have u:addN ks t=ks:=pZ c;simp! [ui,n,l,h,st,dI,s,u]
  .have s:¬ (t:Int)∈cN ks:=λz=>c<|tX.mp z;have u:addN ks t=ks++[t]:=pW c;simp! [ui,n,l,h,st,dI,s,u,x,mBq];simp[cN]
def Ig(s:Mp l):yc [dM l]=aB (d8<|(Hm l 0 l).map λr=>b8<|dI r):=by
 have hl:=s.hl;have B:=s.hr;have(t,u,n,Q):=XG s.hn hl;have key:=Qy (x:=2) (y:=3) (k:=0) (body:=yU) (λi S=>∃t u n L,S=[aB<|b8<|dM l,aB<|eT<|qd 0 l,t,u,n,aB<|d8<|((Hm l 0 l).take i).map λr=>b8<|dI r,L]) (ds:=l.map dI) (S:=[aB<|b8<|dM l,aB<|eT<|qd 0 l,t,u,n,aB<|d8 [],n_]) (t,u,n,n_,rfl) (by
  rintro i d S hd ⟨t,u,n,L,rfl⟩;rw[bD];have(r,hr,rfl):=Di hd;have M:=s.row hr;have R:=xY (x:=4) (body:=ui) (λj S=>∃n,S=[aB<|b8<|dM l,aB<|eT<|qd 0 l,i6 (i:Int),aB<|b8<|dI r,n,aB<|d8<|((Hm l 0 l).take i).map λr=>b8<|dI r,aB<|aI<|cN<|(r.take j).foldl (KL l i) []]) (ds:=r.map b7) (S:=[aB<|b8<|dM l,aB<|eT<|qd 0 l,i6 (i:Int),aB<|b8<|dI r,n,aB<|d8<|((Hm l 0 l).take i).map λr=>b8<|dI r,aB<|d8 []]) (n,rfl) (by rintro j d S hd ⟨n,rfl⟩;have(z,O,rfl):=Ds hd;have E:z∈r:=mGq O;have U:=Jw l i (r.take j) [];rw[lTq,cw]at U;have step:=Lr (k:=i) (v0:=aB<|b8<|dM l) (v3:=aB<|b8<|dI r) (v5:=aB<|d8<|((Hm l 0 l).take i).map λr=>b8<|dI r) (s.kv<|s.other hr E) (ks:=(r.take j).foldl (KL l i) []) ∅;show(_,step,i6 z,?_);rw[BZ O];rfl);have(Y,G,H,rfl):=R;rw[lMq,bC]at G;have I:de ((Hm l 0 l).take i)<qS:=by rw[lTq];change _<16777216;have:=J5 l l 0;lia
  have P:=Qn l (k:=0) hr;rw[bD]at P;show([aB<|b8<|dM l,aB<|eT<|qd 0 l,i6 (i:Int),aB<|b8<|dI r,H,aB<|d8<|((Hm l 0 l).take<|i+1).map λr=>b8<|dI r,aB<|b8<|dI<|cN<|nb l i r],?_,i6 (i:Int),aB<|b8<|dI r,H,aB<|b8<|dI<|cN<|nb l i r,rfl);rw[sU P,mBq];have st:=oV<|cN<|nb l i r;have J:r.foldl (KL l i) []=nb l i r:=rfl;rw[J]at G;simp! [yU,G,I,st]);have(S',e,w2,w3,H,w6,rfl):=key;rw[lMq]at e;have X:(Hm l 0 l).take (de l)=Hm l 0 l:=dk<|by rw[J5];show ag _
 rw[bD,X]at e;simp! [yc,El,Q,e]
end K61
namespace K62
open PySem L2 Mr Z Xe Zl K61
noncomputable def cD:Option Int->D
 |aB i=>b7 i
 |n_=>j0
noncomputable def HN(a b:Int)(c:Option Int):Bool:=decide<|c=aB a∨c=aB b
def OH(c)a b:yp f_ (cD c) (lG [b7 a,b7 b])=aB (k9<|HN a b c):=by cases c with
 |none=>rfl
 |some i=>
  change aB (k9<|ZQ (c7 i) [c7 a,c7 b])=_;congr 2;change((a == i) || ((b == i) || f_))=decide (aB i=aB a∨aB i=aB b);by_cases l:i=a;.subst l;simp
  .have n:¬ a=i:=λz=>l<|fx z;by_cases s:i=b;.subst s;simp
   .have t:¬ b=i:=λz=>s<|fx z;simp[l,s,n,t]
def xp{cs:List<|Option Int}(h:t<de cs):atI (cs.map cD) (t:Int)=aB (cD<|cn cs t n_):=uS (by rw[gMq,gEg h,gDq,gEg h];rfl)
abbrev nD(nr:List Θ):D:=dM<|nr.map cN
def wq{nr:List Θ}{t:Nat}(h:nr[t]?=aB r):atI ((nr.map cN).map dI) (t:Int)=aB (dI<|cN r):=uS (by rw[gMq,gMq,h];rfl)
inductive Ch (nr:List Θ)(ok:Nat->Bool)(s:Nat):Nat->Prop
 |base:Ch nr ok s s
 |step {k t:Nat}{r:Θ}:Ch nr ok s k->nr[k]?=aB r->t∈r->ok t=t_->Ch nr ok s t
noncomputable def zf(ok:Nat->Bool)(x:List Nat×Θ)(t:Nat):List Nat×Θ:=if t∈x.1∨ok t=f_ then x else %[x.1++[t]|x.2++[t]]
theorem see_fold ok:∀(r:Θ) (ks ws:Θ),∃a,r.foldl (zf ok) %[ks|ws]=%[ks++a|ws++a]/\(∀k∈a,k∈r/\ok k=t_)/\(∀t∈r,ok t=t_->t∈ks++a)/\(c8 ks->c8 (ks++a))/\de a<=de r
 | [],ks,ws=>([],by simp,by simp,by simp,by simp,by simp)
 |t::r,ks,ws=>by
  simp only[dr];by_cases h:t∈ks∨ok t=f_
  .have u:zf ok %[ks|ws] t=%[ks|ws]:=by delta zf;rw[pZ h]
   rw[u];have(a,B,s,E,G,I):=see_fold ok r ks ws;show(a,B,λk hk=>(mCo _ (s k hk).1,(s k hk).2),λx l hk=>?_,G,by rw[lCq];rfl');obtain rfl|l:=ae.mp l
   .obtain h|h:=h;.show e9 mAq<|jE h
    .rw[hk]at h;cases h
   .show E x l hk
  .have u:zf ok %[ks|ws] t=%[ks++[t]|ws++[t]]:=by delta zf;rw[pW h]
   rw[u];have hk:t∉ks:=λz=>h<|jE z;have J:ok t=t_:=by cases q:ok t with
    |true=>rfl
    |false=>show absurd (iq q) h
   have(a,B,s,E,G,I):=see_fold ok r (ks++[t])<|ws++[t];show(t::a,by rw[B,af,af];rfl,λk n=>?_,λx l H=>?_,λhn=>?_,by simp only[lCq,lCq];rfl')
   .obtain rfl|n:=ae.mp n;.show(aa ..,J)
    .show(mCo _ (s k n).1,(s k n).2)
   .obtain rfl|l:=ae.mp l;.show e9 mAq<|iq<|aa ..
    .have:=E x l H;rwa [af]at this
   .have:=G (by rw[nAq];show(hn,by simp,λx l y L q=>hk<|by rw[mSq.mp L]at q;rw[←q];show l));rwa [af]at this
theorem pig:∀N (l:Θ),c8 l->(∀x∈l,x<N)->de l<=N
 |0,l,_,h=>by cases l with
  |nil=>show ag _
  |cons x l=>show absurd (h x<|aa ..)<|dg _
 |N+1,l,hn,h=>by have n:=pig N (l.erase N) (hn.erase N) (λx s=>by have:=(hn.mem_erase_iff).mp s;have:=h x this.2;lia);rw[jP]at n;split at n <;> lia
structure Nr (nr:List Θ):Prop where
 lt:∀r∈nr,∀t∈r,t<nr.length
 row:∀r∈nr,r.length<=1000
 len:nr.length<=1000
section
variable {cs:List<|Option Int}
def N0(ht:t<de cs)(hk:de ks<500000)(hw:de ws<500000) :
  rB [v0,i7<|cs.map cD,v2,i6 a,i6 b,aB<|eT<|kd ks,aB<|d8<|wd ws,v7,i6 (t:Int)]=aB (gb [v0,i7<|cs.map cD,v2,i6 a,i6 b,aB<|eT<|kd (zf (λt=>HN a b<|cn cs t n_) %[ks|ws] t).1,aB<|d8<|wd (zf (λt=>HN a b<|cn cs t n_) %[ks|ws] t).2,v7,i6 (t:Int)]):=by
 have G:de (kd ks)<qS:=by delta kd;rw[lMq];change _<16777216;lia
 have H:de (wd ws)<qS:=by delta wd;rw[lMq];change _<16777216;lia
 have l:=kd_get ks t;have B:=xp ht;have n:=OH (cn cs t n_) a b;have x:wd ws++[b8<|b7 (t:Int)]=wd (ws++[t]):=by simp[wd]
 by_cases h:t∈ks;.rw[d5 h]at l;have s:zf (λt=>HN a b<|cn cs t n_) %[ks|ws] t=%[ks|ws]:=pZ<|jE h;simp! [rB,l,s]
 .rw[d6 h]at l;have E:=kd_put2 ks t;rw[show addN ks t=ks++[t]from pW h]at E;cases u:HN a b (cn cs t n_)with
  |true=>
   rw[u]at n;have s:zf (λt=>HN a b<|cn cs t n_) %[ks|ws] t=%[ks++[t]|ws++[t]]:=pW<|λz=>t6 z h λz=>by rw[show HN a b (cn cs t n_)=f_ from z]at u;cases u
   simp! [rB,l,s,B,n,E,G,H,x]
  |false=>rw[u]at n;have s:zf (λt=>HN a b<|cn cs t n_) %[ks|ws] t=%[ks|ws]:=pZ<|iq u;simp! [rB,l,s,B,n]
end
abbrev ok(cs:List<|Option Int)(a b:Int):Nat->Bool:=λt=>HN a b<|cn cs t n_
def RE(ht:∀t∈r,t<de cs)(hk:de ks+de r<500000)(hw:de ws+de r<500000) :
  ∃l,rA 8 rB ((cN r).map b7) [v0,i7<|cs.map cD,v2,i6 a,i6 b,aB<|eT<|kd ks,aB<|d8<|wd ws,v7,v8]=aB (gb [v0,i7<|cs.map cD,v2,i6 a,i6 b,aB<|eT<|kd (r.foldl (zf<|ok cs a b) %[ks|ws]).1,aB<|d8<|wd (r.foldl (zf<|ok cs a b) %[ks|ws]).2,v7,l]):=by
 have key:=xY (x:=8) (body:=rB) (λi S=>∃l,S=[v0,i7<|cs.map cD,v2,i6 a,i6 b,aB<|eT<|kd ((r.take i).foldl (zf<|ok cs a b) %[ks|ws]).1,aB<|d8<|wd ((r.take i).foldl (zf<|ok cs a b) %[ks|ws]).2,v7,l]) (ds:=(cN r).map b7) (S:=[v0,i7<|cs.map cD,v2,i6 a,i6 b,aB<|eT<|kd ks,aB<|d8<|wd ws,v7,v8])
  (v8,rfl) (by
  rintro i d S hd ⟨l,rfl⟩;rw[gMq,gMq]at hd;have(z,s,rfl):=oMq.mp hd;have(t,n,rfl):=oMq.mp s;have u:=mGq n;have(x,B,_,_,_,E):=see_fold (ok cs a b) (r.take i) ks ws;rw[lTq]at E;have step:=N0 (cs:=cs) (a:=a) (b:=b) (v0:=v0) (v2:=v2) (v7:=v7) (ht t u) (ks:=ks++x) (ws:=ws++x) (by rw[lAq];lia)<|by rw[lAq];lia
  show(_,?_,i6 (t:Int),rfl);rw[BZ n,B];show step);have(G,e,l,rfl):=key;rw[lMq,lMq,bC]at e;show(l,e)
structure Inv (nr:List Θ)(ok:Nat->Bool)(s:Nat)(ks ws:Θ):Prop where
 nd:ks.Nodup
 lt:∀k∈ks,k<nr.length
 st:s∈ks
 rc:∀k∈ks,Ch nr ok s k
 sub:∀w∈ws,w∈ks
 cl:∀k∈ks,k∉ws->∀r t,nr[k]?=aB r->t∈r->ok t=t_->t∈ks
 few:2*(nr.length-ks.length)+ws.length<=2*nr.length+1
def Inv.go{ok}(E:Nr nr)(hi:Inv nr ok s ks<|ws++[h])(hr:nr[h]?=aB r):∃x,r.foldl (zf ok) %[ks|ws]=%[ks++x|ws++x]/\Inv nr ok s (ks++x) (ws++x)/\2*(de nr-de (ks++x))+de (ws++x)<2*(de nr-de ks)+de (ws++[h]):=by
 have(x,G,n,H,I,_):=see_fold ok r ks ws;have hh:h∈ks:=hi.sub h ⋯;have nd:=I hi.nd;have lt:∀k∈ks++x,k<de nr:=by
  intro k hk;obtain q|q:=mAq.mp hk;.show hi.lt k q
  .show E.lt r (mGq hr) k (n k q).1
 have pl:=pig _ _ nd lt;have J:=hi.few;simp only[lAq]at pl;rw[lAq,lSq]at J;have key:2*(de nr-de (ks++x))+de (ws++x)<2*(de nr-de ks)+de (ws++[h]):=by rw[lAq,lAq,lAq,lSq];lia
 show(x,G,(nd,lt,e9 mAq<|jE hi.st,λk hk=>?_,λw hw=>?_,λk hk hw=>?_,?_),key)
 .obtain q|q:=mAq.mp hk;.show hi.rc k q
  .show .step (hi.rc h hh) hr (n k q).1 (n k q).2
 .obtain q|q:=mAq.mp hw;.show e9 mAq<|jE<|hi.sub w<|e9 mAq<|jE q
  .show e9 mAq<|iq q
 .intro L t l u B;have M:k∈ks:=sW (mAq.mp hk) λq=>hw<|e9 mAq<|iq q;by_cases q:k=h;.subst q;rw[hr]at l;cases l;show H t u B
  .show e9 mAq (jE (hi.cl k M (λz=>by
    obtain z|z:=mAq.mp z;.show hw<|e9 mAq<|jE z
    .show q<|mSq.mp z) L t l u B))
 .rw[lAq,lAq]at key ⊢;rw[lAq,lSq]at key;lia
noncomputable def mu(N:Nat):AS->Nat
 | [_,_,_,_,_,aB (eT kv),aB (d8 w),_,_]=>2*(N-de kv)+de w
 |_=>0
def NL(u:Nr nr)(z:de cs=de nr)(M:s<de nr):∃S',sE (rQ<|pQ CS (vJ rq<|oR (oQ 6) pE)<|rC<|b7 0) uY 100000 [aB<|b8<|nD nr,i7<|cs.map cD,i6 (s:Int),i6 a,i6 b,aB<|eT<|kd [s],aB<|d8<|wd [s],n_,n_]=aB (gb S') /\
  ∃ks v7 v8,S'=[aB<|b8<|nD nr,i7<|cs.map cD,i6 (s:Int),i6 a,i6 b,aB<|eT<|kd ks,aB<|d8<|wd [],v7,v8]/\Inv nr (ok cs a b) s ks []:=by
 have B:=u.len;show wX (c:=rQ<|pQ CS (vJ rq<|oR (oQ 6) pE)<|rC<|b7 0) (body:=uY) (λS=>∃ks l v7 v8,S=[aB<|b8<|nD nr,i7<|cs.map cD,i6 (s:Int),i6 a,i6 b,aB<|eT<|kd ks,aB<|d8<|wd l,v7,v8]/\Inv nr (ok cs a b) s ks l) (mu<|de nr) (λS'=>∃ks v7 v8,S'=[aB<|b8<|nD nr,i7<|cs.map cD,i6 (s:Int),i6 a,i6 b,aB<|eT<|kd ks,aB<|d8<|wd [],v7,v8]/\Inv nr (ok cs a b) s ks []) ?_ 100000 _ ([s],[s],n_,n_,rfl,?_) ?_
 .rintro S ⟨ks,l,v7,v8,rfl,hi⟩;obtain rfl|⟨l,h,rfl⟩:=dJ l;.show(f_,_,?_,λq=>(nomatch q),λZ=>(ks,v7,v8,rfl,hi));simp! [wd];rfl
  .rw[dN]at hi ⊢;have E:h<de nr:=hi.lt h<|hi.sub h ⋯;have hr:nr[h]?=aB nr[h]:=gEg E;have n:=mGq hr;have(x,O,G,H):=hi.go u hr;have few:=hi.few;have U:=pig _ _ hi.nd hi.lt;have X:=u.row _ n;rw[lAq,lSq]at few;have(I,L):=RE (cs:=cs) (a:=a) (b:=b) (ks:=ks) (ws:=l) (r:=nr[h]) (v0:=aB<|b8<|nD nr) (v2:=i6 (s:Int)) (v7:=i6 (h:Int)) (v8:=v8) (λt ht=>by rw[z];show u.lt _ n t ht) ∅ ∅;rw[O]at L;have hw:wd (l++[h])=wd l++[b8<|b7 (h:Int)]:=by simp[wd]
   have wl:de (wd l)=de l:=by simp[wd]
   have P:(0:Int)<(de (wd l++[b8<|b7 (h:Int)]):Int):=by rw[lAq,lSq];simp +arith[*]
   have Q:(wd l++[b8<|b7 (h:Int)])[de (wd l++[b8<|b7 (h:Int)])-1]?=i6 (h:Int):=by rw[lAq,lSq,gYq<|by rfl'];simp
   have R:l8 (wd l++[b8<|b7 (h:Int)])=wd l:=cM;have J:=wq hr;show(t_,[aB<|b8<|nD nr,i7<|cs.map cD,i6 (s:Int),i6 a,i6 b,aB<|eT<|kd ks,aB<|d8<|wd l++[b8<|b7 (h:Int)],v7,v8],?_,λZ=>([aB<|b8<|nD nr,i7<|cs.map cD,i6 (s:Int),i6 a,i6 b,aB<|eT<|kd<|ks++x,aB<|d8<|wd<|l++x,i6 (h:Int),I],?_,(_,_,_,_,rfl,G),?_),λq=>(nomatch q));.simp! [hw,P]
   .simp! [uY,Q,R,nD,dM,J,L]
   .change 2*(de nr-de (kd<|ks++x))+de (wd<|l++x)<2*(de nr-de (kd ks))+de (wd<|l++[h]);delta kd wd;rw[lMq,lMq,lMq,lMq];show H
 .show(by simp,?_,by simp,?_,λw h=>h,?_,?_);.intro k hk;rw[mSq.mp hk];show M
  .intro k hk;rw[mSq.mp hk];show .base
  .intro k hk hn;show absurd hk hn
  .simp only[lSq];lia
 .change 2*(de nr-de (kd [s]))+de (wd [s])<100000;simp only[kd,wd,lMq,lSq];lia
def Bi(n:Nr nr)(l:de cs=de nr)(t:s<de nr):∃ks,c8 ks/\(∀k,k∈ks↔Ch nr (ok cs a b) s k)/\uj [nD nr,ew<|cs.map cD,b7 (s:Int),b7 a,b7 b]=aB (aI<|vH<|cN ks):=by
 have(G,e,ks,H,I,rfl,hi):=NL (a:=a) (b:=b) n l t;have u:[%[(aO (s:Int):qk)|k9 t_]]=kd [s]:=rfl;have x:[b8<|b7 (s:Int)]=wd [s]:=rfl;have z:Dg (kd ks)=aB (cN ks):=D8 (λk:Nat=>(k:Int)) (λQ=>k9 t_) ks;have B:de (wd [s])<=qS:=by change 1<=16777216;decide
 show(ks,hi.nd,λk=>(hi.rc k,λh=>?_),?_);.induction h with
  |base=>show hi.st
  |step _ p q r E=>show hi.cl _ E cP _ _ p q r
 .simp! [uj,Bj,u,x,e,z,B]
section
variable {cs:List<|Option Int}
def Vv(ht:t<de cs)(hk:de ms<500000) :
  tY [v0,i7<|cs.map cD,v2,i6 a,i6 b,aB<|aI<|cN ms,v6,i6 (t:Int)]=aB (gb [v0,i7<|cs.map cD,v2,i6 a,i6 b,aB<|aI<|cN (zf (ok cs a b) %[ms|ms] t).1,v6,i6 (t:Int)]):=by
 have B:de ms<qS:=by change _<16777216;lia
 have x:=xp ht;have l:=OH (cn cs t n_) a b;have st:=oV<|cN ms;by_cases h:t∈ms;.have u:(t:Int)∈cN ms:=e9 tX h;have n:zf (ok cs a b) %[ms|ms] t=%[ms|ms]:=pZ<|jE h;simp! [tY,st,dI,u,n]
 .have u:¬ (t:Int)∈cN ms:=λz=>h<|tX.mp z;cases s:HN a b (cn cs t n_)with
  |true=>
   rw[s]at l;have n:zf (ok cs a b) %[ms|ms] t=%[ms++[t]|ms++[t]]:=pW<|λz=>t6 z h λz=>by rw[show HN a b (cn cs t n_)=f_ from z]at s;cases s
   simp! [tY,st,dI,u,n,x,l,B];simp[cN]
  |false=>rw[s]at l;have n:zf (ok cs a b) %[ms|ms] t=%[ms|ms]:=pZ<|iq s;simp! [tY,st,dI,u,n,x,l]
def YR(ht:∀t∈r,t<de cs)(hk:de ms+de r<500000) :
  ∃l,rA 7 tY ((cN r).map b7) [v0,i7<|cs.map cD,v2,i6 a,i6 b,aB<|aI<|cN ms,v6,v7]=aB (gb [v0,i7<|cs.map cD,v2,i6 a,i6 b,aB<|aI<|cN (r.foldl (zf<|ok cs a b) %[ms|ms]).1,v6,l]):=by
 have key:=xY (x:=7) (body:=tY) (λi S=>∃l,S=[v0,i7<|cs.map cD,v2,i6 a,i6 b,aB<|aI<|cN ((r.take i).foldl (zf<|ok cs a b) %[ms|ms]).1,v6,l]) (ds:=(cN r).map b7) (S:=[v0,i7<|cs.map cD,v2,i6 a,i6 b,aB<|aI<|cN ms,v6,v7])
  (v7,rfl) (by
  rintro i d S hd ⟨l,rfl⟩;rw[gMq,gMq]at hd;have(z,s,rfl):=oMq.mp hd;have(t,n,rfl):=oMq.mp s;have u:=mGq n;have(x,B,_,_,_,E):=see_fold (ok cs a b) (r.take i) ms ms;rw[lTq]at E;have step:=Vv (cs:=cs) (a:=a) (b:=b) (v0:=v0) (v2:=v2) (v6:=v6) (ht t u) (ms:=ms++x)<|by rw[lAq];lia
  show(_,?_,i6 (t:Int),rfl);rw[BZ n,B];show step);have(G,e,l,rfl):=key;rw[lMq,lMq,bC]at e;show(l,e)
structure Jnv (nr:List Θ)(ok:Nat->Bool)(s:Nat)(ms:Θ)(k:Nat):Prop where
 nd:ms.Nodup
 lt:∀j∈ms,j<nr.length
 st:s∈ms
 rc:∀j∈ms,Ch nr ok s j
 cl:∀i j,i<k->ms[i]?=aB j->∀r t,nr[j]?=aB r->t∈r->ok t=t_->t∈ms
 le:k<=ms.length
noncomputable def mu2(N:Nat):AS->Nat
 | [_,_,_,_,_,_,aB (b8 (b7 k)),_]=>N+1-cC k
 |_=>0
def V5(B:Nr nr)(E:de cs=de nr)(X:s<de nr):∃S',sE (rQ<|pQ O7 (oQ 6)<|vJ rq<|oR (oQ 5) pE) vN 100000 [aB<|b8<|nD nr,i7<|cs.map cD,i6 (s:Int),i6 a,i6 b,aB<|aI<|cN [s],i6 0,n_]=aB (gb S') /\
  ∃ms v6 v7,S'=[aB<|b8<|nD nr,i7<|cs.map cD,i6 (s:Int),i6 a,i6 b,aB<|aI<|cN ms,v6,v7]/\Jnv nr (ok cs a b) s ms (de ms):=by
 have G:=B.len;show wX (c:=rQ<|pQ O7 (oQ 6)<|vJ rq<|oR (oQ 5) pE) (body:=vN) (λS=>∃ms k v7,S=[aB<|b8<|nD nr,i7<|cs.map cD,i6 (s:Int),i6 a,i6 b,aB<|aI<|cN ms,i6 ((k:Nat):Int),v7]/\Jnv nr (ok cs a b) s ms k) (mu2<|de nr) (λS'=>∃ms v6 v7,S'=[aB<|b8<|nD nr,i7<|cs.map cD,i6 (s:Int),i6 a,i6 b,aB<|aI<|cN ms,v6,v7]/\Jnv nr (ok cs a b) s ms (de ms)) ?_ 100000 _ ([s],0,n_,rfl,?_) ?_
 .rintro S ⟨ms,k,v7,rfl,hi⟩;have st:=oV<|cN ms;by_cases hk:k<de ms
  .have z:ms[k]?=aB ms[k]:=gEg hk;have H:ms[k]<de nr:=hi.lt _<|gRq hk;have hr:nr[ms[k]]?=aB nr[ms[k]]:=gEg H;have n:=mGq hr;have ml:=pig _ _ hi.nd hi.lt;have rl:=B.row _ n;have(x,Y,I,h3,h4,_):=see_fold (ok cs a b) nr[ms[k]] ms ms;have(J,R):=YR (cs:=cs) (a:=a) (b:=b) (ms:=ms) (r:=nr[ms[k]]) (v0:=aB<|b8<|nD nr) (v2:=i6 (s:Int)) (v6:=i6 ((k:Nat):Int)) (v7:=v7) (λt ht=>by rw[E];show B.lt _ n t ht) ∅;rw[Y]at R;have L:((k:Nat):Int)<(de ms:Int):=by simp +arith[*]
   have M:=wq hr;have O:atI ((cN ms).map b7) ((k:Nat):Int)=aB (b7 ((ms[k]:Nat):Int)):=uS<|by rw[gMq,gMq,z];rfl
   have nd:=h4 hi.nd;have lt:∀j∈ms++x,j<de nr:=by
    intro j l;obtain q|q:=mAq.mp l;.show hi.lt j q
    .show B.lt _ n j (I j q).1
   show(t_,[aB<|b8<|nD nr,i7<|cs.map cD,i6 (s:Int),i6 a,i6 b,aB<|aI<|cN ms,i6 ((k:Nat):Int),v7],?_,λZ=>([aB<|b8<|nD nr,i7<|cs.map cD,i6 (s:Int),i6 a,i6 b,aB<|aI<|cN<|ms++x,i6 ((k+1:Nat):Int),J],?_,(_,k+1,_,rfl,nd,lt,e9 mAq<|jE hi.st,?_,?_,?_),?_),λq=>(nomatch q));.simp! [st,dI,L]
   .have P:((k+1:Nat):Int)=(k:Int)+1:=by rfl'
    simp! [vN,st,dI,O,nD,dM,M,R,P]
   .intro j l;obtain q|q:=mAq.mp l;.show hi.rc j q
    .show .step (hi.rc _<|gRq hk) hr (I j q).1 (I j q).2
   .intro i j hij l r t u ht U;have Q:i<de ms:=by lia
    rw[gZq Q]at l;by_cases q:i=k;.cases q;rw[z]at l;cases l;rw[hr]at u;cases u;show h3 t ht U
    .show e9 mAq<|jE<|hi.cl i j ∅ l r t u ht U
   .rw[lAq];lia
   .change de nr+1-cC ((k+1:Nat):Int)<de nr+1-cC ((k:Nat):Int);simp only[aQ,aQ];lia
  .have P:k=de ms:=by have:=hi.le;rfl'
   have L:¬ ((k:Nat):Int)<(de ms:Int):=by simp +arith[*]
   show(f_,[aB<|b8<|nD nr,i7<|cs.map cD,i6 (s:Int),i6 a,i6 b,aB<|aI<|cN ms,i6 ((k:Nat):Int),v7],?_,λq=>(nomatch q),λZ=>(ms,_,v7,rfl,?_));.simp! [st,dI,L]
   .rw[←P];show hi
 .show(by simp,?_,by simp,?_,?_,by simp);.intro j l;rw[mSq.mp l];show X
  .intro j l;rw[mSq.mp l];show .base
  .intro i j h;show absurd h<|dg _
 .change de nr+1-cC 0<100000;lia
def Gh(t:Nr nr)(n:de cs=de nr)(u:s<de nr):∃ms,c8 ms/\(∀k,k∈ms↔Ch nr (ok cs a b) s k)/\uR [nD nr,ew<|cs.map cD,b7 (s:Int),b7 a,b7 b]=aB (aI<|cN ms):=by
 have(B,e,ms,E,G,rfl,hi):=V5 (a:=a) (b:=b) t n u;have H:d8 [b8<|b7 (s:Int)]=aI (cN [s]):=rfl;show(ms,hi.nd,λk=>(hi.rc k,λh=>?_),?_);.induction h with
  |base=>show hi.st
  |step _ p q r x=>have(i,l):=aC.mp x;show hi.cl i _ (gSq.mp l).1 l _ _ p q r
 .have z:sE (rQ<|pQ O7 (oQ 6)<|vJ rq<|oR (oQ 5) pE) vN 100000 [aB<|b8<|nD nr,i7<|cs.map cD,i6 (s:Int),i6 a,i6 b,aB<|d8 [b8<|b7 (s:Int)],i6 0,n_]=_:=e;simp! [uR,G7,z]
end
def zD c:zz (cD c) j0=aB (k9<|fC c):=by cases c <;> rfl
def DN(l:Λ):Nat->Λ->List Θ
 |_,[]=>[]
 |k,r::ts=>nb l k r::DN l (k+1) ts
theorem vk l:∀ts k,Hm l k ts=(DN l k ts).map cN
 | [],_=>rfl
 |t::ts,k=>by simp only[Hm,DN,aq,vk l ts<|k+1]
theorem tZ l:∀ts k,de (DN l k ts)=de ts
 | [],_=>rfl
 |t::ts,k=>by simp only[DN,lCq,tZ l ts<|k+1,lCq]
theorem Js l:∀{ts}{k}{q},q∈DN l k ts->∃i r,ts[i]?=aB r/\q=nb l (k+i) r
 | [],_,_,h=>by cases h
 |t::ts,k,q,h=>by
  obtain rfl|h:=ae.mp h;.show(0,t,rfl,rfl)
  .have(i,r,n,s):=Js l h;show(i+1,r,by show n,by rw[s,show k+1+i=k+(i+1) by rfl'])
theorem V6(l)k:∀{r:Ϝ}{ks}{t},t∈r.foldl (KL l k) ks->t∈ks∨∃e∈r,t=plc l (-e)
 | [],ks,t,h=>jE h
 |e::r,ks,t,h=>by
  rw[dr]at h;obtain h|⟨x,n,q⟩:=V6 l k h
  .delta KL addN at h;split at h;.show jE h
   .split at h;.show jE h
    .obtain h|h:=mAq.mp h;.show jE h
     .show iq (e,aa ..,mSq.mp h)
  .show iq (x,mCo _ n,q)
def yZ(n:Mp l):Nr<|DN l 0 l:=by
 show(λq s t ht=>?_,λq s=>?_,by rw[tZ];show n.hr)
 .have(i,r,u,rfl):=Js l s;obtain h|⟨e,x,rfl⟩:=V6 l _ ht;.cases h
  .rw[tZ];show n.lt<|n.other u x
 .have(i,r,u,rfl):=Js l s;have:=Jw l (0+i) r [];have:=n.row u;unfold nb;rw[cw]at *;lia
end K62
open K62 renaming ok->aA0
namespace K64
open PySem L2 Mr Z Xe Zl
open K12 (cN)
open K31 (qh)
open K61 (tX)
open K62 (Nr nD wq cD xp)
noncomputable def few(nr:List Θ)(L:Θ)(k:Nat):Bool:=decide<|de ((cn nr k []).filter λq=>decide<|q∈L)<=5
def fi(nr:List Θ)(L:Θ):Nat:=L.findIdx<|few nr L
def zU(nr:List Θ):Nat->Θ->Θ
 |0,_=>[]
 |n+1,L=>cn L (fi nr L) 0::zU nr n (ef L<|fi nr L)
def WK L r:rD (rQ<|pQ (yp f_) (oQ 0)<|oQ 1) (pO 0) [aB<|b8<|dI<|cN L] ((cN r).map b7)=aB ((cN<|r.filter λq=>decide<|q∈L).map λn=>b8<|b7 n):=by
 rw[Z.uJ (λd=>match d with|b7 z=>decide<|z∈cN L|_=>f_)<|λd=>b8 d];.congr 1;rw[mPq,fU,mPq,mPq];congr 1;show gf λq Q=>?_;change decide ((q:Int)∈cN L)=_;rw[bL,decide_eq_true_iff,decide_eq_true_iff];show tX
 .intro d hd;have(z,l,rfl):=mMq.mp hd;show([i6 z,aB<|b8<|dI<|cN L],?_,λQ=>([i6 z,aB<|b8<|dI<|cN L],?_));.simp! [dI]
  .simp! []
def Oy(s:Nr nr)(hk:k<de nr):zq [nD nr,dI<|cN L,b7 (k:Int)]=i8 (few nr L k):=by
 have hr:nr[k]?=aB (cn nr k []):=by rw[gDq,gEg hk];rfl
 have l:=wq hr;have cp:=WK L<|cn nr k [];have u:=s.row _<|mGq hr;have n:de (cn nr k [])<=qS:=by change _<=16777216;lia
 have t:de (cN<|cn nr k [])<=qS:=by rw[qh];show n
 have e:((de ((cn nr k []).filter λq=>decide<|q∈L):Int)<=5)↔few nr L k=t_:=by delta few;rw[decide_eq_true_iff];lia
 have cl:=qh<|(cn nr k []).filter λq=>decide<|q∈L;simp! [zq,Hd,nD,dM,l,cp,n,t,cl,dI];rw[e9 bL<|decide_eq_true_iff.trans e]
def Fw(nr:List Θ):Prop:=∀L:Θ,L≠[]->(∀p∈L,p<de nr)->∃p∈L,few nr L p=t_
theorem uO p:∀{L:Θ},(∃x∈L,p x=t_)->L.findIdx p<de L/\∃l,L.filter p=cn L (L.findIdx p) 0::l
 | [],⟨_,h,_⟩=>by cases h
 |a::L,⟨x,hx,hp⟩=>by
  rw[List.findIdx_cons];by_cases c:p a=t_;.rw[c];show(by simp,L.filter p,by rw[bW c];rfl)
  .have n:=by simpa using c
   have(s,l,t):=uO p (x,pX (ae.mp hx) λz=>c<|z ▸ hp,hp);rw[n,bZ c];show(by simpa using s,l,by rw[t];rfl)
def YO(l:Nr nr)(hl:∀p∈L,p<de nr):rD (rQ<|su K64.zq<|oR (oQ 1)<|oR (oQ 2)<|oR (oQ 0) pE) (pO 0) [aB<|b8<|nD nr,aB<|b8<|dI<|cN L] ((cN L).map b7)=aB ((cN<|L.filter<|few nr L).map λn=>b8<|b7 n):=by
 rw[Z.uJ (λd=>match d with|b7 z=>few nr L<|cC z|_=>f_)<|λd=>b8 d];.rw[mPq,fU,mPq,mPq];rfl
 .intro d hd;have(z,s,rfl):=mMq.mp hd;have(k,hk,rfl):=mMq.mp s;have e:=Oy (L:=L) l<|hl k hk;show([i6<|k,aB<|b8<|nD nr,aB<|b8<|dI<|cN L],?_,λQ=>([i6<|k,aB<|b8<|nD nr,aB<|b8<|dI<|cN L],?_));.change _=aB %[few nr L<|cC<|k|_];rw[aQ];simp! [e]
  .simp! []
def Vh{L:Θ}(u:Nr nr)(fw:Fw nr)(hl:∀p∈L,p<nr.length)(x:L≠[])(t:L.length<=1000):wG [nD nr,dI<|cN L]=i6 (L.getD (fi nr L) 0:Nat):=by
 have(_,l,e):=uO (few nr L)<|fw L x hl;have cp:=YO u hl;rw[e]at cp;have z:L.length<=qS:=by change _<=16777216;lia
 have n:atI ((cN<|L.getD (L.findIdx<|few nr L) 0::l).map D.int) 0=aB (.int<|L.getD (fi nr L) 0):=uS rfl;have s:=cp;generalize cN (L.getD (L.findIdx<|few nr L) 0::l)=X at *;simp! [wG,Bx,dI,s,z,n]
def aab(nd:c8 L)(h:i<de L):(cN L).idxOf ((cn L i 0:Nat):Int)=i:=by
 have l:c8 (cN L):=e9 bO<|nd.imp λh q=>h ∅;have n:i<de (cN L):=by rw[qh];show h
 have e:(cN L)[i]=((cn L i 0)):=by rw[iW,gDq,gEg h];rfl
 rw[←e];show l.idxOf_getElem i n
def KP(L)i:ef ((cN L).map λn=>b8<|b7 n) i=(cN<|ef L i).map λn=>b8<|b7 n:=by simp only[List.eraseIdx_eq_take_drop_succ,mBq,iJ,ky]
def uV{L:Θ}(h:i<de L):cn L i 0∈L:=by rw[gDq,gEg h];show gRq h
def Nz{L:Θ}(u:Nr nr)(fw:Fw nr)(nd:L.Nodup)(hl:∀p∈L,p<nr.length)(t:L≠[])(l:L.length<=1000)(J:out.length<=1000) :
  uF [aB<|.sh<|nD nr,aB<|aI<|cN out,aB<|aI<|cN L,v3]=aB (.nx [aB<|.sh<|nD nr,aB<|aI<|cN<|out++[L.getD (fi nr L) 0],aB<|aI<|cN<|L.eraseIdx<|fi nr L,i6 (L.getD (fi nr L) 0:Nat)]):=by
 have e:=Vh u fw hl t l;have(hf,_):=uO (few nr L)<|fw L t hl;have hf:fi nr L<L.length:=hf;have x:=aab nd hf;have s:=tX.mpr<|uV hf;have z:=oV<|cN L;have B:out.length<qS:=by change _<16777216;lia
 have E:=KP L<|fi nr L;have G:((cN L).map λn=>AV.sh<|.int n)[fi nr L]?=i6 ((L.getD (fi nr L) 0)):=by rw[gMq,gMq,gDq,gEg hf];rfl
 have H:((cN L).map λn=>AV.sh<|.int n).map oY=(cN L).map D.int:=by rw[mPq];rfl
 have I:(cN out).map (λn=>AV.sh<|.int n)++[.sh<|.int<|(L.getD (fi nr L) 0)]=(cN<|out++[L.getD (fi nr L) 0]).map λn=>AV.sh<|.int n:=by simp[K12.cN]
 simp! [uF,z,e,dI,aI,qh,B,I,Z.aaC,H,x,G,s,E]
def Iy(h:de L=n+1):zU nr (de L) L=cn L (fi nr L) 0::zU nr n (ef L<|fi nr L):=by rw[h];rfl
def Vw(x:Nr nr)(fw:Fw nr):yQ [nD nr]=aB (aI<|cN<|zU nr (de nr)<|aH<|de nr):=by
 have t:=x.len;have key:=wX (c:=rQ<|pQ CS (vJ rq<|oR (oQ 2) pE)<|rC<|b7 0) (body:=uF) (λS=>∃out L l,S=[aB<|b8<|nD nr,aB<|aI<|cN out,aB<|aI<|cN L,l]/\c8 L/\(∀p∈L,p<de nr)/\de out+de L=de nr/\out++zU nr (de L) L=zU nr (de nr) (aH<|de nr)) (λS=>match S with|[_,_,aB (d8 w),_]=>de w|_=>0) (λS=>∃z l,S=[aB<|b8<|nD nr,aB<|aI<|cN<|zU nr (de nr)<|aH<|de nr,z,l]) ?_ 100000 [aB<|b8<|nD nr,aB<|aI<|cN [],aB<|aI<|cN<|aH<|de nr,n_] ([],aH<|de nr,n_,rfl,cE,λp u=>bF.mp u,by simp,by simp) ?_
 .have(J,e,z,l,rfl):=key;have rg:ze [b7 (de nr:Int)]=aB (pT 0<|de nr):=uK ∅;have G:de (pT 0<|de nr)<=qS:=by rw[qg];change _<=16777216;lia
  have em:(pT 0<|de nr).map b8=(cN<|aH<|de nr).map λn=>b8<|b7 n:=by rw[yG];skip;rw[mPq,mPq];rfl
  have H:sE (rQ<|pQ CS (vJ rq<|oR (oQ 2) pE)<|rC<|b7 0) uF 100000 [aB<|b8<|nD nr,aB<|d8 [],aB<|d8<|(cN<|aH<|de nr).map λn=>b8<|b7 n,n_]=_:=e;simp! [yQ,DJ,Z.Pd,nD,dM,rg,G,em,H]
 .rintro S ⟨out,L,l,rfl,nd,hl,M,B⟩;have E:=oV<|cN L;by_cases s:L=[];.subst s;show(f_,[aB<|b8<|nD nr,aB<|aI<|cN out,aB<|aI<|cN [],l],?_,λq=>(nomatch q),λQ=>(aB<|aI<|cN [],l,by rw[←B];simp[zU]));simp! [E,dI,qh];rfl
  .obtain⟨n,hn⟩:∃n,de L=n+1:=(de L-1,by have:=e9 fA s;lia);have(hf,_):=uO (few nr L)<|fw L s hl;have hf:fi nr L<de L:=hf;have st:=Nz (out:=out) (v3:=l) x fw nd hl s ∅ ∅;have le:de (ef L<|fi nr L)=n:=by rw[dA hf,hn];rfl
   have I:(0:Int)<(de L:Int):=by simp +arith[*]
   show(t_,[aB<|b8<|nD nr,aB<|aI<|cN out,aB<|aI<|cN L,l],?_,λQ=>(_,st,(out++[cn L (fi nr L) 0],ef L<|fi nr L,_,rfl,nd.sublist<|jt ..,λp u=>hl p<|fm u,by rw[lAq,lSq,le];lia,?_),?_),λq=>(nomatch q));.simp! [E,dI,qh,I]
   .rw[←B,Iy hn,le,af];rfl
   .change(de ((cN<|ef L<|fi nr L).map _))<de ((cN L).map _);rw[lMq,qh,lMq,qh];simp +arith[*]
 .change(de ((cN<|aH<|de nr).map _))<100000;rw[lMq,qh,aX];lia
theorem HR l:∀L {ks}{v0 v2 v4 v5},de ks+de L<=1000->c8 (ks++L)->∃s,Ef 4 1 (cN l) wD (cN L) [v0,aB<|aI<|cN l,v2,aB<|eT<|kd ks,v4,v5]=aB (gb [v0,aB<|aI<|cN l,v2,aB<|eT<|kd<|ks++L,s,v5])
 | [],ks,v0,v2,v4,v5,_,_=>(v4,by rw[aNq];rfl)
 |t::L,ks,v0,v2,v4,v5,h,nd=>by
  simp only[lCq]at h;have x:=λz=>by have:=(nAq.mp nd).2.2 t z t<|aa ..;show this rfl
  have(s,e):=HR l L (ks:=ks++[t]) (by rw[lAq,lSq];lia)<|by rw[af];show nd
  have B:de (kd ks)<qS:=by unfold kd;rw[lMq];change _<16777216;lia
  have E:=kd_get ks t;have u:=kd_put2 ks t;rw[show addN ks t=ks++[t]from pW x]at u;have st:wD [v0,aB<|aI<|cN l,v2,aB<|eT<|kd ks,i6<|t,v5]=aB (gb [v0,aB<|aI<|cN l,v2,aB<|eT<|kd<|ks++[t],i6<|t,v5]):=by simp! [wD,E,u,B]
  show(s,?_);have G:sP (((cN l).map λn=>b8<|b7 n).map oY)=aB (cN l):=by rw[mPq];show vw _
  change(wD [v0,aB<|aI<|cN l,v2,aB<|eT<|kd ks,i6<|t,v5]).bind _=_;rw[st];change(sP<|((cN l).map λn=>b8<|b7 n).map oY).bind _=_;rw[G,ee,pZ rfl];rw[af]at e;show e
def T4 L r:rD (rQ<|YN (oQ 0)<|oQ 1) (pO 0) [aB<|b8<|m6<|kd L] ((cN r).map b7)=aB ((cN<|r.filter λq=>decide<|q∈L).map λn=>b8<|b7 n):=by
 rw[Z.uJ (λd=>match d with|b7 z=>fC (l5 (kd L)<|aO z)|_=>f_)<|λd=>b8 d];.congr 1;rw[mPq,fU,mPq,mPq];congr 1;show gf λq Q=>kd_get L q
 .intro d hd;have(z,l,rfl):=mMq.mp hd;show([i6 z,aB<|b8<|m6<|kd L],?_,λQ=>([i6 z,aB<|b8<|m6<|kd L],?_));.simp! []
  .simp! []
def Y2 L r(h:de r<=1000):zG [dI<|cN r,m6<|kd L]=i6 (de (r.filter λq=>decide<|q∈L):Nat):=by
 have cp:=T4 L r;have l:de r<=qS:=by change _<=16777216;lia
 have cl:=qh<|r.filter λq=>decide<|q∈L;simp! [zG,II,dI,cp,l,cl]
def Ve{L:Θ}(M:Nr nr)(fw:Fw nr)(hl:∀p∈L,p<de nr)(O:L≠[])(H:de L<=1000):sE (wj (rQ<|pQ O7 (oQ 5)<|pQ Cv (vJ rq<|oR (oQ 1) pE)<|rC<|b7 1)<|rQ<|pQ CS (su K64.zG<|oR (pQ vd (oQ 0)<|pQ vd (oQ 1)<|oQ 5)<|oR (oQ 3) pE)<|rC<|b7 5) AG 100000 [aB<|b8<|nD nr,aB<|aI<|cN L,v2,aB<|eT<|kd L,v4,i6 0]=aB (gb [aB<|b8<|nD nr,aB<|aI<|cN L,v2,aB<|eT<|kd L,v4,i6 (fi nr L:Nat)]):=by
 have(hf,_):=uO (few nr L)<|fw L O hl;have hf:fi nr L<de L:=hf;have x:=oV<|cN L;have key:=wX (c:=wj (rQ<|pQ O7 (oQ 5)<|pQ Cv (vJ rq<|oR (oQ 1) pE)<|rC<|b7 1)<|rQ<|pQ CS (su K64.zG<|oR (pQ vd (oQ 0)<|pQ vd (oQ 1)<|oQ 5)<|oR (oQ 3) pE)<|rC<|b7 5) (body:=AG) (λS=>∃i:Nat,i<=fi nr L/\S=[aB<|b8<|nD nr,aB<|aI<|cN L,v2,aB<|eT<|kd L,v4,aB<|b8<|b7 (i:Int)]) (λS=>match S with|[_,_,_,_,_,aB (b8 (b7 i))]=>de L-cC i|_=>0) (λS=>S=[aB<|b8<|nD nr,aB<|aI<|cN L,v2,aB<|eT<|kd L,v4,aB<|b8<|b7 (fi nr L:Nat)]) ?_ 100000 [aB<|b8<|nD nr,aB<|aI<|cN L,v2,aB<|eT<|kd L,v4,aB<|b8<|b7 ((0:Nat):Int)] (0,aY _,rfl)<|by change de L-_<100000;lia
 .have(Q,e,rfl):=key;show e
 .rintro S ⟨i,hi,rfl⟩;have n:i<de L:=by lia
  have u:=uV n;have hk:=hl _ u;have hr:nr[cn L i 0]?=aB (cn nr (cn L i 0) []):=by rw[gDq (l:=nr),gEg hk];rfl
  have s:atI ((nr.map cN).map dI) ((cn L i 0:Nat):Int)=aB (dI<|cN<|cn nr (cn L i 0) []):=wq hr;have t:atI ((cN L).map b7) (i:Int)=aB (b7 (cn L i 0:Nat)):=uS (by skip;rw[gMq,gMq,gDq,gEg n];rfl);have B:=Y2 L (cn nr (cn L i 0) [])<|M.row _<|mGq hr;have I:few nr L (cn L i 0)=decide ((de ((cn nr (cn L i 0) []).filter λq=>decide<|q∈L))<=5):=rfl;by_cases E:(i:Int)<(de L:Int)-1
  .by_cases J:(5:Int)<(de ((cn nr (cn L i 0) []).filter λq=>decide<|q∈L):Int)
   .have P:¬ few nr L (cn L i 0)=t_:=by rw[I,decide_eq_true_iff];lia
    have lt:i<fi nr L:=by
     obtain z|z:=jJ i<|fi nr L;.show z
     .exfalso;have:i=fi nr L:=by rfl'
      subst this;apply P;have:=gi (p:=few nr L) (xs:=L) (w:=hf);rw[gDq,gEg hf];show this
    show(t_,[aB<|b8<|nD nr,aB<|aI<|cN L,v2,aB<|eT<|kd L,v4,i6 (i:Int)],?_,λZ=>([aB<|b8<|nD nr,aB<|aI<|cN L,v2,aB<|eT<|kd L,v4,i6 ((i+1:Nat):Int)],?_,(i+1,lt,rfl),?_),λq=>(nomatch q));.simp! [x,nD,dM,dI,qh,E,s,t,B,J]
    .simp! [AG];rfl
    .change de L-cC ((i+1:Nat):Int)<de L-cC (i:Int);simp only[aQ,aQ];lia
   .have ff:few nr L (cn L i 0)=t_:=by rw[I,decide_eq_true_iff];lia
    have G:i=fi nr L:=by apply ji hi;apply iV;intro z;have:=gO z;rw[gDq,gEg n]at ff;show aT<|fq (fx this) ff
    show(f_,[aB<|b8<|nD nr,aB<|aI<|cN L,v2,aB<|eT<|kd L,v4,i6<|i],?_,λq=>(nomatch q),λZ=>by rw[←G]);simp! [x,nD,dM,dI,qh,E,s,t,B,J]
  .have G:i=fi nr L:=by lia
   show(f_,[aB<|b8<|nD nr,aB<|aI<|cN L,v2,aB<|eT<|kd L,v4,i6<|i],?_,λq=>(nomatch q),λZ=>by rw[←G]);simp! [x,nD,dM,dI,qh,E,s,t,B]
def RG{L:Θ}(I:Nr nr)(fw:Fw nr)(nd:c8 L)(hl:∀p∈L,p<de nr)(E:L≠[])(s:de L<=1000)(Y:de out<=1000):∃t l u,
  yf [aB<|b8<|nD nr,aB<|aI<|cN L,aB<|aI<|cN out,v3,v4,v5]=aB (gb [aB<|b8<|nD nr,aB<|aI<|cN<|ef L<|fi nr L,aB<|aI<|cN<|out++[cn L (fi nr L) 0],t,l,u]):=by
 have(hf,_):=uO (few nr L)<|fw L E hl;have hf:fi nr L<de L:=hf;have(l,G):=HR L L (ks:=[]) (v0:=aB<|b8<|nD nr) (v2:=aB<|aI<|cN out) (v4:=v4) (v5:=v5) (by simpa using s)<|by show nd
 simp only[cA]at G;have J:=Ve (v2:=aB<|aI<|cN out) (v4:=l) I fw hl E s;have M:=oV<|cN L;have H:de L<=qS:=by change _<=16777216;lia
 have O:de out<qS:=by change _<16777216;lia
 have P:=KP L<|fi nr L;have Q:((cN L).map λn=>b8<|b7 n)[fi nr L]?=i6 ((cn L (fi nr L) 0:Nat):Int):=by skip;rw[gMq,gMq,gDq,gEg hf];rfl
 have R:(cN out).map (λn=>b8<|b7 n)++[b8<|b7<|(cn L (fi nr L) 0:Nat)]=(cN<|out++[cn L (fi nr L) 0]).map λn=>b8<|b7 n:=by simp[aAf]
 have S:(0:Int)<=(fi nr L)/\(fi nr L:Int)<((de L))/\de L<=qS:=(by rfl',by simp +arith[*],H);have x:(True/\True/\True)=True:=by simp
 have U:cC ((fi nr L))=fi nr L:=aQ _;have z:Ef 4 1 (cN L) wD (cN L) [aB<|b8<|nD nr,aB<|aI<|cN L,aB<|aI<|cN out,aB<|eT [],v4,v5]=_:=G;have X:sP (((cN L).map λn=>b8<|b7 n).map oY)=aB (cN L):=by rw[mPq];show vw _
 have B:(4=1)=False:=by simp
 show(aB<|eT<|kd L,l,i6<|fi nr L,?_);simp! [yf,Z.abk,X,B,M,dI,qh,z,J,H,O,S,x,U,Q,P,R]
def WD(B:Nr nr)(fw:Fw nr):Fx [nD nr]=aB (aI<|cN<|zU nr (de nr)<|aH<|de nr):=by
 have x:=B.len;have key:=wX (c:=rQ<|pQ CS (vJ rq<|oR (oQ 1) pE)<|rC<|b7 0) (body:=yf) (λS=>∃out L l s t,S=[aB<|b8<|nD nr,aB<|aI<|cN L,aB<|aI<|cN out,l,s,t]/\c8 L/\(∀p∈L,p<de nr)/\de out+de L=de nr/\out++zU nr (de L) L=zU nr (de nr) (aH<|de nr)) (λS=>match S with|[_,aB (d8 w),_,_,_,_]=>de w|_=>0) (λS=>∃E l s t,S=[aB<|b8<|nD nr,E,aB<|aI<|cN<|zU nr (de nr)<|aH<|de nr,l,s,t]) ?_ 100000 [aB<|b8<|nD nr,aB<|aI<|cN<|aH<|de nr,aB<|aI<|cN [],n_,n_,n_] ([],aH<|de nr,n_,n_,n_,rfl,cE,λp z=>bF.mp z,by simp,by simp) ?_
 .have(R,e,E,l,s,t,rfl):=key;have rg:ze [b7 (de nr:Int)]=aB (pT 0<|de nr):=uK ∅;have I:de (pT 0<|de nr)<=qS:=by rw[qg];change _<=16777216;lia
  have em:(pT 0<|de nr).map b8=(cN<|aH<|de nr).map λn=>b8<|b7 n:=by rw[yG];skip;rw[mPq,mPq];rfl
  have J:sE (rQ<|pQ CS (vJ rq<|oR (oQ 1) pE)<|rC<|b7 0) yf 100000 [aB<|b8<|nD nr,aB<|d8<|(cN<|aH<|de nr).map λn=>b8<|b7 n,aB<|d8 [],n_,n_,n_]=_:=e;simp! [Fx,KS,Z.Pd,nD,dM,rg,I,em,J]
 .rintro S ⟨out,L,l,s,t,rfl,nd,hl,U,G⟩;have H:=oV<|cN L;by_cases u:L=[];.subst u;show(f_,[aB<|b8<|nD nr,aB<|aI<|cN [],aB<|aI<|cN out,l,s,t],?_,λq=>(nomatch q),λW=>(aB<|aI<|cN [],l,s,t,by rw[←G];simp[zU]));simp! [H,dI,qh];rfl
  .obtain⟨n,hn⟩:∃n,de L=n+1:=(de L-1,by have:=e9 fA u;lia);have(hf,_):=uO (few nr L)<|fw L u hl;have hf:fi nr L<de L:=hf;have(M,O,P,st):=RG (out:=out) (v3:=l) (v4:=s) (v5:=t) B fw nd hl u ∅ ∅;have le:de (ef L<|fi nr L)=n:=by rw[dA hf,hn];rfl
   have Q:(0:Int)<(de L:Int):=by simp +arith[*]
   show(t_,[aB<|b8<|nD nr,aB<|aI<|cN L,aB<|aI<|cN out,l,s,t],?_,λW=>(_,st,(out++[cn L (fi nr L) 0],ef L<|fi nr L,_,_,_,rfl,nd.sublist<|jt ..,λp z=>hl p<|fm z,by rw[lAq,lSq,le];lia,?_),?_),λq=>(nomatch q));.simp! [H,dI,qh,Q]
   .rw[←G,Iy hn,le,af];rfl
   .change(de ((cN<|ef L<|fi nr L).map _))<de ((cN L).map _);rw[lMq,qh,lMq,qh];simp +arith[*]
 .change(de ((cN<|aH<|de nr).map _))<100000;rw[lMq,qh,aX];lia
theorem Kw:∀n {L},Fw nr->(∀p∈L,p<de nr)->de L=n->de (zU nr n L)=n/\∀p∈zU nr n L,p<de nr
 |0,L,_,_,_=>(rfl,λp l=>(by cases l))
 |n+1,L,fw,hl,hn=>by
  have s:L≠[]:=λz=>by rw[z]at hn;cases hn
  have(hf,_):=uO (few nr L)<|fw L s hl;have hf:fi nr L<de L:=hf;have(t,u):=Kw n fw (λp l=>hl p<|fm l)<|by rw[dA hf,hn];rfl
  show(by rw[zU,lCq,t],λp l=>?_);obtain z|z:=ae.mp l;.rw[z];show hl _<|uV hf
  .show u p z
end K64
namespace K64
open PySem L2 Mr Z Xe Zl
open K12 (cN)
open K31 (qh)
open K61 (tX)
open K62 (Nr nD wq cD xp DN tZ yZ vk)
open K47 (Mv Bl)
theorem Pj l:∀{ts:Λ}{k i:Nat}{r:Ϝ},ts[i]?=aB r->(DN l k ts)[i]?=aB (nb l (k+i) r)
 | [],_,_,_,h=>by cases h
 |t::ts,k,0,r,h=>by cases h;rfl
 |t::ts,k,i+1,r,h=>by have:=Pj l (ts:=ts) (k:=k+1) h;rw[show k+1+i=k+(i+1) by rfl']at this;show this
def ad3(h:Mv M)(b:Bl M):Fw<|DN M 0 M:=λL t l=>by
 have(p,s,u):=abt h b t λp s=>by have:=l p s;rwa [tZ]at this
 show(p,s,?_);have n:=l p s;rw[tZ]at n;have e:=Pj M (k:=0) (r:=cn M p [])<|by rw[gDq,gEg n];rfl
 rw[bD]at e;delta few;rw[gDq,e];show d5 u
theorem Pp:∀{L:Θ}{i}h,aF (L[i]::ef L i) L
 |a::L,0,_=>D1 _
 |a::L,i+1,h=>m9 (aF.swap ..)<|(Pp<|jk h).cons a
theorem Mz(fw:Fw nr):∀n {L},(∀p∈L,p<de nr)->de L=n->aF (zU nr n L) L
 |0,L,_,hn=>by rw[cK.mp hn];show D1 _
 |n+1,L,hl,hn=>by
  have l:L≠[]:=λz=>by rw[z]at hn;cases hn
  have(hf,_):=uO (few nr L)<|fw L l hl;have hf:fi nr L<de L:=hf;have s:=Mz fw n (λp t=>hl p<|fm t)<|by rw[dA hf,hn];rfl
  rw[zU,gDq,gEg hf];show(m9 (s.cons _))<|Pp hf
noncomputable def lc(cs:List<|Option Int):Ϝ:=cs.map λc=>c.getD<|-1
noncomputable def Hg(cnt:Int->Nat):Ϝ->Int->Int
 | [],b=>b
 |d::ds,b=>if cnt d<cnt b then Hg cnt ds d else Hg cnt ds b
noncomputable def uH(h:Ϝ):Ϝ:=[0,1,2,3,4].filter λc:Int=>!decide (c∈h)
noncomputable def vO:Option Int->V
 |n_=>nc
 |aB z=>c7 z
theorem Pb:∀cs:List<|Option Int,Ap (cs.map cD)=aB (cs.map vO)
 | []=>rfl
 |c::cs=>by have:=Pb cs;cases c <;> (rw[aq,Ap,this];rfl)
theorem Tg(hk:0<=k):∀cs:List<|Option Int,(cs.map vO).countP (λy=>QN y<|c7 k)=(lc cs).count k
 | []=>rfl
 |c::cs=>by delta lc;simp only[aq,aq,gZ,bS,Tg hk cs];cases c with
  |none=>
   have:((-1) == k)=f_:=by rw[beq_eq_false_iff_ne];omega
   change _+(if QN nc (c7 k)=t_ then 1 else 0)=_+(if ((-1) == k)=t_ then 1 else 0);rw[this];rfl
  |some z=>rfl
def XF(hk:0<=k)cs:FR (ew<|cs.map cD) [b7 k]=aB (b7 ((lc cs).count k:Nat)):=by simp only[FR,show Ml (b7 k)=aB (c7 k)from rfl,ee,Pb,dt,Tg hk]
theorem Mk:∀{ds}{b},(∀d∈ds,QJ l n (b7 d)=aB (cnt d:Int))->HU l n (ds.map b7) (b7 b) (cnt b:Int)=aB (b7<|Hg cnt ds b)
 | [],b,_=>rfl
 |d::ds,b,h=>by
  have s:=λx=>Mk (b:=x) λe t=>h e<|mCo _ t;simp only[aq,HU,h d<|aa ..,ee,Hg];by_cases c:cnt d<cnt b;.rw[pZ<|by simp +arith[*],pZ c];show s d
  .rw[pW<|by simp +arith[*],pW c];show s b
def D5 h:rD (rQ<|pQ (yp t_) (oQ 0)<|oQ 1) (pO 0) [aB<|b8<|dI h] (pT 0 5)=aB ((uH h).map λn=>b8<|b7 n):=by
 rw[Z.uJ (λd=>match d with|b7 z=>!decide (z∈h)|_=>f_)<|λd=>b8 d];.rw[show pT 0 5=([0,1,2,3,4]).map b7 from rfl,fU,mPq];rfl
 .intro d hd;rw[show pT 0 5=([0,1,2,3,4]).map b7 from rfl]at hd;have(z,l,rfl):=mMq.mp hd;show([i6 z,aB<|b8<|dI h],?_,λQ=>([i6 z,aB<|b8<|dI h],?_));.simp! [dI]
  .simp! []
def IH:∀c∈uH h,0<=c/\c<=4:=λc l=>by have:=(ax.mp l).1;simp at this;lia
def WV(cs:List<|Option Int):Ϝ->D
 | []=>j0
 |f::fs=>b7<|Hg (λk=>(lc cs).count k) fs f
def HB(cs)h:zS [ew<|cs.map cD,dI h]=aB (b8<|WV cs<|uH h):=by
 have cp:=D5 h;have rg:ze [b7 5]=aB (pT 0 5):=uK ⋯;have s:de (pT 0 5)<=qS:=by change 5<=16777216;decide
 have pos:=IH (h:=h);have key:O3 (kSc<|rBM "list" FR (oQ 1)<|oR (oQ 0) pE) (ew<|cs.map cD) ((uH h).map b7)=aB (WV cs<|uH h):=by
  have l:∀d∈uH h,QJ (kSc<|rBM "list" FR (oQ 1)<|oR (oQ 0) pE) (ew<|cs.map cD) (b7 d)=aB ((lc cs).count d:Int):=λd hd=>by have:=XF (pos d hd).1 cs;delta QJ;simp! [this]
  cases hf:uH h with
  |nil=>rfl
  |cons f fs=>rw[hf]at l;rw[aq,O3,l f<|aa ..];show Mk λd hd=>l d<|mCo _ hd
 have t:(WV cs<|uH h).scal=t_:=by delta WV;split <;> rfl
 have n:=cp;simp! [zS,HI,rg,s,dI,n,QZ,SE,key,t]
def XZ cs{fs:Ϝ}:Ba [dI<|lc cs,dI<|f::fs]=i6 (Hg (λk=>(lc cs).count k) fs f):=by
 have loop:∀(l:Ϝ) (b:Int) (s t:Option AV),∃n,rA 3 tU (l.map b7) [aB<|b8<|dI<|lc cs,s,i6 b,t]=aB (gb [aB<|b8<|dI<|lc cs,s,i6<|Hg (λk=>(lc cs).count k) l b,n]):=by intro l;induction l with
  |nil=>show λb s t=>(t,rfl)
  |cons d l z=>
   intro b s t;have B:=UP (lc cs) d;have E:=UP (lc cs) b;by_cases c:(lc cs).count d<(lc cs).count b
   .have(n,e):=z d s<|i6 d;have u:(((lc cs).count d:Nat):Int)<(((lc cs).count b:Nat):Int):=by simp +arith[*]
    have st:tU [aB<|b8<|dI<|lc cs,s,i6 b,i6 d]=aB (gb [aB<|b8<|dI<|lc cs,s,i6 d,i6 d]):=by simp! [tU,dI,B,E,u]
    show(n,?_);change(tU [aB<|b8<|dI<|lc cs,s,i6 b,i6 d]).bind _=_;rw[st,Hg,pZ c];show e
   .have(n,e):=z b s<|i6 d;have u:¬ (((lc cs).count d):Int)<(((lc cs).count b)):=by simp +arith[*]
    have st:tU [aB<|b8<|dI<|lc cs,s,i6 b,i6 d]=aB (gb [aB<|b8<|dI<|lc cs,s,i6 b,i6 d]):=by simp! [tU,dI,B,E,u]
    show(n,?_);change(tU [aB<|b8<|dI<|lc cs,s,i6 b,i6 d]).bind _=_;rw[st,Hg,pW c];show e
 have(n,e):=loop (f::fs) f (aB<|b8<|dI<|f::fs) n_;rw[Hg,pW<|dY _]at e;have x:atI ((f::fs).map b7) 0=aB (b7 f):=uS rfl;generalize H:f::fs=L at *;have G:=e;simp! [Ba,HV,dI,x,G]
end K64
namespace K64
open PySem L2 Mr Z Xe Zl
open K12 (cN)
open K31 (qh)
open K61 (tX)
open K62 (Nr nD wq cD xp DN tZ yZ vk zD)
section
variable {cs:List<|Option Int}
noncomputable def col(cs:List<|Option Int)(t:Nat):Int:=(cn cs t n_).getD<|-1
noncomputable def laid(cs:List<|Option Int)(r:Θ):Θ:=r.filter λt=>fC (cn cs t n_)
def B2(cs:List<|Option Int)(r:Θ):Ϝ:=(laid cs r).map<|col cs
structure Wq (cs:List<|Option Int):Prop where
 rg:∀t z,cs.getD t n_=aB z->0<=z/\z<=4
def PU(h:t<de cs):atI ((lc cs).map b7) (t:Int)=aB (b7<|col cs t):=uS (by delta lc col;rw[gMq,gMq,gDq,gEg h];rfl)
def HJ(hr:∀t∈r,t<de cs):rD (rQ<|pQ zz (pQ vd (oQ 1)<|oQ 0)<|rC j0) (pO 0) [i7<|cs.map cD] ((cN r).map b7)=aB ((cN<|laid cs r).map λn=>b8<|b7 n):=by
 rw[Z.uJ (λd=>match d with|b7 z=>fC (cn cs (cC z) n_)|_=>f_)<|λd=>b8 d];.rw[mPq,fU,mPq,mPq];rfl
 .intro d hd;have(z,l,rfl):=mMq.mp hd;have(t,ht,rfl):=mMq.mp l;have s:=xp<|hr t ht;have hn:=zD<|cn cs t n_;show([i6<|t,i7<|cs.map cD],?_,λQ=>([i6<|t,i7<|cs.map cD],?_));.change _=aB %[fC (cn cs (cC<|t) n_)|_];rw[aQ];simp! [s,hn]
  .simp! []
def BN(h:t∈laid cs r):t∈r/\cn cs t n_=aB (col cs t):=by have(n,l):=ax.mp h;show(n,?_);delta col;cases s:cn cs t n_ with
 |none=>rw[s]at l;cases l
 |some z=>rfl
def LJ(hr:∀t∈r,t<de cs):rD sV (Ke (vv 1)<|oQ 0) [i7<|cs.map cD] ((cN<|laid cs r).map b7)=aB ((B2 cs r).map λn=>b8<|b7 n):=by
 rw[Z.ve<|λd=>match d with|b7 z=>b8<|b7<|col cs<|cC z|_=>b8 j0];.unfold B2 aAf;rw[mPq,mPq,mPq];rfl
 .intro d hd;have(z,s,rfl):=mMq.mp hd;have(t,ht,rfl):=mMq.mp s;have(u,x):=BN ht;have l:=xp<|hr t u;rw[x]at l;have l:atI (cs.map cD) (t)=aB (b7<|col cs t):=l;show([i6<|t,i7<|cs.map cD],?_);change _=aB %[b8<|b7<|col cs<|cC<|t|_];rw[aQ];simp! [l]
def Gy(ck:Wq cs)(hr:∀t∈r,t<de cs):rD (rQ<|pQ Zc (pQ vd (oQ 1)<|oQ 0)<|Fu xj<|rC<|b7 1) (pO 0) [aB<|b8<|dI<|lc cs] ((cN r).map b7)=aB ((cN<|laid cs r).map λn=>b8<|b7 n):=by
 rw[Z.uJ (λd=>match d with|b7 z=>fC (cn cs (cC z) n_)|_=>f_)<|λd=>b8 d];.rw[mPq,fU,mPq,mPq];rfl
 .intro d hd;have(z,l,rfl):=mMq.mp hd;have(t,ht,rfl):=mMq.mp l;have s:=PU<|hr t ht;have e:(!decide (col cs t = -1))=fC (cn cs t n_):=by unfold col;cases l:cn cs t n_ with
   |none=>rfl
   |some z=>have:=ck.rg t z l;change(!decide (z = -1))=t_;rw[d6 ∅];rfl
  show([i6<|t,aB<|b8<|dI<|lc cs],?_,λQ=>([i6<|t,aB<|b8<|dI<|lc cs],?_));.change _=aB %[fC (cn cs (cC<|t) n_)|_];rw[aQ,←e];simp! [dI,s]
  .simp! []
def HQ(hr:∀t∈r,t<de cs):rD sV (kSc<|pQ vd (oQ 1)<|oQ 0) [aB<|b8<|dI<|lc cs] ((cN<|laid cs r).map b7)=aB ((B2 cs r).map λn=>b8<|b7 n):=by
 rw[Z.ve<|λd=>match d with|b7 z=>b8<|b7<|col cs<|cC z|_=>b8 j0];.unfold B2 aAf;rw[mPq,mPq,mPq];rfl
 .intro d hd;have(z,l,rfl):=mMq.mp hd;have(t,ht,rfl):=mMq.mp l;have s:=PU<|hr t (BN ht).1;show([i6<|t,aB<|b8<|dI<|lc cs],?_);change _=aB %[b8<|b7<|col cs<|cC<|t|_];rw[aQ];simp! [dI,s]
def aaI(x:Nr nr)(s:de cs=de nr)(hk:k<de nr){fs:Ϝ}(hf:uH (B2 cs<|cn nr k [])=f::fs):tO [nD nr,ew<|cs.map cD,b7 (k:Int)]=aB (d8 [b8<|lG [j3 "lay", b7 (k:Int),b7<|Hg (λk=>(lc cs).count k) fs f]]):=by
 have hr:nr[k]?=aB (cn nr k []):=by rw[gDq,gEg hk];rfl
 have l:=mGq hr;have u:=wq hr;have ht:∀t∈cn nr k [],t<de cs:=λt h=>by rw[s];show x.lt _ l t h
 have H:=x.row _ l;have z:=HJ ht;have B:=LJ ht;have n:=HB cs<|B2 cs<|cn nr k [];rw[hf]at n;have E:de (cn nr k [])<=qS:=by change _<=16777216;lia
 have G:de (laid cs<|cn nr k [])<=qS:=by have:=cU (λt=>fC (cn cs t n_))<|cn nr k [];delta laid;lia
 have cl:=qh<|laid cs<|cn nr k [];have n:zS [ew<|cs.map cD,ew<|(B2 cs<|cn nr k []).map b7]=i6 (Hg (λk=>(lc cs).count k) fs f):=n;simp! [tO,xg,nD,dM,u,dI,z,B,n,E,G,cl]
def Np(hk:k<de cs)(hl:de cs<=1000):uk [nD nr,ew<|cs.map cD,lG [j3 "lay", b7 (k:Int),b7 b]]=aB (d8<|((fb cs k<|aB b).map cD).map b8):=by
 have e:fb (cs.map cD) k (b7 b)=(fb cs k<|aB b).map cD:=by rw[fO];rfl
 have ne:((eB "lay" : Str) = eB "turn")=False:=by decide
 have l:de cs<=qS:=by change _<=16777216;lia
 have n:atI [j3<|eB "lay",b7<|k,b7 b] 0=aB (j3<|eB "lay"):=rfl;have s:atI [j3<|eB "lay",b7<|k,b7 b] 1=aB (b7<|k):=rfl;have t:atI [j3<|eB "lay",b7<|k,b7 b] 2=aB (b7 b):=rfl;have u:=Ai hk;simp! [uk,yi,ne,l,n,s,t,u,e]
noncomputable def sw(a b:Int)(c:Option Int):Option Int:=if c=aB a then aB b else aB a
def chg(cs:List<|Option Int)(a b:Int):Θ->List (Option Int)->List (Option Int)
 | [],ds=>ds
 |t::ts,ds=>chg cs a b ts<|fb ds t<|sw a b<|cn cs t n_
theorem BJ a b:∀ts ds,de (chg cs a b ts ds)=de ds
 | [],_=>rfl
 |t::ts,ds=>by rw[chg,BJ a b ts,lZq]
theorem Dc a b:∀ts {ds}{i},i<de ds->cn (chg cs a b ts ds) i n_=if i∈ts then sw a b (cn cs i n_)else cn ds i n_
 | [],ds,i,h=>by rfl
 |t::ts,ds,i,h=>by
  rw[chg,Dc a b ts<|by rw[lZq];show h];by_cases c:i∈ts;.rw[pZ c,pZ<|mCo _ c]
  .rw[pW c];by_cases q:t=i;.subst q;rw[pZ<|aa ..,gDq,aA h];rfl
   .rw[pW<|λz=>t6 (ae.mp z) (λz=>q<|fx z) c,gDq,ar q,←gDq]
def abp(c)a:AY (cD c) (b7 a)=aB (k9<|decide<|c=aB a):=by cases c with
 |none=>rfl
 |some z=>
  have:decide (aB z=aB a)=decide (z=a):=by rw[bL,decide_eq_true_iff,decide_eq_true_iff];show(λh=>aB.inj h,λh=>congrArg _ h)
  rw[this];rfl
theorem FX:∀ts {ds}{v5},(∀t∈ts,t<de cs)->de ds=de cs->∃l,rA 5 rR ((cN ts).map b7) [i7<|cs.map cD,v1,i6 a,i6 b,aB<|d8<|(ds.map cD).map b8,v5]=aB (gb [i7<|cs.map cD,v1,i6 a,i6 b,aB<|d8<|((chg cs a b ts ds).map cD).map b8,l])
 | [],ds,v5,_,_=>(v5,rfl)
 |t::ts,ds,v5,h,hl=>by
  have ht:=h t<|aa ..;have(l,e):=FX ts (ds:=fb ds t<|sw a b<|cn cs t n_) (λx E=>h x<|mCo _ E)<|by rw[lZq];show hl
  have z:=xp ht;have n:=abp (cn cs t n_) a;have B:=Ai<|hl ▸ ht;have st:rR [i7<|cs.map cD,v1,i6 a,i6 b,aB<|d8<|(ds.map cD).map b8,i6<|t]=aB (gb [i7<|cs.map cD,v1,i6 a,i6 b,aB<|d8<|((fb ds t<|sw a b<|cn cs t n_).map cD).map b8,i6<|t]):=by
   by_cases c:cn cs t n_=aB a
   .have s:fb (ds.map cD) t (b7 b)=(fb ds t<|aB b).map cD:=by rw[fO];rfl
    have u:sw a b (cn cs t n_)=aB b:=pZ c;rw[d5 c]at n;simp! [rR,z,n,B,u,s]
   .have s:fb (ds.map cD) t (b7 a)=(fb ds t<|aB a).map cD:=by rw[fO];rfl
    have u:sw a b (cn cs t n_)=aB a:=pW c;rw[d6 c]at n;simp! [rR,z,n,B,u,s]
  show(l,?_);change(rR [i7<|cs.map cD,v1,i6 a,i6 b,aB<|d8<|(ds.map cD).map b8,i6<|t]).bind _=_;rw[st];show e
def Ro(h:∀t∈ts,t<de cs)(hl:de cs<=1000):vT [ew<|cs.map cD,dI<|cN ts,b7 a,b7 b]=aB (d8<|((chg cs a b ts cs).map cD).map b8):=by
 have(l,e):=FX (a:=a) (b:=b) (v1:=aB<|b8<|dI<|cN ts) ts (v5:=n_) h rfl;have n:de cs<=qS:=by change _<=16777216;lia
 have s:=e;simp! [vT,AJ,dI,n,s]
end
end K64
namespace K64
open PySem L2 Mr Z Xe Zl
open K12 (cN)
open K31 (qh)
open K61 (tX)
open K62 (Nr nD wq cD xp DN tZ yZ vk zD Ch Bi Gh)
def Y9(l:Nr nr)(n:s<de nr)(h:Ch nr ok s k):k<de nr:=by induction h with
 |base=>show n
 |step _ p q _ _=>show l.lt _ (mGq p) _ q
def aaU ks:∃ts:Θ,vH (cN ks)=cN ts/\∀k,k∈ts↔k∈ks:=by
 have pm:=xJ<|cN ks;have e:vH (cN ks)=cN ((vH<|cN ks).map cC):=by unfold aAf;rw[mPq];show(fq (eK _).symm)<|mCq λz l=>?_;have(k,_,rfl):=mMq.mp<|pm.mem_iff.mp l;rfl
 show(_,e,λk=>?_);rw[←tX];change(k:Int)∈aAf _↔_;rw[←e,eP pm];show tX
def HM(n:Nr nr)(l:de cs=de nr)(u:s<de nr):∃ts,(∀k,k∈ts↔Ch nr (aA0 cs a b) s k)/\(∀t∈ts,t<de cs)/\K62.uj [nD nr,ew<|cs.map cD,b7 (s:Int),b7 a,b7 b]=aB (aI<|cN ts):=by have(ks,_,x,z):=Bi n l u;have(ts,e,B):=aaU ks;rw[e]at z;show(ts,λk=>(B k).trans<|x k,λt ht=>by rw[l];show Y9 n u<|(x t).mp<|(B t).mp ht,z)
def Ly(n:Nr nr)(l:de cs=de nr)(t:s<de nr):∃ts,(∀k,k∈ts↔Ch nr (aA0 cs a b) s k)/\uk [nD nr,ew<|cs.map cD,lG [j3 "turn", b7 (s:Int),b7 a,b7 b]]=aB (d8<|((chg cs a b ts cs).map cD).map b8):=by
 have(ts,u,x,e):=HM n l t;have hl:de cs<=1000:=by rw[l];show n.len
 have c:=Ro (a:=a) (b:=b) x hl;have z:atI [j3<|eB "turn",b7<|s,b7 a,b7 b] 0=aB (j3<|eB "turn"):=rfl;have B:atI [j3<|eB "turn",b7<|s,b7 a,b7 b] 1=aB (b7<|s):=rfl;have E:atI [j3<|eB "turn",b7<|s,b7 a,b7 b] 2=aB (b7 a):=rfl;have G:atI [j3<|eB "turn",b7<|s,b7 a,b7 b] 3=aB (b7 b):=rfl;have H:=oV<|cN ts;show(ts,u,?_);simp! [uk,yi,z,B,E,G,e,H,dI,c]
open Classical in
def zJ(nr:List Θ)(cs:List (Option Int))(l:Θ):Nat:=if Ch nr (K62.ok cs (col cs (l.getD 0 0)) (col cs (l.getD 2 0))) (l.getD 0 0) (l.getD 2 0)then 1 else 0
def acV{l:Θ}(h:i<de l):atI ((cN l).map b7) (i:Int)=aB (b7 (cn l i 0:Nat)):=uS (by rw[gMq,gMq,gDq,gEg h];rfl)
def Ye(U:Nr nr)(u:cs.length=nr.length)(h4:4<=l.length)(hl:∀t∈l,t<cs.length/\cs.getD t n_=aB (col cs t)):uB [nD nr,.list<|cs.map cD,dI<|cN l]=aB (.sh<|.tup [.str "turn", .int (l.getD (zJ nr cs l) 0:Nat),.int<|col cs<|l.getD (zJ nr cs l) 0,.int<|col cs<|l.getD (zJ nr cs l+2) 0]):=by
 have n:∀i:Nat,i<4->atI ((cN l).map D.int) (i:Int)=aB (.int (l.getD i 0:Nat)):=λi hi=>acV ∅;have co:∀i:Nat,i<4->atI (cs.map cD) ((l.getD i 0:Nat):Int)=aB (.int<|col cs<|l.getD i 0):=λi hi=>by have(B,X):=hl _<|uV (L:=l) (i:=i) ∅;have:=xp B;rw[X]at this;show this
 have H:atI ((cN l).map D.int) 0=aB (.int (l.getD 0 0:Nat)):=n 0 ⋯;have I:atI ((cN l).map D.int) 1=aB (.int (l.getD 1 0:Nat)):=n 1 ⋯;have J:atI ((cN l).map D.int) 2=aB (.int (l.getD 2 0:Nat)):=n 2 ⋯;have M:atI ((cN l).map D.int) 3=aB (.int (l.getD 3 0:Nat)):=n 3 ⋯;have O:atI (cs.map cD) ((l.getD 0 0:Nat):Int)=aB (.int<|col cs<|l.getD 0 0):=co 0 ⋯;have P:atI (cs.map cD) ((l.getD 1 0:Nat):Int)=aB (.int<|col cs<|l.getD 1 0):=co 1 ⋯;have Q:atI (cs.map cD) ((l.getD 2 0:Nat):Int)=aB (.int<|col cs<|l.getD 2 0):=co 2 ⋯;have R:atI (cs.map cD) ((l.getD 3 0:Nat):Int)=aB (.int<|col cs<|l.getD 3 0):=co 3 ⋯;have Y:l.getD 0 0<nr.length:=u ▸ (hl _<|uV ∅).1;have(E,B,_,e):=HM U u Y;have s:=B<|l.getD 2 0;have S:=oV<|cN E;by_cases x:l.getD 2 0∈E;.have ht:zJ nr cs l=1:=pZ<|s.mp x;have G:=tX.mpr x;rw[ht];simp! [uB,xa,dI,H,I,J,M,O,P,Q,R,e,S,G]
 .have ht:zJ nr cs l=0:=pW λz=>x<|s.mpr z;have G:¬ ((l.getD 2 0):Int)∈cN E:=λz=>x<|tX.mp z;rw[ht];simp! [uB,xa,dI,H,I,J,M,O,P,Q,R,e,S,G]
def ixT(a:AV)(d:D)(S:AS):Option<|AV×AS:=match a,d with
 | b8 (lG ds),b7 i=>(atI ds i).map λd=>%[b8 d|S]
 |_,_=>n_
def afe(ds)i S:ixT (b8<|lG ds) (b7 i) S=(atI ds i).map λd=>%[b8 d|S]:=rfl
def acw(k)b S:ab8 k b S=cq (k S) λx=>cq (b x.2) λy=>ixT x.1 y.1 y.2:=rfl
def CY(e:uH h=[]):5<=de h:=by
 have s:=λc t=>by have:=(fT.mp e) c t;simpa using this
 have:=IT (l:=[0,1,2,3,4]) (m:=h.map cC) ⋯ λx u=>by
  have n:=by simpa using u
  show e9 mMq ((x),s _ ?_,aQ _);obtain rfl|rfl|rfl|rfl|rfl:=n <;> decide
 rwa [lMq]at this
def C6(hr:∀t∈r,t<de cs):∀t∈laid cs r,t<de cs/\cn cs t n_=aB (col cs t):=λt ht=>(hr t (BN ht).1,(BN ht).2)
def WE(u:Nr nr)(n:de cs=de nr)(hk:k<de nr)(hf:uH (B2 cs<|cn nr k [])=[]):tO [nD nr,ew<|cs.map cD,b7 (k:Int)]=aB (d8 [b8<|lG [j3 "turn", b7 (cn (laid cs<|cn nr k []) (zJ nr cs<|laid cs<|cn nr k []) 0:Nat),b7<|col cs<|cn (laid cs<|cn nr k []) (zJ nr cs<|laid cs<|cn nr k []) 0,b7<|col cs<|cn (laid cs<|cn nr k []) (zJ nr cs (laid cs<|cn nr k [])+2) 0],b8<|lG [j3 "lay", b7 (k:Int),b7<|col cs<|cn (laid cs<|cn nr k []) (zJ nr cs<|laid cs<|cn nr k []) 0]]):=by
 have hr:nr[k]?=aB (cn nr k []):=by rw[gDq,gEg hk];rfl
 have l:=mGq hr;have x:=wq hr;have ht:∀t∈cn nr k [],t<de cs:=λt h=>by rw[n];show u.lt _ l t h
 have M:=u.row _ l;have E:=HJ ht;have G:=LJ ht;have s:=HB cs<|B2 cs<|cn nr k [];rw[hf]at s;have H:de (cn nr k [])<=qS:=by change _<=16777216;lia
 have I:de (laid cs<|cn nr k [])<=qS:=by have:=cU (λt=>fC (cn cs t n_))<|cn nr k [];unfold laid;lia
 have z:=CY hf;unfold B2 at z;rw[lMq]at z;have J:=Ye u n (by rfl')<|C6 ht;have cl:=qh<|laid cs<|cn nr k [];have s:zS [ew<|cs.map cD,ew<|(B2 cs<|cn nr k []).map b7]=aB (b8 j0):=s;generalize zJ nr cs (laid cs<|cn nr k [])=i at *;generalize col cs (cn (laid cs<|cn nr k []) i 0)=B at *;generalize col cs (cn (laid cs<|cn nr k []) (i+2) 0)=cb at *;generalize cn (laid cs<|cn nr k []) i 0=g at *;have L:atI [j3<|eB "turn",b7<|g,b7 B,b7 cb] 2=aB (b7 B):=rfl;simp! [tO,xg,nD,dM,x,dI,E,G,s,H,I,cl,J,L,acw,afe]
end K64
namespace K64
open PySem L2 Mr Z Xe Zl
open K12 (cN)
open K31 (qh)
open K61 (tX)
open K62 (Nr nD wq cD xp DN tZ yZ vk zD Ch Bi Gh HN)
def JJ cs:de (lc cs)=de cs:=lMq ..
def adC cs:((lc cs).map aB).map cD=(lc cs).map b7:=by rw[mPq];rfl
def acX(ha:a ≠ -1)(hb:b ≠ -1):K62.ok ((lc cs).map aB) a b=K62.ok cs a b:=by funext t;change HN a b (((lc cs).map aB).getD t n_)=HN a b (cs.getD t n_);delta lc;rw[mPq,gDq,gDq,gMq];cases cs[t]? with
 |none=>rfl
 |some c=>cases c with
  |none=>delta K62.HN;rw[d6<|λz=>z.elim (λz=>ha (aB.inj z).symm) λz=>hb (aB.inj z).symm,d6<|λz=>z.elim (λz=>by cases z) λz=>by cases z]
  |some z=>rfl
def IM(u:Nr nr)(l:de cs=de nr)(ha:a ≠ -1)(hb:b ≠ -1)(x:s<de nr):∃ms,c8 ms/\(∀k,k∈ms↔Ch nr (aA0 cs a b) s k)/\(∀t∈ms,t<de cs)/\YP [nD nr,dI<|lc cs,b7 (s:Int),b7 a,b7 b]=aB (aI<|cN ms):=by have(ms,B,n,z):=Gh (cs:=(lc cs).map aB) u (by rw[lMq,JJ,l]) x;rw[adC]at z;rw[acX ha hb]at n;show(ms,B,n,λt ht=>by rw[l];show Y9 u x<|(n t).mp ht,z)
def MQ{k}ds:fb (lc ds) k z=lc (fb ds k<|aB z):=by delta lc;rw[fO];rfl
def Lz X:d8 ((X.map b7).map b8)=aI X:=by rw[mPq];rfl
theorem FM{i:Nat}(s:atI (H.map b7) (i:Int)=aB (b7 a))(u:atI (H.map b7) ((i:Int)+2)=aB (b7 b)):∀ts {ds}{v6},c8 ts->(∀t∈ts,t<de cs/\cn ds t n_=cn cs t n_/\(cn cs t n_=aB a∨cn cs t n_=aB b))->de ds=de cs->∃l,Cq 6 tW ((cN ts).map b7) [v0,aB<|aI<|lc ds,v2,v3,aB<|aI H,i6 (i:Int),v6]=aB (gb [v0,aB<|aI<|lc<|chg cs a b ts ds,v2,v3,aB<|aI H,i6 (i:Int),l])
 | [],ds,v6,_,_,_=>(v6,rfl)
 |t::ts,ds,v6,nd,h,hl=>by
  have(G,I):=au.mp nd;have(B,J,L):=h t<|aa ..;have(l,e):=FM (v0:=v0) (v2:=v2) (v3:=v3) s u ts (ds:=fb ds t<|sw a b<|cn cs t n_) (v6:=i6 (t:Int)) I (λx E=>by have(M,O,P):=h x<|mCo _ E;show(M,?_,P);rw[gDq,ar<|λz:t=x=>G<|by rw[z];show E,←gDq];show O)<|by rw[lZq];show hl
  have Q:atI ((lc ds).map b7) (t:Int)=aB (b7<|col ds t):=PU<|hl ▸ B;have R:Kd (de (lc ds)) (t:Int)=aB t:=Ai<|by rw[JJ];show hl ▸ B
  have S:sw a b (cn cs t n_)=aB (a+b-col ds t):=by
   unfold sw col;rw[J];obtain z|z:=L;.rw[z,pZ rfl];change aB b=aB (a+b-a);congr 1;simp +arith[*]
   .rw[z];by_cases c:b=a;.rw[c,pZ rfl];change aB a=aB (a+a-a);congr 1;simp +arith[*]
    .rw[pW<|λz=>c<|aB.inj z];change aB a=aB (a+b-b);congr 1;simp +arith[*]
  have U:=oV H;have X:=oV<|lc ds;have Y:fb ((lc ds).map b7) t (b7<|a+b-col ds t)=(lc<|fb ds t<|sw a b<|cn cs t n_).map b7:=by rw[S,←MQ,fO]
  have st:tW [v0,aB<|aI<|lc ds,v2,v3,aB<|aI H,i6<|i,i6<|t]=aB (gb [v0,aB<|aI<|lc<|fb ds t<|sw a b<|cn cs t n_,v2,v3,aB<|aI H,i6<|i,i6<|t]):=by have sc:∀n,(b7 n).scal=t_:=λZ=>rfl;simp! [tW,U,X,dI,s,u,Q,R,Y,sc,Lz]
  show(l,?_);change(tW [v0,aB<|aI<|lc ds,v2,v3,aB<|aI H,i6<|i,i6<|t]).bind _=_;rw[st];show e
def yd X:KG (aI X)=aB (X.map λn=>b8<|b7 n):=by change(if (X.map λn=>b8<|b7 n).all OP=t_ then aB (X.map λn=>b8<|b7 n)else n_)=_;rw[pZ (e9 fF λa ha=>by have(n,_,rfl):=mMq.mp ha;rfl)]
def abd(n:Nr nr)(l:cn cs s n_=aB a)(h:Ch nr (aA0 cs a b) s k):cn cs k n_=aB a∨cn cs k n_=aB b:=by cases h with
 |base=>show jE l
 |step _ _ _ q=>show of_decide_eq_true q
def TJ(O:Nr nr)(B:de cs=de nr)(ck:Wq cs)(h4:4<=de l)(h5:de l<=1000)(hl:∀t∈l,t<de cs/\cn cs t n_=aB (col cs t))(ht:de told<500000):∃ms:Θ,(∀k,k∈ms↔Ch nr (aA0 cs (col cs<|cn l (zJ nr cs l) 0)<|col cs<|cn l (zJ nr cs l+2) 0) (cn l (zJ nr cs l) 0) k) /\
  zI [b8<|nD nr,aI<|lc cs,d8 told,b8<|dI<|cN l]=aB %[b8<|b7<|col cs<|cn l (zJ nr cs l) 0|%[aI<|lc<|chg cs (col cs<|cn l (zJ nr cs l) 0) (col cs<|cn l (zJ nr cs l+2) 0) ms cs|d8<|told++[b8<|lG [j3 "turn", b7 (cn l (zJ nr cs l) 0:Nat),b7<|col cs<|cn l (zJ nr cs l) 0,b7<|col cs<|cn l (zJ nr cs l+2) 0]]]]:=by
 have ti:zJ nr cs l=0∨zJ nr cs l=1:=by unfold zJ;split <;> simp
 have pos:∀i:Nat,i<4->cn l i 0<de nr/\cn cs (cn l i 0) n_=aB (col cs<|cn l i 0)/\col cs (cn l i 0) ≠ -1:=λi hi=>by have(q1,U):=hl _<|uV (L:=l) (i:=i) ∅;have:=ck.rg _ _ U;show(B ▸ q1,U,by lia)
 have E:∀i:Nat,i<4->atI ((cN l).map b7) (i:Int)=aB (b7 (cn l i 0:Nat)):=λi hi=>acV ∅;have co:∀i:Nat,i<4->atI ((l.map<|col cs).map b7) (i:Int)=aB (b7<|col cs<|cn l i 0):=λi hi=>uS (by rw[gMq,gMq,gDq,gEg<|show i<de l by lia];rfl);have(z1,z2,z3):=pos 0 ⋯;have(_,_,w3):=pos 2 ⋯;have(s,_,X,_,H):=IM O B z3 w3 z1;have hi:zJ nr cs l<4/\zJ nr cs l+2<4:=by lia
 have(y1,y2,y3):=pos _ hi.1;have(_,_,x3):=pos _ hi.2;have(ms,n1,Y,n3,G):=IM O B y3 x3 y1;have p0:atI ((cN l).map b7) 0=aB (b7 (cn l 0 0:Nat)):=E 0 ⋯;have p2:atI ((cN l).map b7) 2=aB (b7 (cn l 2 0:Nat)):=E 2 ⋯;have c0:atI ((l.map<|col cs).map b7) 0=aB (b7<|col cs<|cn l 0 0):=co 0 ⋯;have c2:atI ((l.map<|col cs).map b7) 2=aB (b7<|col cs<|cn l 2 0):=co 2 ⋯;have P:=E _ hi.1;have J:=co _ hi.1;have u:atI ((l.map<|col cs).map b7) ((zJ nr cs l:Nat)+2:Int)=aB (b7<|col cs<|cn l (zJ nr cs l+2) 0):=co _ hi.2;have bi:(if cn l 2 0∈s then (1:Int)else 0)=((zJ nr cs l:Nat):Int):=by
  unfold zJ;by_cases c:cn l 2 0∈s;.rw[pZ c,pZ<|(X _).mp c];rfl
  .rw[pW c,pW λz=>c<|e9 (X _) z];rfl
 have hd:rD sV (kSc<|pQ vd (oQ 1)<|oQ 0) [aB<|b8<|dI<|lc cs] ((cN l).map b7)=aB ((l.map<|col cs).map λn=>b8<|b7 n):=by
  rw[Z.ve<|λd=>match d with|b7 z=>b8<|b7<|col cs<|cC z|_=>b8 j0];.skip;rw[mPq,mPq,mPq];rfl
  .intro d hd;have(z,hz,rfl):=mMq.mp hd;have(t,ht,rfl):=mMq.mp hz;have hc:=PU (hl t ht).1;show([i6 (t:Int),aB<|b8<|dI<|lc cs],?_);change _=aB %[b8<|b7<|col cs<|cC (t:Int)|_];rw[aQ];simp! [dI,hc]
 have(I,lp):=FM (cs:=cs) (v0:=aB<|b8<|nD nr) (v2:=aB<|d8 told) (v3:=aB<|b8<|dI<|cN l) J u ms (ds:=cs) (v6:=n_) n1 (λt ht=>(n3 t ht,rfl,abd O y2<|(Y t).mp ht)) rfl;show(ms,Y,?_);have l1:de l<=qS:=by change _<=16777216;lia
 have l2:de told<qS:=by change _<16777216;lia
 have sL:=oV<|lc cs;have Q:=oV<|cN s;have sN:=oV<|cN ms;have fH:=yd<|l.map<|col cs;have R:=yd<|cN s;have f1:=yd<|cN ms;have sH:=oV<|l.map<|col cs;have H:YP [nD nr,ew<|(lc cs).map b7,b7 ((cn l 0 0:Nat):Int),b7<|col cs<|cn l 0 0,b7<|col cs<|cn l 2 0]=aB (aI<|cN s):=H;have b1:Lf [k9 t_]=aB (b7 1):=rfl;have b0:Lf [k9 f_]=aB (b7 0):=rfl;have sc:∀n:Int,(b7 n).scal=t_:=λW=>rfl;by_cases c:cn l 2 0∈s
 .have M:((cn l 2 0:Nat):Int)∈cN s:=e9 tX c;have S:zJ nr cs l=1:=by rw[pZ c]at bi;lia
  generalize zJ nr cs l=i at *;subst S;have G:YP [nD nr,ew<|(lc cs).map b7,b7 ((cn l 1 0:Nat):Int),b7<|col cs<|cn l 1 0,b7<|col cs<|cn l 3 0]=aB (aI<|cN ms):=G;have P:atI ((cN l).map b7) 1=aB (b7 (cn l 1 0:Nat)):=P;have J:atI ((l.map<|col cs).map b7) 1=aB (b7<|col cs<|cn l 1 0):=J;have u:atI ((l.map<|col cs).map b7) (1+2)=aB (b7<|col cs<|cn l 3 0):=u;generalize cN s=M0 at *;generalize cN ms=M1 at *;have lp:Cq 6 tW (M1.map b7) [aB<|b8<|nD nr,aB<|aI<|lc cs,aB<|d8 told,i7<|(cN l).map b7,aB<|d8<|(l.map<|col cs).map λn=>b8<|b7 n,i6 1,n_]=aB (gb [aB<|b8<|nD nr,aB<|aI<|lc<|chg cs (col cs<|cn l 1 0) (col cs<|cn l 3 0) ms cs,aB<|d8 told,i7<|(cN l).map b7,aB<|aI<|l.map<|col cs,i6 1,I]):=lp;simp! [zI,Ex,CJ,Qc,DF,De,aq,bQ,sL,dI,hd,fH,l1,sH,p0,p2,c0,c2,H,R,Q,M,P,J,u,G,f1,sN,TC,lp,b1,sc,l2]
 .have M:¬ ((cn l 2 0:Nat):Int)∈cN s:=λz=>c<|tX.mp z;have S:zJ nr cs l=0:=by rw[pW c]at bi;lia
  generalize zJ nr cs l=i at *;subst S;have G:YP [nD nr,ew<|(lc cs).map b7,b7 ((cn l 0 0:Nat):Int),b7<|col cs<|cn l 0 0,b7<|col cs<|cn l 2 0]=aB (aI<|cN ms):=G;have u:atI ((l.map<|col cs).map b7) (0+2)=aB (b7<|col cs<|cn l 2 0):=u;have em:=Lz;rw[G]at H;have em:cN ms=cN s:=by have:=congrArg (λo=>o.map oY) H;simp only[dt,oV]at this;have:=aB.inj this;skip;show List.map_inj_right (λx y h=>by cases h;rfl) |>.mp (D.list.inj this)
  rw[←em]at M R Q;generalize cN ms=M1 at *;have lp:Cq 6 tW (M1.map b7) [aB<|b8<|nD nr,aB<|aI<|lc cs,aB<|d8 told,i7<|(cN l).map b7,aB<|d8<|(l.map<|col cs).map λn=>b8<|b7 n,i6 0,n_]=aB (gb [aB<|b8<|nD nr,aB<|aI<|lc<|chg cs (col cs<|cn l 0 0) (col cs<|cn l 2 0) ms cs,aB<|d8 told,i7<|(cN l).map b7,aB<|aI<|l.map<|col cs,i6 0,I]):=lp;simp! [zI,Ex,CJ,Qc,DF,De,aq,bQ,sL,dI,hd,fH,l1,sH,p0,p2,c0,c2,G,R,Q,M,u,f1,sN,TC,lp,b0,sc,l2]
section
variable {cs:List<|Option Int}
def YI(h:∀k,k∈ts↔k∈ms):chg cs a b ts cs=chg cs a b ms cs:=by
 apply df;intro i;have n:=BJ (cs:=cs) a b ts cs;have s:=BJ (cs:=cs) a b ms cs;by_cases hi:i<de cs
 .have l:=Dc (cs:=cs) a b ts hi;have g2:=Dc (cs:=cs) a b ms hi;rw[gDq,gEg<|by simp +arith[*]]at l g2;rw[gEg ∅,gEg ∅];have l:(chg cs a b ts cs)[i]=_:=l;have g2:(chg cs a b ms cs)[i]=_:=g2;simp only[l,g2];by_cases c:i∈ts;.rw[pZ c,pZ<|(h i).mp c]
  .rw[pW c,pW λz=>c<|e9 (h i) z]
 .rw[bo ∅,bo ∅]
noncomputable abbrev zX(k:Nat)(b:Int):D:=lG [j3 "lay", b7 (k:Int),b7 b]
noncomputable abbrev A8(s:Nat)(a b:Int):D:=lG [j3 "turn", b7 (s:Int),b7 a,b7 b]
def GK(cs:List<|Option Int):oY (d8<|(cs.map cD).map b8) = ew (cs.map cD):=by rw[qZ,mPq];congr 1;show eK _
def Ko{v5:Option AV}(l:oY a1=nD nr)(n:oY a2 = ew (cs.map cD))(hk:k<de cs)(hl:de cs<=1000)(ht:de told<500000):qU [v0,aB a1,aB a2,aB<|d8 told,v4,aB<|b8<|zX k b]=aB (gb [v0,aB<|b8<|nD nr,aB<|d8<|((fb cs k<|aB b).map cD).map b8,aB<|d8<|told++[b8<|zX k b],v4,aB<|b8<|zX k b]):=by
 have e:=Np (nr:=nr) (b:=b) hk hl;have s:de told<qS:=by change _<16777216;lia
 simp! [qU,l,n,e,s]
def Ra(n:Nr nr)(l:de cs=de nr){v5:Option AV}(t:oY a1=nD nr)(u:oY a2 = ew (cs.map cD))(x:s<de nr)(ht:de told<500000):∃ts,(∀k,k∈ts↔Ch nr (aA0 cs a b) s k)/\qU [v0,aB a1,aB a2,aB<|d8 told,v4,aB<|b8<|A8 s a b]=aB (gb [v0,aB<|b8<|nD nr,aB<|d8<|((chg cs a b ts cs).map cD).map b8,aB<|d8<|told++[b8<|A8 s a b],v4,aB<|b8<|A8 s a b]):=by
 have(ts,z,e):=Ly n l x;have B:de told<qS:=by change _<16777216;lia
 show(ts,z,?_);simp! [qU,t,u,e,B]
def One(nr:List Θ)(cs:List<|Option Int)(k:Nat)(n:List<|Option Int)(s:List D):Prop:=(∃f fs,uH (B2 cs<|cn nr k [])=f::fs/\n=fb cs k (aB<|Hg (λk=>(lc cs).count k) fs f)/\s=[zX k<|Hg (λk=>(lc cs).count k) fs f]) ∨
 (uH (B2 cs<|cn nr k [])=[]/\∃l i ts,l=laid cs (cn nr k [])/\i=zJ nr cs l/\(∀x,x∈ts↔Ch nr (aA0 cs (col cs<|cn l i 0)<|col cs<|cn l (i+2) 0) (cn l i 0) x)/\n=fb (chg cs (col cs<|cn l i 0) (col cs<|cn l (i+2) 0) ts cs) k (aB<|col cs<|cn l i 0)/\s=[A8 (cn l i 0) (col cs<|cn l i 0)<|col cs<|cn l (i+2) 0,zX k<|col cs<|cn l i 0])
def One.det{i1 i2}(B:One nr cs k t i1)(z:One nr cs k u i2):t=u/\i1=i2:=by
 obtain⟨f,fs,e,rfl,rfl⟩|⟨e,l,i,I,rfl,rfl,m,rfl,rfl⟩:=B
 .obtain⟨E,s,n,rfl,rfl⟩|⟨n,_⟩:=z;.rw[e]at n;cases n;show(rfl,rfl)
  .rw[e]at n;cases n
 .obtain⟨E,s,n,rfl,rfl⟩|⟨n,J,L,G,rfl,rfl,H,rfl,rfl⟩:=z;.rw[e]at n;cases n
  .rw[YI λx=>(m x).trans (H x).symm];show(rfl,rfl)
def Tq(u:Nr nr)(n:de cs=de nr)(hk:k<de nr)(O:oY a1=nD nr)(P:oY a2 = ew (cs.map cD))(ht:de told+2<500000):∃x Q z H,One nr cs k x Q/\oY z = ew (x.map cD)/\uh [v0,aB a1,aB a2,aB<|d8 told,i6 (k:Int),v5]=aB (gb [v0,aB<|b8<|nD nr,aB z,aB<|d8<|told++Q.map b8,i6 (k:Int),H]):=by have I:=u.len;have J:k<de cs:=n ▸ hk;cases hf:uH<|B2 cs<|cn nr k []with
 |cons f fs=>
  have e:=aaI u n hk hf;generalize hb:Hg (λk=>(lc cs).count k) fs f=b at *;have p:=Ko (nr:=nr) (k:=k) (b:=b) (a1:=b8<|nD nr) (a2:=b8<|ew<|cs.map cD) (told:=told) (v0:=v0) (v4:=i6 (k:Int)) (v5:=v5) (uc _) (uc _) J ∅ ∅;show(fb cs k<|aB b,[zX k b],d8<|((fb cs k<|aB b).map cD).map b8,aB<|b8<|zX k b,jE (f,fs,hf,by rw[hb],by rw[hb]),GK _,?_)
  .have E:rA 5 qU [zX k b] [v0,aB<|b8<|nD nr,i7<|cs.map cD,aB<|d8 told,i6 (k:Int),v5]=aB (gb [v0,aB<|b8<|nD nr,aB<|d8<|((fb cs k<|aB b).map cD).map b8,aB<|d8<|told++[b8<|zX k b],i6 (k:Int),aB<|b8<|zX k b]):=by rw[rA];change(qU [v0,aB<|b8<|nD nr,i7<|cs.map cD,aB<|d8 told,i6 (k:Int),aB<|b8<|zX k b]).bind _=_;rw[p];rfl
   simp! [uh,O,P,e,E]
 |nil=>
  have e:=WE u n hk hf;generalize L:laid cs (cn nr k [])=l at *;generalize hI:zJ nr cs l=i at *;have R:=CY hf;unfold B2 at R;rw[lMq,L]at R;have M:∀t∈cn nr k [],t<de cs:=λt h=>by rw[n];show u.lt _ (mGq (i:=k)<|by rw[gDq,gEg hk];rfl) t h
  have hi:i=0∨i=1:=by rw[←hI];unfold zJ;split <;> simp
  have S:cn l i 0<de nr:=by have:=(C6 M (cn l i 0)<|by rw[L];show uV ∅).1;lia
  have(G,m,p):=Ra (cs:=cs) (a:=col cs<|cn l i 0) (b:=col cs<|cn l (i+2) 0) (a1:=b8<|nD nr) (a2:=b8<|ew<|cs.map cD) (told:=told) (v0:=v0) (v4:=i6 (k:Int)) (v5:=v5) u n (uc _) (uc _) S ∅;have len:=BJ (cs:=cs) (col cs<|cn l i 0) (col cs<|cn l (i+2) 0) G cs;have one:One nr cs k (fb (chg cs (col cs<|cn l i 0) (col cs<|cn l (i+2) 0) G cs) k<|aB<|col cs<|cn l i 0) [A8 (cn l i 0) (col cs<|cn l i 0)<|col cs<|cn l (i+2) 0,zX k<|col cs<|cn l i 0]:=iq (hf,l,i,G,fx L,fx hI,m,rfl,rfl);generalize chg cs (col cs<|cn l i 0) (col cs<|cn l (i+2) 0) G cs=B at *;generalize col cs (cn l i 0)=a at *;generalize col cs (cn l (i+2) 0)=b at *;generalize cn l i 0=s at *;have U:=Ko (nr:=nr) (cs:=B) (k:=k) (b:=a) (a1:=b8<|nD nr) (a2:=d8<|(B.map cD).map b8) (told:=told++[b8<|A8 s a b]) (v0:=v0) (v4:=i6 (k:Int)) (v5:=v5) (uc _) (GK _) ∅ ∅<|by rw[lAq,lSq];lia
  show(_,_,d8<|((fb B k<|aB a).map cD).map b8,aB<|b8<|zX k a,one,GK _,?_);have E:rA 5 qU [A8 s a b,zX k a] [v0,aB<|b8<|nD nr,i7<|cs.map cD,aB<|d8 told,i6 (k:Int),v5]=aB (gb [v0,aB<|b8<|nD nr,aB<|d8<|((fb B k<|aB a).map cD).map b8,aB<|d8<|told++[b8<|A8 s a b]++[b8<|zX k a],i6 (k:Int),aB<|b8<|zX k a]):=by rw[rA];change(qU [v0,aB<|b8<|nD nr,i7<|cs.map cD,aB<|d8 told,i6 (k:Int),aB<|b8<|A8 s a b]).bind _=_;rw[p];change(qU [v0,aB<|b8<|nD nr,aB<|d8<|(B.map cD).map b8,aB<|d8<|told++[b8<|A8 s a b],i6 (k:Int),aB<|b8<|zX k a]).bind _=_;rw[U];rfl
  rw[af]at E;simp! [uh,O,P,e,E]
end
def YT(L:Nr nr)(s:de cs=de nr)(ck:Wq cs)(hk:k<de nr)(ht:de told+2<500000){fs:Ϝ}(hf:uH (B2 cs<|cn nr k [])=f::fs):∃z B E G,uG [aB<|b8<|nD nr,aB<|aI<|lc cs,aB<|d8 told,i6 (k:Int),v4,v5,v6,v7]=aB (gb [aB<|b8<|nD nr,aB<|aI<|lc<|fb cs k<|aB<|Hg (λk=>(lc cs).count k) fs f,aB<|d8<|told++[b8<|zX k<|Hg (λk=>(lc cs).count k) fs f],i6 (k:Int),z,B,E,G]):=by
 have hr:nr[k]?=aB (cn nr k []):=by rw[gDq,gEg hk];rfl
 have l:=mGq hr;have H:atI ((nr.map cN).map dI) (k:Int)=aB (dI<|cN<|cn nr k []):=wq hr;have u:∀t∈cn nr k [],t<de cs:=λt h=>by rw[s];show L.lt _ l t h
 have rl:=L.row _ l;have M:=Gy ck u;have O:=HQ u;have I:=D5<|B2 cs<|cn nr k [];have rg:ze [b7 5]=aB (pT 0 5):=uK (n:=5) ⋯;have J:de (pT 0 5)<=qS:=by rw[qg];change 5<=16777216;decide
 have x:=XZ cs (f:=f) (fs:=fs);rw[←hf]at x;have len:(0:Int)<(de (uH<|B2 cs<|cn nr k []):Int):=by rw[hf,lCq];simp +arith[*]
 have P:de (cn nr k [])<=qS:=by change _<=16777216;lia
 have ll:=cU (λt=>fC (cn cs t n_))<|cn nr k [];have Q:de (laid cs<|cn nr k [])<=qS:=by delta laid;change _<=16777216;lia
 have R:de told<qS:=by change _<16777216;lia
 have S:Kd (de (lc cs)) (k:Int)=aB k:=Ai<|by rw[JJ,s];show hk
 have U:fb ((lc cs).map b7) k (b7<|Hg (λk=>(lc cs).count k) fs f)=(lc<|fb cs k<|aB<|Hg (λk=>(lc cs).count k) fs f).map b7:=by rw[←MQ,fO]
 have sC:=oV<|lc cs;have X:=oV<|uH<|B2 cs<|cn nr k [];have Y:=oV<|cN<|laid cs<|cn nr k [];have sH:=oV<|B2 cs<|cn nr k [];have f1:=yd<|cN<|laid cs<|cn nr k [];have f2:=yd<|B2 cs<|cn nr k [];have cl:=qh<|laid cs<|cn nr k [];have sc:∀n:Int,(b7 n).scal=t_:=λZ=>rfl;have em:=Lz;have I:rD (rQ<|pQ (yp t_) (oQ 0)<|oQ 1) (pO 0) [i7<|(B2 cs<|cn nr k []).map b7] (pT 0 5)=_:=I;have x:Ba [ew<|(lc cs).map b7,ew<|(uH<|B2 cs<|cn nr k []).map b7]=_:=x;show(_,_,_,_,by simp! [uG,Qc,DF,De,aq,bQ,nD,dM,H,sC,dI,M,P,f1,cl,Q,O,f2,rg,J,I,X,Y,sH,len,x,sc,S,U,em,R];rfl)
def VR(G:Nr nr)(x:de cs=de nr)(ck:Wq cs)(hk:k<de nr)(ht:de told+2<500000)(hf:uH (B2 cs<|cn nr k [])=[]):∃B U H I J L,One nr cs k B U/\uG [aB<|b8<|nD nr,aB<|aI<|lc cs,aB<|d8 told,i6 (k:Int),v4,v5,v6,v7]=aB (gb [aB<|b8<|nD nr,aB<|aI<|lc B,aB<|d8<|told++U.map b8,i6 (k:Int),H,I,J,L]):=by
 have hr:nr[k]?=aB (cn nr k []):=by rw[gDq,gEg hk];rfl
 have u:=mGq hr;have M:atI ((nr.map cN).map dI) (k:Int)=aB (dI<|cN<|cn nr k []):=wq hr;have z:∀t∈cn nr k [],t<de cs:=λt h=>by rw[x];show G.lt _ u t h
 have rl:=G.row _ u;have Y:=Gy ck z;have c2:=HQ z;have O:=D5<|B2 cs<|cn nr k [];have rg:ze [b7 5]=aB (pT 0 5):=uK (n:=5) ⋯;have P:de (pT 0 5)<=qS:=by rw[qg];change 5<=16777216;decide
 have len:¬ (0:Int)<(de (uH<|B2 cs<|cn nr k []):Int):=by rw[hf,cw];simp +arith[*]
 have X:=CY hf;unfold B2 at X;rw[lMq]at X;have l1:de (cn nr k [])<=qS:=by change _<=16777216;lia
 have ll:=cU (λt=>fC (cn cs t n_))<|cn nr k [];have l2:de (laid cs<|cn nr k [])<=qS:=by unfold laid;change _<=16777216;lia
 have l3:de told<qS:=by change _<16777216;lia
 have(Q,m,fe):=TJ (told:=told) G x ck (l:=laid cs<|cn nr k []) (by rfl') (by unfold laid;lia) (C6 z) ∅;have one:One nr cs k _ _:=iq (hf,_,_,Q,rfl,rfl,m,rfl,rfl);have R:=BJ (cs:=cs) (col cs<|cn (laid cs<|cn nr k []) (zJ nr cs<|laid cs<|cn nr k []) 0) (col cs<|cn (laid cs<|cn nr k []) (zJ nr cs (laid cs<|cn nr k [])+2) 0) Q cs;generalize chg cs (col cs<|cn (laid cs<|cn nr k []) (zJ nr cs<|laid cs<|cn nr k []) 0) (col cs<|cn (laid cs<|cn nr k []) (zJ nr cs (laid cs<|cn nr k [])+2) 0) Q cs=E at *;generalize zJ nr cs (laid cs<|cn nr k [])=i at *;generalize col cs (cn (laid cs<|cn nr k []) i 0)=a at *;generalize col cs (cn (laid cs<|cn nr k []) (i+2) 0)=b at *;generalize cn (laid cs<|cn nr k []) i 0=s at *;have ix:Kd (de (lc E)) (k:Int)=aB k:=Ai<|by rw[JJ,R,x];show hk
 have es:fb ((lc E).map b7) k (b7 a)=(lc<|fb E k<|aB a).map b7:=by rw[←MQ,fO]
 have S:=oV<|lc E;have l4:de (told++[b8<|lG [j3<|eB "turn",b7 (s:Int),b7 a,b7 b]])<qS:=by rw[lAq,lSq];change _<16777216;lia
 have sC:=oV<|lc cs;have sF:=oV<|uH<|B2 cs<|cn nr k [];have sL:=oV<|cN<|laid cs<|cn nr k [];have sH:=oV<|B2 cs<|cn nr k [];have f1:=yd<|cN<|laid cs<|cn nr k [];have f2:=yd<|B2 cs<|cn nr k [];have cl:=qh<|laid cs<|cn nr k [];have sc:∀n:Int,(b7 n).scal=t_:=λZ=>rfl;have em:=Lz;have O:=O;have tt:(1≠2)=True:=by simp
 have t3:(True/\True/\True)=True:=by simp
 show(_,_,_,_,_,_,one,by simp! [uG,Qc,DF,De,aq,bQ,nD,dM,M,sC,dI,Y,l1,f1,cl,l2,c2,f2,rg,P,O,sF,sL,sH,len,RF,fe,tt,t3,S,sc,ix,es,em,l4,af];rfl)
end K64
namespace K64
open PySem L2 Mr Z Xe Zl
open K12 (cN)
open K62 (Nr nD wq cD xp Ch HN)
def WB(z:Nr nr)(u:de cs=de nr)(ck:Wq cs)(hk:k<de nr)(ht:de told+2<500000):∃x B l n s t,One nr cs k x B/\uG [aB<|b8<|nD nr,aB<|aI<|lc cs,aB<|d8 told,i6 (k:Int),v4,v5,v6,v7]=aB (gb [aB<|b8<|nD nr,aB<|aI<|lc x,aB<|d8<|told++B.map b8,i6 (k:Int),l,n,s,t]):=by cases hf:uH<|B2 cs<|cn nr k []with
 |cons f fs=>have(l,n,s,t,e):=YT z u ck hk ht hf;show(_,_,l,n,s,t,jE (f,fs,hf,rfl,rfl),e)
 |nil=>show VR z u ck hk ht hf
theorem Jj cnt:∀l b,Hg cnt l b=b∨Hg cnt l b∈l
 | [],b=>jE rfl
 |d::l,b=>by
  rw[Hg];split
  .obtain h|h:=Jj cnt l d;.show iq<|by rw[h];show aa ..
   .show iq<|mCo _ h
  .obtain h|h:=Jj cnt l b;.show jE h
   .show iq<|mCo _ h
def Fy{ds:List<|Option Int}(hk:k<de ds)z t:cn (fb ds k z) t n_=if k=t then z else cn ds t n_:=by
 rw[gDq];by_cases c:k=t;.subst c;rw[pZ rfl,aA hk];rfl
 .rw[pW c,ar c,←gDq]
def LH{ds:List<|Option Int}(h:¬ t<de ds):cn ds t n_=n_:=by rw[gDq,bo<|by rfl'];rfl
def One.keep(J:Nr nr)(u:de cs=de nr)(ck:Wq cs)(hk:k<de nr)(h:One nr cs k n G):de n=de cs/\Wq n/\de G<=2/\(∀t,fC (cn cs t n_)=t_∨t=k->fC (cn n t n_)=t_):=by
 have x:k<de cs:=u ▸ hk;obtain⟨f,fs,e,rfl,rfl⟩|⟨e,l,i,E,hl,hi,m,rfl,rfl⟩:=h
 .show(lZq,⟨λt z h=>?_⟩,by simp,λt h=>?_)
  .rw[Fy x]at h;split at h
   .have h:=aB.inj h;have mem:z∈uH (B2 cs<|cn nr k []):=by
     rw[e,←h];obtain q|q:=Jj (λk=>(lc cs).count k) fs f;.rw[q];show aa ..
     .show mCo _ q
    show IH z mem
   .show ck.rg t z h
  .rw[Fy x];split;.rfl
   .rename_i c;show sW h λz=>c<|fx z
 .have H:=CY e;unfold B2 at H;rw[lMq,←hl]at H;have B:∀t∈cn nr k [],t<de cs:=λt h=>by rw[u];show J.lt _ (mGq (i:=k)<|by rw[gDq,gEg hk];rfl) t h
  have L:i=0∨i=1:=by rw[hi];unfold zJ;split <;> simp
  have la:=(C6 B (cn l i 0)<|by rw[←hl];show uV ∅).2;have lb:=(C6 B (cn l (i+2) 0)<|by rw[←hl];show uV ∅).2;have I:=ck.rg _ _ la;have M:=ck.rg _ _ lb;generalize col cs (cn l i 0)=a at *;generalize col cs (cn l (i+2) 0)=b at *;have len:=BJ (cs:=cs) a b E cs;have s:k<de (chg cs a b E cs):=by lia
  show(by rw[lZq,len],⟨λt z h=>?_⟩,by simp,λt h=>?_)
  .rw[Fy s]at h;split at h;.cases h;show I
   .by_cases c:t<de cs
    .rw[Dc a b E c]at h;split at h
     .unfold sw at h;split at h;.cases h;show M
      .cases h;show I
     .show ck.rg t z h
    .rw[LH ∅]at h;cases h
  .rw[Fy s];split;.rfl
   .rename_i c;have h:=sW h λz=>c<|fx z;by_cases q:t<de cs
    .rw[Dc a b E q];split;.unfold sw;split <;> rfl
     .show h
    .rw[LH q]at h;cases h
theorem VS:∀{ds:List D},(∀d∈ds,∃p,CC n d p)->∃ps:List PyData,de ds=de ps/\∀(i:Nat) d p,ds[i]?=aB d->ps[i]?=aB p->CC n d p
 | [],_=>([],rfl,λi d p h=>by cases h)
 |d::ds,h=>by have(p,u):=h d<|aa ..;have(ps,l,e):=VS λx z=>h x<|mCo _ z;show(p::ps,by rw[lCq,lCq,l],λi x q s t=>?_);cases i with
  |zero=>cases s;cases t;show u
  |succ i=>show e i x q s t
def J0(h:∀d∈ds,∃p,CC n d p):∃p,CC (n+1) (lG ds) p:=by have(s,l,e):=VS h;show(_,.tup l e)
def P3(h:∀d∈ds,∃p,CC n d p):∃p,CC (n+1) (ew ds) p:=by have(s,l,e):=VS h;show(_,.list l e)
def OJ(k)b:∃p,CC 1 (zX k b) p:=J0 λd hd=>by
 obtain rfl|hd:=ae.mp hd;.show(_,.str<|by trivial)
 .obtain rfl|hd:=ae.mp hd;.show(_,.int)
  .obtain rfl|hd:=ae.mp hd;.show(_,.int)
   .cases hd
def Vp(s)a b:∃p,CC 1 (A8 s a b) p:=J0 λd hd=>by
 obtain rfl|hd:=ae.mp hd;.show(_,.str<|by trivial)
 .obtain rfl|hd:=ae.mp hd;.show(_,.int)
  .obtain rfl|hd:=ae.mp hd;.show(_,.int)
   .obtain rfl|hd:=ae.mp hd;.show(_,.int)
    .cases hd
def One.dat(h:One nr cs k n s):∀d∈s,∃p,CC 1 d p:=λd hd=>by
 obtain⟨f,fs,_,_,rfl⟩|⟨_,l,i,t,_,_,_,_,rfl⟩:=h;.rw[mSq.mp hd];show OJ _ _
 .obtain rfl|hd:=ae.mp hd;.show Vp _ _ _
  .rw[mSq.mp hd];show OJ _ _
end K64
namespace K64
open PySem L2 Mr Z Xe Zl
open K12 (cN)
open K31 (qh)
open K62 (Nr nD wq cD xp Ch HN DN tZ yZ vk)
open K47 (Mv Bl)
theorem Iz(Q:Nr nr):∀ks {cs}{told}{a1 a2}{u0 u4 u5 v3 v4 v5 v6 v7},(∀k∈ks,k<de nr)->de cs=de nr->Wq cs->de told+2*de ks+2<500000->oY a1=nD nr->oY a2 = ew (cs.map cD)->∃(l:List (Option Int)) (M:List D) (u s:AV) (z B E G H I J:Option AV),de l=de cs/\Wq l/\(∀t,fC (cn cs t n_)=t_∨t∈ks->fC (cn l t n_)=t_)/\de M<=2*de ks/\(∀d∈M,∃p,CC 1 d p)/\oY s = ew (l.map cD) /\
  rA 4 uh ((cN ks).map b7) [u0,aB a1,aB a2,aB<|d8 told,u4,u5]=aB (gb [u0,aB u,aB s,aB<|d8<|told++M.map b8,z,B]) /\
  rA 3 uG ((cN ks).map b7) [aB<|b8<|nD nr,aB<|aI<|lc cs,aB<|d8 told,v3,v4,v5,v6,v7]=aB (gb [aB<|b8<|nD nr,aB<|aI<|lc l,aB<|d8<|told++M.map b8,E,G,H,I,J])
 | [],cs,told,a1,a2,u0,u4,u5,v3,v4,v5,v6,v7,_,_,ck,_,U,R=>(cs,([]:List D),a1,a2,u4,u5,v3,v4,v5,v6,v7,rfl,ck,λt h=>sW h ⋯,by simp,λd hd=>(by cases hd),R,by rw[bQ,aNq];rfl,by rw[bQ,aNq];rfl)
 |k::ks,cs,told,a1,a2,u0,u4,u5,v3,v4,v5,v6,v7,hk,hcl,ck,ht,U,R=>by
  rw[lCq]at ht;have L:=hk k<|aa ..;have(Y,i1,s,w5,n,s1,e1):=Tq (told:=told) (v0:=u0) (v5:=u5) Q hcl L U R ∅;have(c2,i2,w4,x5,x6,x7,O,e2):=WB (told:=told) (v4:=v4) (v5:=v5) (v6:=v6) (v7:=v7) Q hcl ck L ∅;have(rfl,rfl):=n.det O;have(k1,k2,k3,X):=n.keep Q hcl ck L;have(l,M,u,P,z,B,E,G,H,I,J,q1,q2,q3,q4,S,q5,q6,q7):=Iz Q ks (cs:=Y) (told:=told++i1.map b8) (a1:=b8<|nD nr) (a2:=s) (u0:=u0) (u4:=i6 (k:Int)) (u5:=w5) (v3:=i6 (k:Int)) (v4:=w4) (v5:=x5) (v6:=x6) (v7:=x7) (λx hx=>hk x<|mCo _ hx) ∅ k2 (by rw[lAq,lMq];lia) (uc _) s1;show(l,i1++M,u,P,z,B,E,G,H,I,J,by lia,q2,λt h=>q3 t ?_,by rw[lAq,lCq];lia,λd hd=>t6 (mAq.mp hd) (n.dat d)<|S d,q5,?_,?_)
  .obtain h|h:=h;.show jE<|X t<|jE h
   .obtain h|h:=ae.mp h;.show jE<|X t<|iq h
    .show iq h
  .change(uh [u0,aB a1,aB a2,aB<|d8 told,i6<|k,u5]).bind _=_;rw[e1,mBq,←af];show q6
  .change(uG [aB<|b8<|nD nr,aB<|aI<|lc cs,aB<|d8 told,i6<|k,v4,v5,v6,v7]).bind _=_;rw[e2,mBq,←af];show q7
end K64
namespace K64
open PySem L2 Mr Z Xe Zl
open K12 (cN)
open K31 (qh)
open K62 (Nr nD wq cD xp Ch HN DN tZ yZ vk)
open K61 (Kl Hm)
open K47 (Mv Bl)
def Sd(h:Mv M)(l:de (bt M)<=400)(b:Bl M):uQ [dM M]=aB (b8 j0):=by have e:=bl_cross h l b;have n:zz j0 j0=aB (k9 f_):=rfl;simp! [uQ,yL,dM,e,n]
def UW ds:rD sV (kSc<|rC j0) [] ds=aB (ds.map λQ=>b8 j0):=by rw[Z.ve<|λQ=>b8 j0];intro d _;show(_,rfl)
def VB ds:rD sV (kSc<|Fu xj<|rC<|b7 1) [] ds=aB (ds.map λQ=>b8<|b7<|-1):=by rw[Z.ve<|λQ=>b8<|b7<|-1];intro d _;show(_,rfl)
def aas(h:Mv M)(b:Bl M)(G:de (bt M)<=400):∃H s,(∃p,CC 3 (lG [dI H,ew s]) p)/\xT [dM M]=aB (b8<|lG [dI H,ew s])/\BG [nD<|DN M 0 M]=aB (b8<|lG [dI H,ew s]):=by
 have E:=yZ h.mp;have fw:=ad3 h b;have ref:=Sd h G b;have ne:=Kl h.mp;rw[vk]at ne;have nl:=tZ M M 0;have tk:=Vw E fw;have lo:=WD E fw;have Q:=Kw _ fw (λp I=>bF.mp I)<|aX (n:=de (DN M 0 M));have oa:=Mz fw _ (λp I=>bF.mp I)<|aX (n:=de (DN M 0 M));generalize hn:DN M 0 M=nr at *;generalize hO:zU nr (de nr) (aH<|de nr)=O at *;have J:=E.len;have sN:oY (d8<|(nr.map cN).map aI)=nD nr:=by rw[qZ,mPq];change ew _=ew _;congr 1;show mCq λr Z=>?_;show oV r
 have sC:oY (d8<|M.map λZ=>b8 j0) = ew ((ao (de nr) (n_:Option Int)).map cD):=by rw[qZ,mPq,eJ,nl];congr 1;rw[gg];show(lMq ..,λb hb=>by have(_,_,rfl):=mMq.mp hb;rfl)
 have ck:Wq<|ao (de nr) n_:=⟨λt z h=>by rw[gDq,bK]at h;split at h <;> cases h⟩;have(l,s,a1',a2',u4',u5',v3',v4',v5',v6',v7',q1,q2,q3,q4,L,R,S,U):=Iz E (dw O) (cs:=ao (de nr) n_) (told:=[]) (a1:=b8<|nD nr) (a2:=d8<|M.map λZ=>b8 j0) (u0:=aB<|b8<|dM M) (u4:=n_) (u5:=n_) (v3:=n_) (v4:=n_) (v5:=n_) (v6:=n_) (v7:=n_) (λk hk=>Q.2 k<|bB.mp hk) (aU ..) ck (by rw[iz,Q.1];simp;lia) (uc _) sC;have all:l.map cD=(lc l).map b7:=by
  unfold lc;rw[mPq];show mCq λc hc=>?_;have(i,hi,rfl):=gv hc;have P:i<de nr:=by rw[q1,aU]at hi;show hi
  have:=q3 i<|iq<|e9 bB<|e9 (eP oa)<|e9 bF P;rw[gDq,gEg hi]at this;have this:fC (l[i])=t_:=this;cases hz:l[i]with
  |none=>rw[hz]at this;cases this
  |some z=>rfl
 have X:oY (d8<|s.map b8) = ew s:=by rw[qZ,mPq];congr 1;show eK _
 have u:dw ((cN O).map b7)=(cN<|dw O).map b7:=by unfold aAf;rw[gk,gk]
 have Y:oY (aI<|cN O) = ew ((cN O).map b7):=oV _;have l0:lc (ao (de nr) n_)=ao (de nr) (-1):=by unfold lc;rw[eJ];rfl
 have n0:(M.map dI).map (λZ=>b8 j0)=M.map λZ=>b8 j0:=by rw[mPq];rfl
 have lm:de M<=qS:=by change _<=16777216;lia
 have n1:((nr.map K61.cN).map dI).map (λZ=>b8<|b7<|-1)=(lc<|ao (de nr) n_).map λn=>b8<|b7 n:=by rw[l0,eJ,gg];show(by rw[lMq,lMq,lMq],λb hb=>by have(_,_,rfl):=mMq.mp hb;rfl)
 have ln:de nr<=qS:=by change _<=16777216;lia
 have sL:=oV<|lc l;rw[cA]at S U;rw[all]at R;show(lc l,s,J0 λd hd=>?_,?_,?_)
 .obtain rfl|hd:=ae.mp hd;.show P3 λx hx=>by have(z,_,rfl):=mMq.mp hx;show(_,.int)
  .rw[mSq.mp hd];show P3 L
 .have B:=UW<|M.map dI;rw[n0]at B;simp! [xT,Eu,dM,ref,ne,B,lm,VA,sN,tk,Y,u,S,R,X,dI]
 .have B:=VB<|(nr.map K61.cN).map dI;rw[n1]at B;simp! [BG,Kv,nD,dM,B,ln,VA,lo,Y,u,U,sL,X,dI]
end K64
namespace K64
open PySem L2 Mr Z Xe Zl
open K12 (cN)
open K62 (Nr nD DN tZ yZ vk)
open K61 (Ig Hm)
open K47 (Mv Bl)
open K31 (Nm)
def Ip(M:Λ):rD sV (CU<|vv 0) [] (M.map dI)=aB (M.map aI):=by
 rw[Z.ve<|λd=>match d with|ew l=>d8<|l.map b8|_=>b8 j0];.rw[mPq];congr 1;show mCq λr Q=>?_;show Lz r
 .intro d hd;have(r,_,rfl):=mMq.mp hd;show([aB<|b8<|dI r],?_);simp! [dI]
def QC M:oY (d8<|M.map aI)=dM M:=by rw[qZ,mPq];congr 1;show mCq λr Q=>oV r
def E1 M:oY (d8<|M.map λr=>b8<|dI r)=dM M:=by rw[qZ,mPq];rfl
def Nl n:rD sV (qT pV) [] (pT 0 n)=aB (ao n<|d8 []):=by
 rw[Z.ve<|λQ=>d8 []];.congr 1;rw[gg];show(by rw[lMq,qg],λb hb=>by have(_,_,rfl):=mMq.mp hb;rfl)
 .intro d _;show([aB<|b8 d],?_);simp! []
def aaE ns:Qh [o9 ns]=i8 t_:=by
 have(R1,P1,rd1,e1,E,r1,G,p1):=Rm ns;have c2:pL [o9 ns,b7 2]=i6 (cell ns 2):=wO ns (k:=2)<|by rfl'
 have t:∀(R:Ϝ) (P:List Λ) (H:Ϝ) (b:Nat),Ac R P H->de R<=60->Nm R->de (bt P)<=253->b<=3->∃(M:Λ) (l:Ϝ) (s:List D),A9 [dM<|bt P++ao b []]=aB (d8<|M.map λr=>b8<|dI r)/\de M<=qS/\xT [dM M]=aB (b8<|lG [dI l,ew s])/\BG [nD<|DN M 0 M]=aB (b8<|lG [dI l,ew s])/\aaO (lG [dI l,ew s]) (lG [dI l,ew s])=aB (k9 t_)/\K61.yc [dM M]=aB (d8<|((DN M 0 M).map cN).map λr=>b8<|dI r):=by
  intro R P H b ac r nm p hb;have(mv,bl,m1,m2):=aai ac nm r p hb;have(l,s,(q,dq),t1,t2):=aas mv bl ∅;have be:=Ig mv.mp;rw[vk]at be;show(_,l,s,Xd (by rw[lAq,aU];lia)<|λx hx=>?_,by change _<=16777216;lia,t1,t2,vX (rfl,3,q,dq,by decide) _,be);obtain z|z:=mAq.mp hx
  .have lf:de (bt (bt P))<=120:=by
    have:aF (bt (bt P)++K31.yB H)<|K31.yB R:=e9 cF λz=>by rw[cAq];show ac.cnt z
    have:=d9 this;rw[lAq,aAe,aAe]at this;lia
   have:=oJ (aL z);lia
  .rw[cV z];show aY _
 have dv:=yr (i:=cell ns 2) (j:=12) ⋯ ⋯;have u:=yr (i:=cell ns 2) (j:=3) ⋯ ⋯;have m5:=tG (i:=cell ns 2 / 12) (j:=5) ⋯;have I:=tG (i:=cell ns 2 / 3) (j:=4) ⋯;have nb:(0:Int)<=cell ns 2 / 3 % 4/\cell ns 2 / 3 % 4<4:=by lia
 obtain⟨b,hb⟩:∃b:Nat,cell ns 2 / 3 % 4=(b:Int):=(cC (cell ns 2 / 3 % 4),by lia);rw[hb]at I nb;have rg:ze [b7 (b:Int)]=aB (pT 0 b):=uK ∅;have rl:de (pT 0 b)<=qS:=by rw[qg];change _<=16777216;lia
 have bc:=Nl b;have sA:∀P:Λ,oY (d8<|(P.map dI++(ao b<|d8 []).map oY).map b8)=dM (P++ao b []):=λP=>by rw[qZ,mPq,eJ];change ew _=ew _;rw[mBq,eJ,mBq,eJ,mPq];rfl
 have lb:∀n:Nat,n<=253->n+de (ao b<|d8 [])<=qS:=λn h=>by rw[aU];change _<=16777216;lia
 by_cases hh:cell ns 2 / 12 % 5=1;.have(R2,P2,J,e2,L,r2,O,p2):=aaZ ns;have(M,l,s,Q,g2,S,B,U,X):=t R2 P2 J b L r2 O p2 ∅;have la:=lb _ p2;have Y:=sA<|bt P2;have cc:=Ip M;have sS:=E1 M;have sM:=QC M;have sB:=E1<|(DN M 0 M).map cN;have ty:TZ [lG [dI l,ew s],.ty "tuple"]=aB (k9 t_):=rfl;have B:BG [dM<|(DN M 0 M).map cN]=aB (b8<|lG [dI l,ew s]):=B;generalize (DN M 0 M).map cN=nr at *;simp! [Qh,Oq,e1,e2,c2,dv,m5,hh,u,I,rg,rl,bc,la,Y,Q,g2,cc,sS,sM,S,X,sB,B,ty,U]
 .have(M,l,s,Q,g2,S,B,U,X):=t R1 P1 rd1 b E r1 G p1 ∅;have la:=lb _ p1;have Y:=sA<|bt P1;have cc:=Ip M;have sS:=E1 M;have sM:=QC M;have sB:=E1<|(DN M 0 M).map cN;have ty:TZ [lG [dI l,ew s],.ty "tuple"]=aB (k9 t_):=rfl;simp! [Qh,Oq,e1,c2,dv,m5,hh,u,I,rg,rl,bc,la,Y,Q,g2,cc,sS,sM,S,X,sB,B,ty,U]
end K64
namespace K64
open PySem L2 Mr Z Xe
noncomputable def afm(K:Ζ)(c:Addr):Option Addr:=match K.lookup c with
 |aB l=>(match x9 l with
  | j7 vs=>(match (vs[11]?:Υ)with
   |aB (dS P)=>aB P
   |_=>n_)
  |_=>n_)
 |n_=>n_
def W3(n:vM K=[%[P|q]])(hn:K.lookup P=n_)(ht:eL h P=aB (W.tabObj #[]))(s:W.CodeHd h c P):DW K h:=by intro x l;rw[n]at l ⊢;obtain rfl:=mSq.mp l;show(by simp[List.lookup],hn,ht,c,s)
def Z3{l:W.OpenLaw}{w:lB}{K:Ζ}{h:Heap}{mg:Str->Υ}{fa:Addr}(X:K.In h)(G:h.Ns lj mg)(hfa:mg "law" = aB (dS fa))
  (a0:At K "places_at" yR f0 fd0)
  (a1:At K "nexts" E6 f1 fd1)
  (a2:At K "reached" BY f2 fd2)
  (a3:At K "pieces" Dq f3 fd3)
  (a4:At K "refuse_not_one_piece" se f4 fd4)
  (a5:At K "walk" IU f5 fd5)
  (a6:At K "first_crossing" uT f6 fd6)
  (a7:At K "crossing" Av f7 fd7)
  (a8:At K "refuse_crossed" uM f8 fd8)
  (a9:At K "led_to" C1 f9 fd9)
  (H:At K "neighbours" xF f10 fd10)
  (I:At K "chain_among" wM f11 fd11)
  (J:At K "has_few" BU f12 fd12)
  (L:At K "first_to_go" wN f13 fd13)
  (M:At K "taken_out" yC f14 fd14)
  (a15:At K "rarest" Dv f15 fd15)
  (O:At K "change_chain" wg f16 fd16)
  (Q:At K "turn_to_free" vR f17 fd17)
  (R:At K "steps_to_lay" wa f18 fd18)
  (S:At K "behind_step" wH f19 fd19)
  (U:At K "coloured" AB f20 fd20)
  (Y:At K "_law_cell_at" yy f21 fd21)
  (a22:At K "_law_road" Do f22 fd22)
  (a23:At K "_law_letters" yA f23 fd23)
  (a24:At K "_law_home" A5 f24 fd24)
  (a25:At K "_law_names" BO f25 fd25)
  (a26:At K "_law_word" C4 f26 fd26)
  (a27:At K "_law_roads" BV f27 fd27)
  (a28:At K "_law_planar" Ax f28 fd28)
  (a29:At K "_law_good" C8 f29 fd29)
  (a30:At K "_law_beside" Aq f30 fd30)
  (a31:At K "_law_chain" BW f31 fd31)
  (a32:At K "_law_many" DA f32 fd32)
  (a33:At K "_law_out" EY f33 fd33)
  (a34:At K "_law_pick" C9 f34 fd34)
  (a35:At K "_law_freed" B0 f35 fd35)
  (a36:At K "_law_due" Ff f36 fd36)
  (a37:At K "_law_hub" Fg f37 fd37)
  (a38:l7 K lj "law" = aB (aB<|dS f38)) (l38:K.lookup f38=aB (oc38,od38,.func<|x8 "law" "law" (xD B7) (uW B7) (oX B7) ly kV38 dc38 pm38 an38 cd38 ct38,sl38)) (c38:aAh K cd38 "law" = t_) (k38:aAg K (dS f38)=t_)
  (btu:l7 K lj "tuple" = aB n_)
  {t:Tok}(u:l7 K lj "MANY_COLOURS" = aB (aB<|jK 5 t))
  (z0:l7 K lj "len" = aB n_) (z1:l7 K lj "min" = aB n_) (z2:l7 K lj "max" = aB n_) (z3:l7 K lj "abs" = aB n_) (z4:l7 K lj "all" = aB n_) (z5:l7 K lj "sorted" = aB n_) (z6:l7 K lj "isinstance" = aB n_) (z7:l7 K lj "list" = aB n_) (z8:l7 K lj "int" = aB n_) (z9:l7 K lj "bool" = aB n_) (z10:l7 K lj "str" = aB n_) (z11:l7 K lj "dict" = aB n_) (z12:l7 K lj "zip" = aB n_) (z13:l7 K lj "enumerate" = aB n_) (z14:l7 K lj "range" = aB n_) (z15:l7 K lj "reversed" = aB n_)
  (hC:fd15.code = dS z) (hP:afm K z=aB E) (hT:W.codeHdIn K z E=t_) (hM:vM K=[%[E|(("rarest" : Str) ++ ".<locals>.") ++ "<lambda>"]]) :
  ∃fd:lH,(∀s v,nI s fd ([v],[]) [%["_law_script"|v]])/\∀base:Heap,K.In base->base.Ns lj mg->Dj l.prog w K mg base UN 9 fa fd ["_law_script"] (Pi K):=by have e:=hfa.symm.trans<|W.mg_of X G a38;cases e;have B:Bt mg:=(W.mg_none_of X G z0,W.mg_none_of X G z1,W.mg_none_of X G z2,W.mg_none_of X G z3,W.mg_none_of X G z4,W.mg_none_of X G z5,W.mg_none_of X G z6,W.mg_none_of X G z7,W.mg_none_of X G z8,W.mg_none_of X G z9,W.mg_none_of X G z10,W.mg_none_of X G z11,W.mg_none_of X G z12,W.mg_none_of X G z13,W.mg_none_of X G z14,W.mg_none_of X G z15);have D38:yO K mg "law" B7 ["_law_script"] _ _:=(NS l38 c38 k38,W.mg_of X G a38,b1 (NS l38 c38 k38) λZ Z Z Z Z Z Z=>rfl);have n:=W.mg_of X G u;show(W.fnOf "law" "law" (xD B7) (uW B7) (oX B7) .none kV38 dc38 pm38 an38 cd38 ct38,λs v=>.of_eq rfl,λbase kb nb=>?_);have bTU:=W.mg_none_of X G btu;have F0:=Kc (P:=l.prog) (w:=w) (base:=base) (AK X G a0<|b1 a0.F) B;have F1:=Uu (P:=l.prog) (w:=w) (base:=base) (AK X G a1<|b1 a1.F) B;have F2:=Oj (AK X G a2<|b2 a2.F) B F0;have F3:=QM (AK X G a3<|b1 a3.F) B F2;have F4:=zt (AK X G a4<|b1 a4.F) B F3;have F5:=Xc (AK X G a5<|b1 a5.F) B F4 F0 F1;have F6:=Dt (P:=l.prog) (w:=w) (base:=base) (AK X G a6<|b1 a6.F) B;have F7:=LG (AK X G a7<|b1 a7.F) B F3 F6 F5;have F8:=Dw (AK X G a8<|b1 a8.F) B F7;have F9:=Q0 (P:=l.prog) (w:=w) (base:=base) (AK X G a9<|b3 a9.F) B;have F10:=Hq (AK X G H<|b1 H.F) B F0 F9;have F11:=Gi (P:=l.prog) (w:=w) (base:=base) (AK X G I<|I.F.binds λZ Z Z Z Z Z us hl=>match us,hl with|[_,_,_,_,_],_=>rfl) B;have F12:=Ox (P:=l.prog) (w:=w) (base:=base) (AK X G J<|b3 J.F) B n;have F13:=Gb (AK X G L<|b2 L.F) B F12;have F14:=J6 (AK X G M<|b1 M.F) B F13;have F15:=QS (P:=l.prog) (w:=w) (base:=base) (AK X G a15<|b2 a15.F) hC hT (by rw[hM];show mSq.mpr rfl) B n;have F16:=EU (P:=l.prog) (w:=w) (base:=base) (AK X G O<|b4 O.F) B;have F17:=ES (AK X G Q<|b3 Q.F) B F11;have F18:=EN (AK X G R<|b3 R.F) B F15 F17;have F19:=GF (AK X G S<|b3 S.F) B F11 F16;have F20:=Ll (AK X G U<|b1 U.F) B F8 F10 F14 F18 F19;have x:=JU (P:=l.prog) (w:=w) (base:=base) (AK X G Y<|b2 Y.F) B;have F22:=RU (AK X G a22<|b2 a22.F) B x;have F23:=JV (P:=l.prog) (w:=w) (base:=base) (AK X G a23<|b2 a23.F) B;have F24:=QK (P:=l.prog) (w:=w) (base:=base) (AK X G a24<|b2 a24.F) B;have F25:=NA (P:=l.prog) (w:=w) (base:=base) (AK X G a25<|b3 a25.F) B;have F26:=R9 (AK X G a26<|b1 a26.F) B x F23;have F27:=M4 (AK X G a27<|b1 a27.F) B F25 F22 x;have F28:=KW (AK X G a28<|b1 a28.F) B F27 F26 F24;have F29:=QE (P:=l.prog) (w:=w) (base:=base) (AK X G a29<|b1 a29.F) B;have F30:=Ky (P:=l.prog) (w:=w) (base:=base) (AK X G a30<|b1 a30.F) B;have F31:=M8 (P:=l.prog) (w:=w) (base:=base) (AK X G a31<|a31.F.binds λZ Z Z Z Z Z us hl=>match us,hl with|[_,_,_,_,_],_=>rfl) B;have F32:=Rj (P:=l.prog) (w:=w) (base:=base) (AK X G a32<|b2 a32.F) B;have F33:=VY (AK X G a33<|b1 a33.F) B F32;have F34:=RO (P:=l.prog) (w:=w) (base:=base) (AK X G a34<|b2 a34.F) B;have F35:=MW (AK X G a35<|b4 a35.F) B F31;have F36:=Vr (AK X G a36<|b1 a36.F) B F33 F34 F35;have F37:=Uy (AK X G a37<|b1 a37.F) B x F22;have F38:=Z2 D38 B bTU F28 F29 F20 F36 F37 F30 x;show F38.ok.imp<|Yp λns Z=>aaE ns
def afj{l:W.OpenLaw}{G:(Str->Υ)->Heap->Prop}{K:Params->Ζ}(hn:l.most=aB 63)(B:d.params.defaults=[])
  (H:∀w h,t w h->(K w.params).In h) (I:∀w h,t w h->DW (K w.params) h)
  (F:∀w (mg:Str->Υ) E h,(K w.params).In h->h.Ns lj mg->mg d.name=aB (.ref E) ->
   ∃fd:lH,(∀s u,nI s fd ([u],[]) [%["_law_script"|u]])/\∀base:Heap,(K w.params).In base->base.Ns lj mg->Dj l.prog w (K w.params) mg base UN 9 E fd ["_law_script"] (Pi<|K w.params)) :
  W.WalkO q loose G t l.row.toRowW d []<|λf vs=>PySem.call f vs:=L2.YK (n:=63) (k:=9) (x:= "_law_script") (CX:=λQ=>UN) (sp:=λw=>Pi<|K w.params) hn ⋯ B (rfl,by decide,by decide) H I F (λQ Q a J hl Q hS=>(a,J,rfl,hS,hl,λQ=>rfl)) λQ Q Q Q Q z=>z
end K64
namespace PySem.W.Fast
def tw14344727181900141787:=Prop
def tw11186856568866094317:=Prop
def tw11510439022100395902:=Prop
def tw9906647855327498106:=Prop
def tw4373340463755532402:=Prop
def tw6375982483661030700:=Prop
def tw4674788607999208414:=Prop
def tw8444012686490844995:=Prop
def tw11687264004041288565:=Prop
def tw4195777040277200195:=Prop
def tw14014142998520219016:=Prop
def tw11812049410333274072:=Prop
def tw5165710393777443130:=Prop
def tw12707510299045123947:=Prop
def tw8536194660233895199:=Prop
def tw13306154185010809660:=Prop
def tw13532452433258537503:=Prop
def tw14710762719420425398:=Prop
def tw1647161366640172079:=Prop
def tw3807286243361130626:=Prop
def tw8670114109864444962:=Prop
def tw7800836480892344807:=Prop
def tw11610483805226149285:=Prop
def tw2687202607421453160:=Prop
def tw6236033113164978347:=Prop
def tw5932203877481818462:=Prop
def tw754324932730752568:=Prop
def tw9898851145243044081:=Prop
def tw6648213953946537777:=Prop
def tw5354387237574409483:=Prop
def tw16305010737661580735:=Prop
def tw3978573233725328797:=Prop
def tw13417190625457592963:=Prop
def tw2085209024448324437:=Prop
def tw13985317657460266937:=Prop
def tw10293499669033419538:=Prop
def tw1094583884081675543:=Prop
def tw12262181858676287562:=Prop
def tw14572798947842451903:=Prop
def tw8516272867161999787:=Prop
def tw5252563755036557725:=Prop
def tw2730294570631404191:=Prop
def tw4161159391817034161:=Prop
def tw17475173073680793271:=Prop
def tw682697160834398799:=Prop
def tw13437621445676583086:=Prop
def tw8125545320729665524:=Prop
def tw4859186514312121350:=Prop
def tw11144316335283770116:=Prop
def tw14846473839693500774:=Prop
def tw10075074783896512419:=Prop
def tw16746015709890769137:=Prop
def tw7969987448606824492:=Prop
def tw7781096269206937916:=Prop
def tw17592081986589562100:=Prop
def tw6250964342829509720:=Prop
def tw16436024243589286639:=Prop
def tw13139262355079598987:=Prop
def tw14885249373298337900:=Prop
def tw13427056064824353936:=Prop
def tw5684069235608870344:=Prop
def tw2402001615181026607:=Prop
def tw15581338028023659005:=Prop
def tw2686028798431252913:=Prop
def tw13106693963900008189:=Prop
def tw1633397604520613539:=Prop
def tw15814657664795082583:=Prop
def tw14335106729200038884:=Prop
def tw14959642176648614617:=Prop
def tw9287675632543934820:=Prop
def tw11716873286258550799:=Prop
def tw17163149319053995819:=Prop
def tw5241657889208088143:=Prop
def tw10906492533020998364:=Prop
def tw9850337585994654952:=Prop
def tw10389170637485490676:=Prop
def tw14094367986887314239:=Prop
def tw1455612525499463561:=Prop
def tw8900975892526628889:=Prop
def tw295429126444310796:=Prop
def tw12931051298207107874:=Prop
def tw4613176899768268399:=Prop
def tw15474192357301418065:=Prop
def tw13512308860016715418:=Prop
def tw17047064984617942500:=Prop
def tw18251824317981592306:=Prop
def tw7473114289995469461:=Prop
def tw16825403098880884655:=Prop
def tw12201940725347716547:=Prop
def tw5894293318105701830:=Prop
def tw6837076883357750037:=Prop
def tw3769613995295109510:=Prop
def tw11395845934410422116:=Prop
def tw1554368504339763578:=Prop
def tw106273176851559601:=Prop
def tw2206487422571526005:=Prop
def tw957497341972926486:=Prop
def tw5832454434722646417:=Prop
def tw5305225935503410660:=Prop
def tw8011648095383854406:=Prop
def tw9071402380009810508:=Prop
def tw8361383580850378406:=Prop
def tw5955835158167168303:=Prop
def tw13012124528054985356:=Prop
def tw16090624935081372045:=Prop
def tw32000503876285820:=Prop
def tw14745325005764999985:=Prop
def tw1443317088309373532:=Prop
def tw16310341914566094528:=Prop
def tw6022838901252359040:=Prop
def tw1159002408915820411:=Prop
def tw6540450035231452871:=Prop
def tw7620877981157078791:=Prop
def tw18256062273645745451:=Prop
def tw17768785408615742105:=Prop
def tw10824004305952040470:=Prop
def tw18318317368870101134:=Prop
def tw4699967750988189175:=Prop
def tw6184353520635823262:=Prop
def tw13923277261078548974:=Prop
def tw18129908672004898704:=Prop
def tw766220257873027828:=Prop
def tw18256633194307774984:=Prop
def tw1106132179024562879:=Prop
def tw13088655470588965014:=Prop
def tw1247928349082494834:=Prop
def tw6683974499559108843:=Prop
def tw8492331108397397317:=Prop
def tw14267365062615462541:=Prop
def tw15010392265238474161:=Prop
def tw15482029549795490869:=Prop
def tw12709619401317869260:=Prop
def tw1252390493824213478:=Prop
def tw4472529764077837763:=Prop
def tw11819994599990913470:=Prop
def tw17050325408094566500:=Prop
def tw15411618275627356651:=Prop
def tw17139994755795894533:=Prop
def tw6900303947924149444:=Prop
def tw13790701646024064404:=Prop
def tw3388763279929492332:=Prop
def tw8875841029026243451:=Prop
def tw1834808916794410305:=Prop
def tw3932256636099912194:=Prop
def tw2911746015957781991:=Prop
def tw17624123991777272376:=Prop
def tw6771216461234371228:=Prop
def tw914674703000411947:=Prop
def tw1753621402922560128:=Prop
def tw5869968048281025271:=Prop
def tw2220467472104785452:=Prop
def tw7567049088242488762:=Prop
def tw6109595742356984461:=Prop
def tw8071985707216277159:=Prop
def tw2007161534205991676:=Prop
def tw12524419363739360168:=Prop
def tw13379903212550959096:=Prop
def tw12249607629464418888:=Prop
def tw16212365790607737328:=Prop
def tw17260974075238073362:=Prop
def tw1066638377009634827:=Prop
def tw10430229527901727165:=Prop
def tw3698108081024700701:=Prop
def tw11498090955100774898:=Prop
def tw6385348447759255373:=Prop
def tw11268744093877338051:=Prop
def tw13127965119192811312:=Prop
def tw4131153785189187421:=Prop
def tw3380044835383864182:=Prop
def tw12270590026108408642:=Prop
def tw4668975714410614521:=Prop
def tw18389945311726476336:=Prop
def tw13839763378084772763:=Prop
def tw5079469339077114655:=Prop
def tw6340520575348804019:=Prop
def tw4041818676081912828:=Prop
def tw1141389436806094432:=Prop
def tw13464127202713716379:=Prop
def tw6146714330372387824:=Prop
def tw3123194471633819627:=Prop
def tw14201988595831152403:=Prop
def tw16574503095094845534:=Prop
def tw16371209705356970236:=Prop
def tw12659332811636020989:=Prop
def tw15706750465059229527:=Prop
def tw17589629741320774571:=Prop
def tw11521257873365871749:=Prop
def tw1309676928696127168:=Prop
def tw2518657000341788087:=Prop
def tw13896635904359948889:=Prop
def tw5150667057093710993:=Prop
def tw12159487953580940676:=Prop
def tw420764416210001036:=Prop
def tw10040029899078241405:=Prop
def tw8761888640614345781:=Prop
def tw15057209744199253277:=Prop
def tw15194940686895480905:=Prop
def tw7175645550550978168:=Prop
def tw3308418203814884971:=Prop
def tw8095016896090604862:=Prop
def tw8645112128148624829:=Prop
def tw4002937197531671997:=Prop
def tw8154960243391502404:=Prop
def tw2175884845323014022:=Prop
def tw8074242044880723173:=Prop
def tw3739006299349768362:=Prop
def tw10058377859403020721:=Prop
def tw4748345768002636433:=Prop
def tw1343533282230989963:=Prop
def tw2549037920338677952:=Prop
def tw2236297562482199644:=Prop
def tw15379620072912678977:=Prop
def tw7407523601119057194:=Prop
def tw10544134286469682493:=Prop
def tw17011266436701282632:=Prop
def tw12335930671199705112:=Prop
def tw4683855118459050154:=Prop
def tw3487829553152255569:=Prop
def tw7559266823530336803:=Prop
def tw18315345366356656186:=Prop
def tw18123631117682438336:=Prop
def tw4544444951344004403:=Prop
def tw4448954243702747095:=Prop
def tw5631898646128505408:=Prop
def tw14753471187858014548:=Prop
def tw272059491606003134:=Prop
def tw10079385703844309355:=Prop
def tw1808587612724429421:=Prop
def tw4088165587857140000:=Prop
def tw4563169457280058426:=Prop
def tw12419958588666986614:=Prop
def tw9471101222315931842:=Prop
def tw12396789334200232601:=Prop
def tw6543448797160092317:=Prop
def tw952253489698343991:=Prop
def tw10950731460785633161:=Prop
def tw13191720571738953630:=Prop
def tw5020939716785023142:=Prop
def tw18133864950872152383:=Prop
def tw6745439979190109897:=Prop
def tw8957048375604517684:=Prop
def tw1960887232145499905:=Prop
def tw7012985687646835256:=Prop
def tw13997180826508454581:=Prop
def tw13360913122586060424:=Prop
def tw6499100594253654896:=Prop
def tw10112437195995039330:=Prop
def tw963927418283397280:=Prop
def tw17991910476702030790:=Prop
def tw5723026487947070344:=Prop
def tw9215666356672086508:=Prop
def tw2970060879205627038:=Prop
def tw4666982131889662522:=Prop
def tw4946926968779877962:=Prop
def tw8590388813540416741:=Prop
def tw5510281737494110404:=Prop
def tw16795035490513649845:=Prop
def tw11880639152438084710:=Prop
def tw4346233353794401658:=Prop
def tw13380517455047597683:=Prop
def tw9117927295372922493:=Prop
def tw16254807352505563182:=Prop
def tw14011952495625446589:=Prop
def tw7523158362144415804:=Prop
def tw14869550982097836705:=Prop
def tw7346442665101428539:=Prop
def tw16863895365970750785:=Prop
def tw9952041083692524070:=Prop
def tw2631834021799585332:=Prop
def tw8370077545198003323:=Prop
def tw11658986313857690958:=Prop
def tw3809872055117978675:=Prop
def tw6218861224449759204:=Prop
def tw14345177841694558996:=Prop
def tw5777711548648011474:=Prop
def tw6383085425353255781:=Prop
def tw16062784267796043909:=Prop
def tw3544288924878956824:=Prop
def tw1899331048356766728:=Prop
end PySem.W.Fast
open PySem PySem.W PyProof.Rows
set_option tactic.hygienic true
set_option maxRecDepth 100000 in
set_option maxHeartbeats 0 in
theorem PySem.Challenge.cw_mapround_k64_colours_as_told_holds : PySem.Challenge.rw_mapround_k64_colours_as_told.Holds := by
 w_on;o_law;k_head;(case hw=>w_witness2)
 k_fill
 refine K64.afj (l:=PySem.Challenge.rw_mapround_k64_colours_as_told) rfl rfl (λw h Y=>W.km_in_of Y) ?T ?F
 case T=>exact λw h Y=>K64.W3 (P:=157) (c:=159) (q:=(("rarest" : Str) ++ ".<locals>.") ++ "<lambda>") (by kernel_rfl) (by kernel_rfl) (W.km_tabs_of Y 157 (by k_mem)) (W.codeHd_of_K (W.km_in_of Y) (by kernel_rfl))
 case F=>
  intro w mg fa h KX G hmg;apply K64.Z3 KX G hmg
  case a15=>exact Mr.Ze (by k_is) (by k_is) (by k_is) (by k_is)
  case hC=>first|exact rfl|k_is
  case hP=>first|k_is|exact rfl
  all_goals first|exact Mr.Ze (by k_is) (by k_is) (by k_is) (by k_is)|exact Mr.atM_mk (by k_is) (by k_is) (by k_is) (by k_is) (by k_is)|k_is|kernel_rfl

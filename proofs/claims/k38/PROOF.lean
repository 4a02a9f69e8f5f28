import PyProof.Rows.All
import Wide.All
import OpenK.AllK
import Wide.FinOn
import Lean
import PyProof.EqAt
import PyProof.EqKinds
import PyProof.TupleCall
import KE.KIntText
import PyProof.ConsumeWalk
import KE.KSortTup
import KE.KNestM
import KE.KMinKey
import KE.KSortKey
import KE.KLam
import PySem.Challenge.RW_mapround_k38_whole_told_apart
set_option Elab.async false
set_option linter.all false
set_option genSizeOf false
set_option bootstrap.genMatcherCode false
set_option compiler.extract_closed false
set_option maxRecDepth 100000
set_option maxHeartbeats 4000000
set_option tactic.hygienic false
set_option hygiene false
local macro_rules|`($a->$b)=>`(∀å:$a,$b)
local macro_rules|`(∅)=>`(by first|lia|exact hr.mono (by decide))
set_option hygiene true
local macro_rules|`(⋯)=>`(by first|decide|simp)
local macro_rules|`($x⁻¹)=>`(($x).heap.objs.size)
theorem a_(h:True:=by rfl):True:=h
theorem b_(h:True:=by decide):True:=h
theorem c_(h:True:=by trivial):True:=h
local macro_rules|`(↑$x)=>`(autoParam $x a_._auto_1)
local macro_rules|`(⇑$x)=>`(autoParam $x b_._auto_1)
local macro_rules|`(↥$x)=>`(autoParam $x c_._auto_1)
open Option renaming bind_eq_some_iff->oBq,map_eq_some_iff->oMq,bind->cc,isSome->j3,join->rg,getD->rh
open List renaming getElem?_eq_some_iff->gSq,getElem?_eq_getElem->gEg,getD_eq_getElem?_getD->gDq,length_append->lAq,length_map->lMq,mem_append->mAq,mem_flatten->mFq,mem_map->mMq,getElem?_map->gMq,mem_of_getElem?->mGq,map_congr_left->mCq,getElem_mem->gRq,length_singleton->lSq,mem_singleton->mSq,length_take->lTq,nodup_append->nAq,append_nil->aNq,flatten_append->fAq,getElem?_append_right->gYq,getElem?_append_left->gZq,length_cons->lCq,map_map->mPq,map_append->mBq,mem_cons_of_mem->mCo,length_set->lZq,flatten_cons->fCq,count_append->cAq,mem_cons->ag,mem_cons_self->ai,mem_iff_getElem?->aj,size_toArray->aq,map_cons->ax,mem_append_right->ay,nodup_cons->az,flatten_singleton->aB,drop_eq_getElem_cons->aC,length_eq_zero_iff->aD,nodup_iff_pairwise_ne->aE,replicate->aF,pairwise_map->aG,getElem?_set_ne->aJ,length_drop->aL,sublist_flatten_of_mem->aM,take_append_drop->aQ,getElem?_eq_none->aR,take_length->aS,getElem?_set_self->aV,nodup_nil->aW,length->aX,append_assoc->bg,length_nil->bj,Pairwise->bp,length_range->bq,mem_append_left->bw,zipWith->bx,length_replicate->bz,range->bD,mem_range->bE,pairwise_iff_getElem->bF,foldl_cons->bK,mem_flatMap->bL,getElem?_set->bM,flatMap_cons->bN,find?_cons_of_neg->bP,drop_eq_nil_of_le->bU,take_of_length_le->bV,find?_cons_of_pos->bW,drop_of_length_le->bX,getElem?_zip_eq_some->bY,not_mem_nil->bZ,length_pos_iff->cz,ext_getElem?->cC,getElem?_zipWith->cE,eraseIdx_cons_succ->cG,pairwise_cons->cJ,mem_iff_getElem->cK,perm_ext_iff_of_nodup->cL,take_sublist->cO,count_pos_iff->cU,any_eq_true->cW,getElem?_replicate->cX,Sublist->cY,map_id->cZ,perm_iff_count->df,Perm->dg,zip_cons_cons->dw,mem_of_mem_take->dD,getElem?_range->dN,flatMap_append->dO,length_pos_of_mem->dQ,perm_append_comm->dR,eq_nil_or_concat->dS,concat_eq_append->dU,eq_append_cons_of_mem->dW,exists_mem_of_ne_nil->eh,dropLast_concat->eA,take_succ_eq_append_getElem->eB,getElem?_take_of_lt->eD,idxOf_lt_length_iff->eE,toList_toArray->eJ,drop_length->eK,map_flatten->eN,map_eq_nil_iff->eS,pairwise_singleton->eV,getElem?_drop->eW,count_eq_zero->eX,find?_cons->eY,length_zip->eZ,take_add_one->fg,getElem?_toArray->fh,foldl_append->fj,idxOf_cons_self->fu,mem_of_mem_drop->fx,length_eraseIdx->fy,mem_erase_of_ne->fA,nodup_iff_count->fB,cons_append->fE,lookup_cons->fF,filterMap_cons->fG,any_cons->fH,replicate_succ->fJ,map_take->fK,length_reverse->fL,length_zipWith->fM,getElem?_eq_none_iff->fO,length_flatten->fR,mem_filter->fU,countP_map->fV,eq_of_mem_replicate->fW,set_cons_zero->fY,map_replicate->fZ,ne_nil_of_mem->gb,pairwise_mergeSort->gd,reverse_cons->gf,find?_isSome->gh,append_eq_nil_iff->gk,findIdx_lt_length_of_exists->gn,eraseIdxIfInBounds_toArray->gv,ext_getElem->gA,all_eq_true->gB,set_getElem_self->gC,nodup_range->gH,pairwise_append->gJ,count_singleton->gK,flatten_flatten->gL,of_mem_zip->gM,take_append_of_le_length->gN,nil_append->gO,count_eq_zero_of_not_mem->gQ,idxOf_cons->gR,set_set->gV,map_id'->gW,mergeSort_perm->gY,filter_eq_self->hV,drop_zero->hX,idxOf_lt_length_of_mem->ib,count_nil->ie,getElem_idxOf->ij,set_cons_succ->ik,forIn_toArray->ip,length_erase_of_mem->iC,eraseIdx_cons_zero->iJ,getLast?_singleton->iK,pairwise_lt_range->iQ,flatMap_singleton->iR,take_left->iV,findIdx_getElem->iY,getLast?_append->iZ,getElem_of_mem->ja,perm_singleton->jc,take_succ_cons->jd,mem_filterMap->je,getElem?_take->jh,getElem_range->jj,mem_replicate->jk,map_nil->jm,any_map->jo,idxOf_append->jt,cons->jv,countP_congr->jx,getElem?_inj->jy,drop_sublist->jA,zip_toArray->jH,map_snd_zip->jI,getElem_zip->jJ,mem_reverse->jL,map_reverse->jM,forIn_cons->jP,drop_left->jV,forIn_nil->jW,map_drop->ke,flatten->bf,toArray->b9,Nodup->c9,getD->dk,eraseIdx->fC,reverse->hY,set->i8,dropLast->o5,zip->ph,contains->aBg
open PySem.Heap renaming get?_push_of_some->aa,lt_size->ae,get?_push_size->aA,get?_update_other->bO,size_update->cg,get?_update_ne->cA,SameBut->cP,get?_push_ne->ee,get?_update_self->gD,size_push->hW,ExtBut->iU,DictOf->jD,IsSliceOf->jT,NewExcOf->ki,objs->cI,get?->c7,update->fi,IsListIter->hH,push->ig,IsList->pj,IsTuple->rT,FunFrames->aAz
open Nat renaming le_refl->ab,ne_of_lt->ar,zero_le->aH,lt_of_lt_of_le->aT,zero_add->aU,ne_of_gt->aY,le_trans->bH,le_succ->bI,le_of_lt->bQ,not_lt_zero->bR,lt_succ_of_lt->bS,lt_irrefl->cF,lt_succ_iff_lt_or_eq->cT,lt_add_right->cV,le_add_right->dh,le_of_eq->dX,min_eq_left->dY,lt_succ_self->eG,mod_eq_of_lt->eO,sub_self->eU,le_of_not_lt->fD,add_lt_add_left->fN,mod_lt->fP,add_comm->gc,succ_le_succ->gu,strongRecOn->gP,sub_zero->gU,lt_trichotomy->iz,lt_trans->iF,mod_self->iN,mod_add_mod->iS,lt_of_le_of_lt->jf,lt_or_eq_of_le->jg,min_self->jn,add_zero->jq,le_of_lt_succ->jr,succ_ne_self->jE,min_eq_right->jG,le_antisymm->jR,reduceAdd->kh
open Sum renaming inl->ak,inr->iy
open PySem.Value renaming ref->ao,bool->eF,none->gX,type->iD,int->iT,isStrOf->ka,builtin->kj,isInt->kx,str->BI
open PySem.F renaming plainAttrs_list->aw,slot_list_append->aN,type_list_append->aO,slot_list_count->cH,plain_min_loop->cM,slot_list_pop->dr,type_list_pop->dt,slot_list_extend->dA,type_list_extend->dB,type_list_count->dG,entry_min_loop->gj,args_list_count_2->iA,entry_list_count->iB,slot_list_index->iG,slot_zip_next->m9,isi_meta_tuple->n7,isi_meta_list->o9,args_zip_next_1->x5,entry_zip_next->Ae,args_tuple_lt_2->aA7,entry_tuple_lt->aAb,slot_tuple_lt->aAi,args_list_extend_2->aAw,kt_typeCall_dict_1->aAy,entry_list_extend->aB1,args_dict_init_2->aB5,plain_min->aB7,entry_min->aB8,entry_dict_init->aB9,entry_list_pop->aBi,kind_min->aBk,kt_called_dict->aBl,isi_meta_bool->aBn,isi_meta_int->aC1,isi_meta_str->aC2,slot_list_lt->aC3
open Option renaming some->aK,getD_some->bB,map_some->bJ,bind_some->cu,isSome_map->dZ,isSome_some->fX,toList_some->iq,getD_none->jC,some_or->jX,none->ky
open Bool renaming false_ne_true->aZ,eq_iff_iff->bG,false_eq_true->bT,not_eq_true->dq,not_eq_true'->gg,and_eq_true->iE,eq_false_iff->jw,or_eq_true->jO,and_false->jU
open Int renaming emod_lt_of_pos->ba,emod_nonneg->bh,toNat_natCast->cB,neg_neg->dF,le_refl->gw,le_of_lt->gT,toNat_of_nonneg->gZ,mul_one->iu,fdiv_eq_ediv_of_nonneg->iw,zero_add->iH,toNat->jz,mul_neg->jK
open Array renaming getElem?_eq_getElem->bA,length_toList->dJ,getElem?_toList->fe,mem_iff_getElem?->iP,size_map->iW,toArray_toList->iX,toList_append->jb,forIn_toList->ji,getElem_mem->ju,toList_map->jF,size_push->jQ,Perm->jS,toList->km
open PyProof.Rows renaming callWith_type1->bC,boot_sorted->cQ,boot_list->de,boot_min->du,boot_tuple->dH,boot_isinstance->fc,boot_int->gF,boot_all->gG,callWith_builtin1->jN,eq_dataH_same->jY,ne_dataH_same->jZ,boot_bool->ku,boot_any->kz,lt_int->kB
open Classical renaming byContradiction->dv,propDecidable->dE
open Or renaming inr->ir,inl->jB,resolve_left->sr
open Prod renaming ext->iO,fst->ko,snd->kr
open PySem renaming wpAny_bind->kC,wpAny->kE,wpAny_pure->kF,model->kG,Program->kJ,sizeLine->kK,World->kM,mainGlobals->kN,starEach->kO,call_isinstance->kW,wpAny_holding->kX,codeAny_builtin->kY,cLine->lg,sizeLine_eq->lh,wpAny_mono->lj,plainId_quiet->lD,FuncData->lH,wpAny_truthy_bool->lJ,wpAny_tryCatch->lM,wpAny_seqItems->lU,compareOp->lV,Scope->lX,wpAny_Call_Name_kw->lY,pyNext->lZ,wpAny_updateSeq->mh,wpAny_typeOf->mi,ZipApart->mn,codeAny->mq,wpAny_letGo->mr,call_meets->mv,IsPair->mw,builtinLookup_eq_fast->mz,wpAny_passesOwn->mB,isinstance_true->mC,wpAny_pyIter_list->mD,backTo->mE,sysModules->mF,builtinsNs->mH,wpAny_newList->mK,argBest->mL,bootBuiltins->mM,relabel->mN,isinstance_false_int->mO,wpAny_call_entry->mP,typeLookup->mQ,behindInMarks->mS,sliceBounds->mT,typeLookup_type->mU,sub_AttributeError->mV,getattributeRaised->mW,codeAny_mono->mZ,binaryOp->nh,wpAny_callSpecial?_slot->ni,wpAny_field->nj,richCompare->nq,wpAny_attempt->nr,wpAny_pyIter_zip->nu,wpAny_pyNext_zip_item->nD,wpAny_execs_nil->nH,assignEach->nJ,stored->nK,callerA->nO,tupleKind_room_in1->nS,seqItems?->nT,codeAmong->nU,Result->nV,foldedSetIterable->nW,wpAny_rule->nX,BindsTo->oa,wpAny_getItem_list_slice->og,wpAny_comprehension_free->oh,wpAny_isInstance->oi,rawInt->oj,letOwnedTupleGo->om,updateSeq->ox,tupleKind->oy,swapsWith->oz,Arguments->oA,wpAny_nextOf_list_item->oB,richCompare_meets_room->oD,subscripted->oE,wpAny_notOrdered_dict->oH,wpAny_isTrue_Compare1->oJ,isinstance_false_none->oK,wpAny_newTuple->oN,callType_codes->aar,valueAt->aaD,getItem->aaJ,assign->acj,wpAny_pyNext_zip_end->acz,wpAny_newFunctionEnv->acJ,wpAny_loadName_local->ac6,lookup_relabel_local->adf,isinstance_false_str->adg,closureFor->adl,bindArgs->adE,wpAny_loadName_cell->adI,wpAny_dictSet_pairs->adO,seqIndex?->aeH,getAttrBy->aeK,holding->aeU,boot_len->ed,mem_of_lookup->eL,Value->w5,getD_mem->aB3,mem_getD->aB4,Addr->aBp,call->aC0
open PyProof.Rows renaming Keyed->kH,seqObj->kL,arrOf->kP,wpS_bind->kQ,getElem?_mirror_all->kZ,IntsAre->lI,SortKind->lK,wpS_pure->lN,get?_update_seq->lO,listUpdate_at->lW,setArr->mj,pairsOf->mI,envOfC->mJ,size_push'->mR,wpS_forRange->mX,pairsOf_size->mY,reverseSlice'->nt,wpS_mono->nv,keyKind'->ny,AllBare->nF,mirror->nL,oneType'->nN,seqEpoch_at->nQ,sortedHeap->nY,tuples'->nZ,getElem?_bubble->oq,entry_list_sort->ou,subscriptTail_builtinR->oC,slot_list_sort->aad,wpS_get->aax,bubble->abx,wpS_modify->adj,Subscript_->ado,plain_sorted->adV,listItems_at->ad9,entry_sorted->aeF,kind_sorted->aeX
open PySem.Shared renaming heap->b7,TypeIs->j7,toks->nc
open PySem.Obj renaming mapSeq->cS,data->vr,slots->aA6
open List.Perm renaming length_eq->ef,mem_iff->eg,trans->kT,nodup_iff->l8,refl->yG,symm->T1,eq_nil->aA1
open PySem.PassesOwn renaming never->ek
open PySem.Around renaming under_plainId->eo,units->ic,handled->lL,in1->p9,deeper->rp,frames->x3,frames_deeper->Uh
open Eq renaming trans->eI,symm->fQ
open PySem.PlainL renaming isList->eQ
open Iff renaming mpr->e8
open PySem.Data renaming fields->fT,seq->k6,cell->n8,dict->x6
open PySem.PyData renaming depth->gE,canLay0->hJ,depthAll->i7,canLayAll0->lS,tuple->pP,int->aA8,eqv->aBo
open PySem.Spec renaming same->g0,sameAll->k7
open PySem.Expr renaming Name->g9,Call->m8,ListComp->pF,Subscript->pL,BoolOp->r8,Compare->T2,Constant->aAa,Tuple->aAg
open False renaming elim->hD
open PySem.Paired renaming cons->hL,nil->j8,length->nE,snoc->aBj
open PySem.Scope renaming names->hZ
open Ne renaming symm->h7
open PySem.Builtin.SmallTypes renaming ownedTupleIsFree->h9,nextOf->nk
open PySem.Heap.SameBut renaming extBut->i6
open PySem.SeqAt renaming noMix->j4,noMixAll->k8,shaped->mG,list_countAt->aAc,EqAt->aBz
open PySem.NameKind renaming «local»->kU,cell->o6,free->p4
open PySem.Builtin.Builtins renaming bindParams->k5
open PySem.Builtin.List renaming listExtendWith->lq,listTooLong->l7,listLengthHint->sO,listItems->w8,listSameRef->aCi,listTouch->aCj,listUpdate->aCk
open PySem.Str renaming ofString->lG
open PySem.W renaming nsIn->md,canLayAll0_ints->nM,noMix_ints->rr,depthAll_ints->sd,same_ints->sF,fnOf->wh,kat_nil->aA9,keepIn->aAu,codeIn->aAv,cellsFrom_some->aBh
open PySem.Builtin.Dict renaming updateFrom->m3,addKeywords->t8,selfAndRest->t9,pairItems->w6
open ForInStep renaming yield->m6
open PySem.Env renaming scope->nA,locals->n6,cells->Hx,kindOf->aAe
open PySem.Walks renaming list->pa
open PySem.AutoSeq1 renaming sub_tuple_tuple->pe,wpAny_loadPart'->x9,sub_list_list->CV
open PySem.ScopeKind renaming function->pk
open PySem.Flow renaming ret->pG,next->aB0
open True renaming intro->p6
open PySem.Builtin.Tuple renaming tupleCompareSizes->q9
open Break.runK renaming match_1->rd
open PySem.Calls renaming spliced_cons->sq,spliced_nil->t5,Name_function_global->zb,call_function_entry->EW,callWith_builtin->Td
open PySem.Code renaming builtin->x8
open PyProof.Rows.IntsAre renaming length->G1
open PySem.CmpOp renaming NotIn->S3
open Except renaming ok->T3
open PySem.Heap.IsListIter renaming extBut->aA0
open PySem.Reads renaming tuple->aA3
open PySem.W.KatTups renaming cons->aAd,nil->aAl
open PySem.Slot renaming lookup->aAf
open PySem.Stmt renaming Assign->aAh,FunctionDef->aAj
open StateT renaming run_pure->aAx
open PySem.Meets renaming of_wp->aB2
open PySem.W.WData renaming int->aB6
open PyProof.Rows.SortSt renaming mk'->aBm
open PySem.Builtin.Range renaming rangeSize->aBq
open PySem.EqMixed renaming eq_bool_str->aBr,eq_int_str->aBs,eq_str_bool->aBt,eq_str_int->aBu,ne_bool_str->aBv,ne_int_str->aBw,ne_str_bool->aBx,ne_str_int->aBy
open PySem.EqNone renaming eq_none_none->aC4,eq_none_bool->aC5,eq_none_int->aC6,eq_none_str->aC7,eq_bool_none->aC8,eq_int_none->aC9,eq_str_none->aCa,ne_none_none->aCb,ne_none_bool->aCc,ne_none_int->aCd,ne_none_str->aCe,ne_bool_none->aCf,ne_int_none->aCg,ne_str_none->aCh
open Option renaming none->n_
open Bool renaming true->t_,false->f_
open Lean in
local macro_rules|`(tactic|have $p:term:=$e)=>do
  if !p.raw.isOfKind `Lean.Parser.Term.tuple then Macro.throwUnsupported
  let n(s x):=Syntax.node .none (`Lean.Parser.Tactic++s) x
  let m x:=n `rcasesPatMed #[mkNullNode #[x]]
  let q:=p.raw.rewriteBottomUp λs=>if s.isIdent then n `rcasesPat.one #[s] else match s with
  |.node _ k x=>if k== `Lean.Parser.Term.tuple then n `rcasesPat.tuple #[mkAtom "⟨",mkNullNode (mkSepArray ((#[x[1]!.getArg 0]++(x[1]!.getArg 2).getSepArgs).map λy=>n `rcasesPatLo #[m y,mkNullNode]) (mkAtom ",")),mkAtom "⟩"]
   else if k== `Lean.Parser.Term.hole then n `rcasesPat.ignore #[mkAtom "_"] else s
  |_=>s
  let r<-`(tactic|obtain x:=$e)
  pure (r.raw.setArg 1 (mkNullNode #[m q]))
local macro_rules|`(($a,$b,*))=>`(⟨$a,$b,*⟩)
local macro_rules|`(%[$a|$b])=>`(Prod.mk $a $b)
local macro_rules|`(tactic|show $e)=>`(tactic|refine $e)
abbrev Λ:=List<|List Int
abbrev Ϝ:=List Int
abbrev Φ:=List<|aBp×PySem.Obj
abbrev Δ:=List aBp
abbrev Θ:=List Nat
abbrev Ξ:=List w5
abbrev Ω:=Array w5
abbrev Υ:=Option w5
abbrev Ψ:=w5->PySem.Shared->Prop
abbrev Ζ:=PySem.W.Frag
noncomputable section
open Array renaming mem_of_getElem?->aQq
local macro_rules|`(tactic|simp?[$l,*]$[$o]?)=>`(tactic|simp only[$l,*]$[$o]?)
local macro_rules|`(tactic|rfl')=>do let l<-("le_refl _,zero_le _,succ_pos _,le_add_right _ _,le_add_left _ _,le_succ _,le_of_lt a,le_of_not_lt a,le_of_lt_succ a,lt_succ_of_le a,le_succ_of_le a,sub_pos_of_lt a,le_of_eq a,le_antisymm a a,add_sub_cancel' a,sub_add_cancel a,add_comm _ _,add_right_comm _ _ _".splitOn ",").mapM λs=>do{let w:=s.splitOn;let a<-w.tail.toArray.mapM λx=>if x=="_" then `(_) else `(‹_›);`(tactic|exact $(Lean.mkIdent<|`Nat++w.head!.toName) $a*)};let l:=l.toArray;`(tactic|first|assumption|rfl|(first $[|$l:tactic]*)|exact jR ‹_› (fD ‹_›)|exact (Nat.add_assoc _ _ _).symm|exact absurd ‹_› (cF _)|exact Int.not_lt.1 ‹_›|exact gT ‹_›|exact Int.ofNat_nonneg _|exact Int.lt_of_lt_of_le ‹_› ‹_›|exact Int.le_trans ‹_› ‹_›|ac_rfl)
local macro_rules|`(tactic|ac_nf)=>`(tactic|simp +arith[*])
local macro_rules|`(tactic|trivial)=>`(tactic|first|exact jB rfl|exact ir rfl|exact ir (jB rfl)|exact ir (ir rfl)|exact⟨rfl,rfl,rfl,by decide +kernel,rfl,by decide +kernel,by decide +kernel⟩|decide +kernel|fail)
def qz{c}{_:Decidable c}(h:c){α}{t e:α}:ite c t e=t:=if_pos h
def qE{c}{_:Decidable c}(h:¬c){α}{t e:α}:ite c t e=e:=if_neg h
def d7{p}[Decidable p](h:p):decide p=t_:=decide_eq_true h
def d8{p}[Decidable p](h:¬p):decide p=f_:=decide_eq_false h
namespace L2
open PySem PySem.Spec PyProof.Rows
abbrev pZ:=Sum Int Str
noncomputable def Jj:pZ->Value->Bool
 | ak k,v=>kx k v
 | iy x,v=>ka x v
noncomputable def afM(w:kM):pZ->Int
 | ak k=>hashInt k
 | iy x=>hashStr w x
def rY:∀{k}{v},Jj k v=t_->(∃i t,k=ak i/\v=iT i t)∨(∃x t,k=iy x/\v=BI x t)
 | ak i,v,h=>by have(t,e):=Value.isInt_shape h;show jB (i,t,rfl,e)
 | iy x,v,h=>by have(t,e):=Value.isStrOf_shape h;show ir (x,t,rfl,e)
def E8(i)t:Jj (ak i) (iT i t)=t_:=by simp[Jj,kx]
def Sl(x)t:Jj (iy x) (BI x t)=t_:=by simp[Jj,ka]
def aba a b:decide ((ak a:pZ)=ak b)=(a == b):=by
 by_cases e:a=b;.subst e;simp
 .have h:¬ (ak a:pZ)=ak b:=λq=>e<|ak.inj q;rw[d8 h];show(e8 beq_eq_false_iff_ne e).symm
def abC a b:decide ((iy a:pZ)=iy b)=decide (a=b):=by
 by_cases e:a=b;.simp
 .have h:¬ (iy a:pZ)=iy b:=λq=>e<|iy.inj q;rw[d8 h,d8 e]
def acm(a)b:decide ((ak a:pZ)=iy b)=f_:=d8<|λq=>nomatch q
def acs(a)b:decide ((iy a:pZ)=ak b)=f_:=d8<|λq=>nomatch q
def rK(prog)w:PySem.KeyKind prog w pZ where
 is:=Jj
 hash:=afM w
 inj:=λv a b ha r=>by
  obtain⟨i,t,rfl,rfl⟩|⟨x,t,rfl,rfl⟩:=rY ha
  .obtain⟨j,u,rfl,e⟩|⟨y,u,rfl,e⟩:=rY r;.injection e with l _;rw[l]
   .show nomatch e
  .obtain⟨j,u,rfl,e⟩|⟨y,u,rfl,e⟩:=rY r;.show nomatch e
   .injection e with l _;rw[l]
 byValue:=λk v h=>by obtain⟨i,t,rfl,rfl⟩|⟨x,t,rfl,rfl⟩:=rY h <;> rfl
 pyHash:=λn h=>by
  obtain⟨i,t,rfl,rfl⟩|⟨x,t,rfl,rfl⟩:=rY n;.show wpAny_pyHash_int h
  .show wpAny_pyHash_str h
 eqBool:=λs n h=>by
  obtain⟨i,t,rfl,rfl⟩|⟨x,t,rfl,rfl⟩:=rY s
  .obtain⟨j,u,rfl,rfl⟩|⟨y,u,rfl,rfl⟩:=rY n;.rw[aba]at h;show wpAny_eqBool_int h
   .rw[acm]at h;show SeqAt.EqAt.int_str i t y u _ _ _ _ h
  .obtain⟨j,u,rfl,rfl⟩|⟨y,u,rfl,rfl⟩:=rY n;.rw[acs]at h;show SeqAt.EqAt.str_int x t j u _ _ _ _ h
   .rw[abC]at h;show wpAny_eqBool_str h
 «strs»:=λk x t v h=>by
  obtain⟨i,u,rfl,e⟩|⟨y,u,rfl,e⟩:=rY h;.show nomatch e
  .injection e with l _;subst l;cases v <;> rfl
def Mk(prog)w i t:(rK prog w).is (ak i) (iT i t)=t_:=E8 i t
def N8(prog)w x t:(rK prog w).is (iy x) (BI x t)=t_:=Sl x t
inductive V where
 |non|bl (b:Bool)|int (i:Int)|str (x:Str)|byt (b:Array UInt8)|flt (b:UInt64)|ref (a:Addr)|ty (n:String)
 deriving DecidableEq
open L2.V renaming ref->cx,int->c8,bl->lR,non->pd,str->y9
def qW:V->Value->Prop
 | pd,u=>u=gX
 | lR b,u=>u=eF b
 | c8 i,u=>∃t,u=iT i t
 | y9 x,u=>∃t,u=BI x t
 | .byt b,u=>∃t,u=Value.bytes b t
 | .flt b,u=>∃t,u=Value.float b t
 | cx a,u=>u=ao a
 | .ty n,u=>u=iD n
abbrev qr:List V->Ξ->Prop:=Paired qW
def qr.length(r:qr xs us):aX xs=aX us:=nE r
open L2.qr renaming length->iL
theorem qr.get:∀{xs}{us}{i:Nat}{x},qr xs us->xs[i]?=aK x->∃u,us[i]?=aK u/\qW x u
 |_,_,_,_,j8,e=>by simp at e
 |_,_,0,_,hL r _,e=>by simp at e;subst e;show(_,rfl,r)
 |_,_,i+1,x,hL _ t,e=>by
  have(u,h1,h2):=qr.get t<|by show e
  show(u,by show h1,h2)
theorem qr.set(r:qW x u):∀{xs}{us}i,qr xs us->qr (i8 xs i x) (i8 us i u)
 |_,_,_,j8=>j8
 |_,_,0,hL _ t=>hL r t
 |_,_,i+1,hL q t=>hL q<|qr.set r i t
theorem qr.append:∀{xs ys}{us ws},qr xs us->qr ys ws->qr (xs++ys) (us++ws)
 |_,_,_,_,j8,s=>s
 |_,_,_,_,hL r t,s=>hL r<|qr.append t s
theorem qr.take:∀{xs}{us}n,qr xs us->qr (xs.take n) (us.take n)
 |_,_,0,_=>j8
 |_,_,_+1,j8=>j8
 |_,_,n+1,hL r t=>hL r<|qr.take n t
theorem qr.drop:∀{xs}{us}n,qr xs us->qr (xs.drop n) (us.drop n)
 |_,_,0,r=>r
 |_,_,_+1,j8=>j8
 |_,_,n+1,hL _ t=>qr.drop n t
def Iw:Option V->Υ->Prop
 |aK v,aK u=>qW v u
 |n_,n_=>True
 |_,_=>False
def KV:List (κ×V)->List (κ×Value)->Prop:=Paired λ(p:κ×V) (q:κ×Value)=>p.1=q.1/\qW p.2 q.2
noncomputable def kV:pZ->V
 | ak i=>c8 i
 | iy x=>y9 x
inductive HO where
 /-- a list -/
 |lst (xs:List V)
 /-- a tuple (never changes) -/
 |tup (xs:List V)
 /-- a dict whose keys are ints and texts;one whose keys are tuples of ints and texts (the empty one is both) -/
 |dK (kvs:List<|pZ×V)|dT (kvs:List<|List pZ×V)
 /-- a set of ints: its members,its size -/
 |set (S:Int->Bool) (n:Nat)
 /-- an instance of the class at C,its dict at dx,its attributes -/
 |ins (C dx:Addr) (fs:List<|Str×V)
 /-- the dict of the instance at x -/
 |own (x:Addr)
 /-- the dict of an exception -/
 |xd (fs:List<|Str×V)
 /-- a bound method,f of x -/
 |met (f x:Addr)
 /-- a range object lo,lo+1,.. below hi -/
 |rng (lo hi:Int)
 /-- a thing that is known to the object (the script;a dict while a loop walks it): read,never written while it is so -/
 |frz (o:Obj) (u:HO)
 /-- a code object's table -/
 |tbl (q:Str)
 /-- any other thing,by what is true of its one object (a def of one's own: SetO a S n:=HO.ext λh=>..) -/
 |ext (φ:Heap->Prop)
open L2.HO renaming tup->j6
abbrev Hp:=Addr->Option HO
noncomputable def rG(H:Hp)(a:Addr)(o:HO):Hp:=λb=>if b=a then aK o else H b
def pW:rG H a o a=aK o:=by unfold rG;rw[qz rfl]
def pI(h:b≠a):rG H a o b=H b:=by unfold rG;rw[qE h]
def adM{H:Hp}(h:H a=aK o)(l:H b=aK u)(d:o≠u):a≠b:=by intro e;subst e;rw[h]at l;show d<|aK.inj l
def ri{H:Hp}(h:H a=aK o)(l:H b=n_):a≠b:=by intro e;subst e;rw[h]at l;cases l
section
variable (P:kJ)(w:kM)
def tE(H:Hp)(h:Heap)(a:Addr):HO->Prop
 | .lst xs=>xs.length<=kK/\∃l n,qr xs l/\h.get? a=aK { cls:=.type "list", data:=.seq l.toArray n }
 | .tup xs=>xs.length<=kK/\∃l:Ξ,qr xs l/\IsTup h a l.toArray
 | .dK kvs=>kvs.length<=kK/\(a == mF)=f_/\∃vs,KV kvs vs/\h.DictOf (rK P w) a vs
 | .dT kvs=>kvs.length<=kK/\(a == mF)=f_/\∃xs:List (List pZ×Addr×Value),
   Paired (λ(p:List pZ×V) (q:List pZ×Addr×Value)=>p.1=q.1/\H q.2.1=aK (.tup<|p.1.map kV)/\qW p.2 q.2.2) kvs xs /\
   ∃o es ep,h.get? a=aK o/\o.ExactDict/\o.data = .dict es ep/\es.toList=xs.map (entryOfKey<|oy<|rK P w)/\(xs.map (·.1)).Nodup
 | .set S n=>h.SetOf (intKind P w) a S n
 | .ins C s fs=>H s=aK (.own a)/\fs.length<=1000/\s≠a/\h.get? a=aK (W.instObj C s) /\
   ∃r,h.Ns1 s r/\(∀f,Iw (fs.lookup f)<|r f)/\PySem.Within r (fs.map (·.1))
 | .own _=>∃o,h.get? a=aK o
 | .xd fs=>∃r,h.Ns1 a r/\∀f,Iw (fs.lookup f)<|r f
 | .rng lo B=>∃t u v,h.get? a=aK { cls:=.type "range", data:=.fields #[.int lo t,.int B u,.int 1 v] }
 | .frz o u=>h.get? a=aK o/\tE H h a u
 | .tbl q=>∃ps:Ω,h.get? a=aK { cls:=.none,data:=.fields ps }/\PySem.TriplesOk ps.toList/\∀p y,nU p ps.toList=aK y->∃b z vs E,y = .ref b/\H b=aK (.frz z<|.own a)/\z.data = .fields vs/\vs[1]?=aK (.str q E)
 | .met f x=>h.get? a=aK (W.methodObj (.ref f)<|.ref x)
 | .ext φ=>φ h/\(∃o,h.get? a=aK o)/\∀h1 h2:Heap,φ h1->(∀o,h1.get? a=aK o->h2.get? a=aK o)->φ h2
def Dw(H:Hp)(h:Heap):Prop:=∀a o,H a=aK o->tE P w H h a o
end
section
variable {a:Addr}
def tE.lt(x:tE P w H h a o):a<h.objs.size:=by cases o with
 |lst r=>have(_,_,_,_,e):=x;show ae e
 |tup r=>have(_,_,_,p):=x;show p.lt
 |dK l=>have(_,_,_,_,o,_,_,e,_):=x;show ae e
 |dT l=>have(_,_,_,_,o,_,_,e,_):=x;show ae e
 |set S n=>have(o,_,_,_,e,_):=x;show ae e
 |ins C s fs=>have(_,_,_,e,_):=x;show ae e
 |own y=>have(_,e):=x;show ae e
 |xd fs=>have(_,(_,_,_,e,_),_):=x;show ae e
 |rng lo t=>have(_,_,_,e):=x;show ae e
 |frz ob u=>have(e,_):=x;show ae e
 |tbl q=>have(_,e,_):=x;show ae e
 |met f y=>show ae<|x
 |ext φ=>have(_,(_,e),_):=x;show ae e
theorem Paired.mapP{F G:α->β->Prop}:∀{l}{n},Paired F l n->(∀a b,F a b->G a b)->Paired G l n
 |_,_,j8,_=>j8
 |_,_,hL r t,f=>hL (f _ _ r)<|Paired.mapP t f
def tE.stay(x:tE P w H h a o)(k:∀b u,(b=a∨H b=aK (.own a))->c7 h b=aK u->c7 h' b=aK u)
  (L:∀b,H b=aK (.own a)->H' b=aK (.own a)) (ht:∀b xs,H b=aK (j6 xs)->H' b=aK (j6 xs)) (hz:∀b ob,H b=aK (.frz ob<|.own a)->H' b=aK (.frz ob<|.own a)):tE P w H' h' a o:=by induction o with
 |lst xs=>have(z,B,n,r,e):=x;show(z,B,n,r,k _ _ (jB rfl) e)
 |tup xs=>have(z,B,r,ob,e,c):=x;show(z,B,r,ob,k _ _ (jB rfl) e,c)
 |dK E=>have(z,y,G,r,ob,l,s,e,c):=x;show(z,y,G,r,ob,l,s,k _ _ (jB rfl) e,c)
 |dT E=>have(z,y,xs,r,ob,l,s,e,c):=x;show(z,y,xs,Paired.mapP r λp q z=>(z.1,ht _ _ z.2.1,z.2.2),ob,l,s,k _ _ (jB rfl) e,c)
 |set S n=>have(ob,l,s,t,e,c):=x;show(ob,l,s,t,k _ _ (jB rfl) e,c)
 |ins C dx fs=>have(d,z,ne,e,I,(od,l,s,J,c),r):=x;show(L _ d,z,ne,k _ _ (jB rfl) e,I,(od,l,s,k _ _ (ir d) J,c),r)
 |own y=>have(ob,e):=x;show(ob,k _ _ (jB rfl) e)
 |xd fs=>have(I,(od,l,s,e,c),r):=x;show(I,(od,l,s,k _ _ (jB rfl) e,c),r)
 |rng lo hi=>have(t,u,v,e):=x;show(t,u,v,k _ _ (jB rfl) e)
 |frz ob u M=>have(e,q):=x;show(k _ _ (jB rfl) e,M q)
 |tbl q=>have(ps,e,t,r):=x;show(ps,k _ _ (jB rfl) e,t,λp O Q=>?_);have(b,R,G,U,X,J,Y):=r p O Q;show(b,R,G,U,X,hz _ _ J,Y)
 |met f y=>have e:=x;show k a _ (jB rfl) e
 |ext φ=>have(p,(o,e),st):=x;show(st _ _ p λo q=>k _ _ (jB rfl) q,(o,k _ _ (jB rfl) e),st)
def Dw.lt(x:Dw P w H h)(e:H a=aK o):a<h.objs.size:=(x a o e).lt
def Dw.fresh(x:Dw P w H h)(e:h.objs.size<=a):H a=n_:=by cases q:H a with
 |none=>rfl
 |some u=>show absurd (aT (x.lt q) e)<|cF _
def Dw.kept(x:Dw P w H h)(k:∀b u,c7 h b=aK u->c7 h' b=aK u):Dw P w H h':=λa o e=>(x a o e).stay (λb u Q q=>k b u q) (λQ q=>q) (λQ Q q=>q) λQ Q q=>q
def Dw.laid(x:Dw P w H h)(k:∀b u,c7 h b=aK u->c7 h' b=aK u)(n:h.objs.size<=a)(new:tE P w (rG H a o) h' a o):Dw P w (rG H a o) h':=λb u e=>by
 have hn:=x.fresh n;by_cases l:b=a;.subst l;rw[pW]at e;cases e;show new
 .rw[pI l]at e;show(x b u e).stay (λc v Q q=>k c v q) (λc q=>by rw[pI<|ri q hn];show q) (λc r q=>by rw[pI<|ri q hn];show q) λc r q=>by rw[pI<|ri q hn];show q
end
def Rd(H:Hp)(a:Addr)(u:HO):Prop:=H a=aK u∨∃o,H a=aK (.frz o u)
def Rd.ok(r:Rd H a u)(x:Dw P w H h):tE P w H h a u:=by
 obtain r|⟨o,r⟩:=r;.show x a u r
 .have(_,q):=x a _ r;show q
def Mut:Option HO->Prop
 |aK (.lst _)=>True
 |aK (.dK _)=>True
 |aK (.dT _)=>True
 |aK (.set _ _)=>True
 |aK (.ins _ _ _)=>True
 |aK (.ext _)=>True
 |_=>False
def Dw.write(ok:Dw P w H h)(mu:Mut<|H x)(G:e=x∨H e=aK (.own x))(k:∀b u,b≠e->c7 h b=aK u->c7 h' b=aK u)(E:∃u,c7 h' e=aK u)
  (new:tE P w (rG H x o') h' x o'):Dw P w (rG H x o') h':=λb u q=>by
 have n:∀c y,H c=aK (.own y)->c≠x:=λc y r z=>by subst z;rw[r]at mu;show mu
 have s:∀c t,H c=aK (j6 t)->c≠x:=λc t r z=>by subst z;rw[r]at mu;show mu
 by_cases B:b=x;.cases B;rw[pW]at q;cases q;show new
 .rw[pI B]at q;by_cases l:b=e
  .have I:H b=aK (.own x):=by
    obtain z|z:=G;.show absurd (eI l z) B
    .rw[l];show z
   rw[q]at I;cases I;have(v,J):=E;show(v,by rw[l];show J)
  .show(ok b u q).stay (λc v C r=>k c v ?_ r) (λc r=>by rw[pI<|n c b r];show r) (λc t r=>by rw[pI<|s c t r];show r) λc ob r=>by rw[pI<|show c≠x from λz=>by subst z;rw[r]at mu;show mu];show r
   obtain rfl|C:=C;.show l
   .rintro rfl;obtain z|z:=G;.show n c b C z
    .rw[C]at z;cases z;show B rfl
structure Un (fs ex:Δ)(H H':Hp)(h h':Heap):Prop where
 keep:∀b o,h.get? b=aK o->H b=n_->b∉fs->b∉ex->h'.get? b=aK o
 slot:∀b o,h.get? b=aK o->H b=n_->b∈fs->b∉ex->∃sl,h'.get? b=aK { o with slots:=sl }
 free:∀b o,h.get? b=aK o->H b=n_->b∉ex->H' b=n_
 there:∀b o,h.get? b=aK o->b∉ex->∃o',h'.get? b=aK o'
 tups:∀b xs,H b=aK (.tup xs)->H' b=aK (.tup xs)
 frzs:∀b o u,H b=aK (.frz o u)->H' b=aK (.frz o u)
 tbls:∀b q,H b=aK (.tbl q)->H' b=aK (.tbl q)
section
variable {a:Addr}
def Un.any(u:Un fs ex H H1 h h1)(q:c7 h b=aK ob)(n:H b=n_)(l:b∉ex):∃sl,c7 h1 b=aK { ob with slots:=sl }:=by
 by_cases r:b∈fs;.show u.slot b ob q n r l
 .show(aA6 ob,u.keep b ob q n r l)
def Un.kept(k:∀b u,c7 h b=aK u->c7 h' b=aK u):Un fs ex H H h h':=(λb ob q Q Q Q=>k b ob q,λb ob q Q Q Q=>(aA6 ob,k b ob q),λQ Q Q n Q=>n,λb ob q Q=>(ob,k b ob q),λQ Q q=>q,λQ Q Q q=>q,λQ Q q=>q)
def Un.refl:Un fs ex H H h h:=Un.kept λQ Q q=>q
def Un.laid(k:∀b u,c7 h b=aK u->c7 h' b=aK u)(l:h.objs.size<=a)(hn:H a=n_):Un fs ex H (rG H a o) h h' where
 keep:=λb u q Q Q Q=>k b u q
 slot:=λb u q Q Q Q=>(aA6 u,k b u q)
 free:=λb u q n Q=>by rw[pI<|ar<|aT (ae q) l];show n
 there:=λb u q Q=>(u,k b u q)
 tups:=λb xs q=>by rw[pI<|ri q hn];show q
 frzs:=λb u xs q=>by rw[pI<|ri q hn];show q
 tbls:=λb Q q=>by rw[pI<|ri q hn];show q
def Un.write(mu:Mut<|H x)(C:e=x∨H e=aK (.own x))(k:∀b u,b≠e->c7 h b=aK u->c7 h' b=aK u)(s:∃u,c7 h' e=aK u):Un fs ex H (rG H x o) h h':=by
 have y:∀b,H b=n_->b≠x:=λb n z=>by subst z;rw[n]at mu;show mu
 have B:∀b,H b=n_->b≠e:=λb n z=>by
  subst z;obtain r|r:=C;.show y b n r
  .rw[n]at r;cases r
 have t:∀b u,H b=aK u->¬ Mut (aK u)->b≠x:=λb u q nm z=>by subst z;rw[q]at mu;show nm mu
 show(λb u q n Q Q=>k b u (B b n) q,λb u q n Q Q=>(aA6 u,k b u (B b n) q),λb u q n Q=>by rw[pI<|y b n];show n,λb u q Q=>?_,
  λb E q=>by rw[pI<|t b _ q λz=>z];show q,λb u E q=>by rw[pI<|t b _ q λz=>z];show q,λb Q q=>by rw[pI<|t b _ q λz=>z];show q);by_cases l:b=e;.subst l;show s
 .show(u,k b u l q)
end
noncomputable def trk(h:Heap)(H:Hp):Δ:=(bD h.objs.size).filter λa=>j3<|H a
def Nl(h:Heap)(H:Hp):Heap:=W.hideAll h<|trk h H
def TK(h)H:(Nl h H).objs.size=h.objs.size:=W.hideAll_size _ _
def Ho(e:c7 h b=aK o)(n:H b=n_):c7 (Nl h H) b=aK o:=W.hideAll_get _ e λl=>by have q:=(fU.mp l).2;rw[n]at q;simp at q
def Z2(e:c7 (Nl h H) b=aK o):c7 h b=aK o/\H b=n_:=by have l:=W.of_hideAll (trk h H) e;show(l,?_);cases q:H b with
 |none=>rfl
 |some x=>have n:b∈trk h H:=e8 fU (e8 bE<|ae l,by simp[q]);have z:c7 (Nl h H) b=n_:=W.hideAll_none (trk h H) n;rw[z]at e;cases e
noncomputable def Yp(g h:Heap)(L:Addr):Φ:=(bD h.objs.size).filterMap λa=>if a=L∨j3 (c7 g a)=t_ then n_ else (c7 h a).map λo=>%[a|o]
def tG(g h:Heap)(L d:Addr):Φ:=(Yp g h L).filter λp=>decide<|p.1≠d
noncomputable def Xd:List Str:=["least_round","rarest"]
def adp(K:Ζ)(o:Obj):Option<|Addr×Str:=match vr o with
 | .func fd=>if aBg Xd fd.name then (match fd.code with
  | ao c=>(match K.lookup c with
   |aK l=>(match vr l with
    | fT vs=>(match (vs[11]?:Υ)with
     |aK (ao P)=>aK %[P|fd.qualname ++ ".<locals>." ++ "<lambda>"]
     |_=>n_)
    |_=>n_)
   |n_=>n_)
  |_=>n_)else n_
 |_=>n_
def wD(K:Ζ):List<|Addr×Str:=K.filterMap λp=>adp K p.2
def YI(K:Ζ)(H:Hp):Prop:=∀q∈wD K,H q.1=aK (.tbl q.2)
structure Mod (K:Ζ)(mg:Str->Υ)(base:Heap):Prop where
 kin:K.In base
 glob:base.Ns kN mg
 blt:∃mb,base.Ns mH mb/\∀x:Str,x ≠ "__name__" -> mb x=mM x
 nolimit:base.NoLimit
 bmod:∃bm o,mg "__builtins__" = aK (.ref bm)/\bm≠mH/\base.get? bm=aK o/\o.cls = .type "module" /\ o.dict=aK mH/\o.data = .plain
structure Cx where
 prog:kJ
 w:kM
 K:Ζ
 mg:Str->Υ
 base:Heap
 A:Around
 N:List Str
 s₀:Shared
 H₀:Hp
 env:Env
 outer:List Env
 stack:List Env
 ex:Δ
 fn:Str->Bool
 calm:Bool
 pn:Φ
 xe:Ψ
open L2.Cx renaming prog->eT,env->iI,stack->we
noncomputable def Uj(l:List Env):Δ:=l.filterMap (·.frame)
abbrev Cx.fs(X:Cx):Δ:=Uj X.outer
def Vis(l:lX)(x:Str):Prop:=l.names.lookup x=aK kU∨l.names.lookup x=aK o6∨l.names.lookup x=aK p4
def Loc(l:lX)(x:Str):Prop:=l.names.lookup x=aK kU∨l.names.lookup x=aK o6
def afH(env:Env)(h:Heap)(m:Str->Υ)(x:Str)(u:Value):Prop:=(aAe env x=aK kU/\m x=aK u)∨((aAe env x=aK o6∨aAe env x=aK p4)/\∃c,env.cells.lookup x=aK c/\h.IsCell c (aK u))
structure Cx.Ok (X:Cx):Prop where
 mod:Mod X.K X.mg X.base
 kind:X.env.scope.kind = .function
 glob:X.env.globals=kN
 blt:X.env.builtins=mH
 above:X.s₀⁻¹<=X.env.locals
 inj:∀x y c,X.env.cells.lookup x=aK c->X.env.cells.lookup y=aK c->x=y
 has:∀x,(X.env.kindOf x=aK .cell∨X.env.kindOf x=aK .free)->∃c,X.env.cells.lookup x=aK c
 cab:∀x c,X.fn x=t_->X.env.cells.lookup x=aK c->X.s₀⁻¹<=c
 hd:X.calm=t_->X.A.handled=n_
 frames:X.A.frames=aK X.stack
 stk:X.stack=X.outer∨(X.stack=X.env::X.outer/\X.env.frame=aK X.env.locals)
 exf:∀b∈X.ex,b≠X.env.locals/\∀x c,X.env.cells.lookup x=aK c->c≠b
 bs:∀b o,X.base.get? b=aK o->X.s₀.heap.get? b=aK o/\X.H₀ b=n_
 bsz:X.base.objs.size<=X.s₀⁻¹
 noex:∀b o,X.base.get? b=aK o->b∉X.ex
 exfs:∀b∈X.ex,b∉X.fs
 funs:X.s₀.heap.FunFrames X.base X.outer
 frf:∀b∈X.fs,X.H₀ b=n_
 tb:YI X.K X.H₀
structure Inv (X:Cx)(oO:Φ)(σ:List<|Option V)(H:Hp)(s:Shared):Prop where
 ok:X.Ok
 os:s.os=X.s₀.os
 bare:nF s.gens
 base:Un X.fs X.ex X.H₀ H X.s₀.heap s.heap
 loc:∃m,s.heap.Ns X.env.locals m/\∀(i:Nat) (x:Str) (v:V),X.N[i]?=aK x->σ[i]?=aK (aK v)->Vis X.env.scope x->∃u,qW v u/\afH X.env s.heap m x u
 cell:∀x c,X.env.cells.lookup x=aK c->∃v,s.heap.IsCell c v
 free:H X.env.locals=n_
 freeC:∀x c,X.env.cells.lookup x=aK c->H c=n_
 pin:∀p∈X.pn++oO,s.heap.get? p.1=aK p.2/\H p.1=n_/\p.1≠X.env.locals/\p.1∉X.fs/\∀v,p.2.data ≠ .cell v
 hok:Dw X.prog X.w H s.heap
 len:σ.length=X.N.length
open L2.Inv renaming base->ql
section
variable {X:Cx}
def Cx.Ok.nofr(ok:X.Ok)(e:c7 X.base b=aK o):b∉X.fs:=λl=>by have:=(ok.funs.mem l).1;rw[e]at this;cases this
def Inv.bs(I:Inv X oO σ H s):∀b o,c7 X.base b=aK o->c7 (b7 s) b=aK o/\H b=n_:=λb o e=>(I.base.keep b o (I.ok.bs b o e).1 (I.ok.bs b o e).2 (I.ok.nofr e)<|I.ok.noex b o e,I.base.free b o (I.ok.bs b o e).1 (I.ok.bs b o e).2<|I.ok.noex b o e)
def Inv.bk(I:Inv X oO σ H s):∀b o,c7 X.base b=aK o->c7 (b7 s) b=aK o:=λb o e=>(I.bs b o e).1
def Inv.tb(I:Inv X oO σ H s):YI X.K H:=λq l=>I.base.tbls _ _<|I.ok.tb q l
def Inv.mod(I:Inv X oO σ H s):Mod X.K X.mg X.base:=I.ok.mod
def Inv.kIn(I:Inv X oO σ H s):X.K.In<|b7 s:=I.ok.mod.kin.keeps I.bk
def Inv.nolimit(I:Inv X oO σ H s):s.heap.NoLimit:=I.ok.mod.nolimit.keeps I.bk
def Inv.lt(I:Inv X oO σ H s):n6 (iI X)<s⁻¹:=let ⟨_,hn,_⟩:=I.loc;hn.lt
def Inv.sz(I:Inv X oO σ H s):X.s₀⁻¹<=s⁻¹:=bH I.ok.above<|bQ I.lt
def Inv.nofs(I:Inv X oO σ H s){a:Addr}(h:s⁻¹<=a):a∉X.fs:=λl=>by have(_,o,n,_):=I.ok.funs.mem l;show absurd (aT (ae n)<|bH I.sz h)<|cF _
def Inv.cne(I:Inv X oO σ H s):∀x c,X.env.cells.lookup x=aK c->c≠n6 (iI X):=λx c e z=>by have(v,o,r,hd):=I.cell x c e;have(m,(t,u,y,l,n,_),_):=I.loc;rw[z,l]at r;cases r;rw[n]at hd;cases hd
def Inv.funs(I:Inv X oO σ H s):aAz (b7 s) X.base X.outer:=by
 have all:∀l,(∀b∈Uj l,b∈X.fs)->aAz (b7 X.s₀) X.base l->aAz (b7 s) X.base l:=by intro l;induction l with
  |nil=>intro _ _;trivial
  |cons env r x=>
   intro u hl;have(hk,(L,o,hf,hn,y,hd),hr):=hl;have n:=u L<|by unfold Uj;rw[fG,hf];show ai
   have(B,e):=I.base.slot L o y (I.ok.frf L n) n λz=>I.ok.exfs L z n;show(hk,(L,_,hf,hn,e,hd),x (λb t=>u b<|by unfold Uj;rw[fG,hf];show mCo _ t) hr)
 show all X.outer (λQ t=>t) I.ok.funs
def Inv.stack(I:Inv X oO σ H s):aAz (b7 s) X.base<|we X:=by
 obtain e|⟨e,hf⟩:=I.ok.stk;.rw[e];show I.funs
 .rw[e];have(m,hn,_):=I.loc;show .cons (by rw[I.ok.kind];decide) hf hn ?_ I.funs;show Heap.get?_none_of_le<|bH I.ok.bsz I.ok.above
def Inv.stkSub(I:Inv X oO σ H s):∀b∈Uj<|we X,b∈n6 (iI X)::X.fs:=λb l=>by
 obtain e|⟨e,hf⟩:=I.ok.stk;.rw[e]at l;show mCo _ l
 .rw[e]at l;unfold Uj at l;rw[fG,hf]at l;show l
def Inv.stkFree(I:Inv X oO σ H s):∀b∈Uj<|we X,H b=n_:=λb l=>by
 obtain e|l:=ag.mp<|I.stkSub b l;.rw[e];show I.free
 .have(_,o,n,_):=I.ok.funs.mem l;show I.base.free b o n (I.ok.frf b l) λz=>I.ok.exfs b z l
def Inv.step{ch:Δ}(I:Inv X oO σ H s)
  (y:∀b∈ch,(b∈X.ex∨X.s₀⁻¹<=b)/\b≠n6 (iI X)/\(∀x c,X.env.cells.lookup x=aK c->c≠b)/\∀p∈X.pn++oO,p.1≠b)
  (keep:∀b o,b≠n6 (iI X)->b∉X.fs->b∉ch->c7 (b7 s) b=aK o->H b=n_->c7 h' b=aK o)
  (slot:∀b o,b≠n6 (iI X)->b∈X.fs->b∉ch->c7 (b7 s) b=aK o->H b=n_->∃sl,c7 h' b=aK { o with slots:=sl }) (free:∀b o,b∉ch->c7 (b7 s) b=aK o->H b=n_->H' b=n_)
  (there:∀b o,b∉ch->c7 (b7 s) b=aK o->∃M,c7 h' b=aK M)
  (tups:∀b xs,H b=aK (j6 xs)->H' b=aK (j6 xs)) (frzs:∀b o u,H b=aK (.frz o u)->H' b=aK (.frz o u)) (tbls:∀b q,H b=aK (.tbl q)->H' b=aK (.tbl q))
  (ns:∀m,s.heap.Ns (n6<|iI X) m->h'.Ns (n6<|iI X) m) (hok:Dw X.prog X.w H' h') (Y:nF g') :
  Inv X oO σ H' { s with heap:=h',gens:=g',drawn:=d',toks:=t' }:=by
 have O:∀b o,c7 (b7 X.s₀) b=aK o->b≠n6 (iI X):=λb o e=>ar<|aT (ae e) I.ok.above;have E:∀b o,c7 (b7 X.s₀) b=aK o->b∉X.ex->b∉ch:=λb o e t G=>by
  obtain z|z:=(y b G).1;.show t z
  .show absurd (aT (ae e) z)<|cF _
 have B:∀x c,X.env.cells.lookup x=aK c->∀v,s.heap.IsCell c v->h'.IsCell c v:=λx c e v ⟨o,L,hd⟩=>by
  have C:=λz=>(y c z).2.2.1 x c e rfl;by_cases R:c∈X.fs;.have(sl,q):=slot c o (I.cne x c e) R C L<|I.freeC x c e;show(_,q,hd)
  .show(o,keep c o (I.cne x c e) R C L<|I.freeC x c e,hd)
 show(I.ok,I.os,Y,(λb o e n G t=>?_,λb o e n G t=>?_,λb o e n t=>?_,λb o e t=>?_,λb xs e=>tups b xs<|I.base.tups b xs e,λb o xs e=>frzs b o xs<|I.base.frzs b o xs e,λb q e=>tbls b q<|I.base.tbls b q e),?_,λx c e=>?_,?_,λx c e=>?_,λp S=>?_,hok,I.len);.show keep b o (O b o e) G (E b o e t) (I.base.keep b o e n G t)<|I.base.free b o e n t
 .have(sl,J):=I.base.slot b o e n G t;have(P,Q):=slot b _ (O b o e) G (E b o e t) J<|I.base.free b o e n t;show(P,Q)
 .have(M,J):=I.base.there b o e t;show free b M (E b o e t) J<|I.base.free b o e n t
 .have(M,J):=I.base.there b o e t;show there b M (E b o e t) J
 .have(m,hn,hl):=I.loc;show(m,ns m hn,λi x v J Q e3=>?_);have(u,r,l):=hl i x v J Q e3;show(u,r,?_);obtain l|⟨k,c,e,z⟩:=l;.show jB l
  .show ir (k,c,e,B x c e _ z)
 .have(v,z):=I.cell x c e;show(v,B x c e v z)
 .have(m,(o,_,_,L,_),_):=I.loc;show free _ o (λz=>(y _ z).2.1 rfl) L I.free
 .have(v,o,L,hd):=I.cell x c e;show free c o (λz=>(y c z).2.2.1 x c e rfl) L<|I.freeC x c e
 .have(e,n,ne,U,d):=I.pin p S;have C:=λz=>(y p.1 z).2.2.2 p S rfl;show(keep p.1 p.2 ne U C e n,free p.1 p.2 C e n,ne,U,d)
def Inv.un(I:Inv X oO σ H s)(u:Un X.fs [] H H' s.heap h')(hok:Dw X.prog X.w H' h'):Inv X oO σ H' { s with heap:=h',toks:=t' }:=by have(m,(o,J,L,B,r),_):=id I.loc;have(M,C):=u.any B I.free ⋯;show I.step (ch:=[]) (λQ z=>nomatch z) (λb o Q t Q e n=>u.keep b o e n t ⋯) (λb o Q t Q e n=>u.slot b o e n t ⋯) (λb o Q e n=>u.free b o e n ⋯) (λb o Q e=>u.there b o e ⋯) u.tups u.frzs u.tbls (λO E=>by have(P,x,y,l,G):=E;rw[B]at l;cases l;show(_,x,y,C,G)) hok I.bare
def Inv.call(I:Inv X oO σ H s)(u:Un (Uj<|we X) ch H H' s.heap h')(hok:Dw X.prog X.w H' h')(J:nF g')
  (t:∀b∈ch,(b∈X.ex∨X.s₀⁻¹<=b)/\b≠n6 (iI X)/\(∀x c,X.env.cells.lookup x=aK c->c≠b)/\∀p∈X.pn++oO,p.1≠b) :
  Inv X oO σ H' { s with heap:=h',gens:=g',drawn:=d',toks:=t' }:=by have(m,(o,P,Q,G,r),_):=id I.loc;have(R,B):=u.any G I.free λz=>(t _ z).2.1 rfl;show I.step t (λb o B L l e n=>u.keep b o e n (λz=>(ag.mp<|I.stkSub b z).elim B L) l) (λb o Z Z l e n=>u.any e n l) (λb o l e n=>u.free b o e n l) (λb o l e=>u.there b o e l) u.tups u.frzs u.tbls (λS M=>by have(U,C,E,y,O):=M;rw[G]at y;cases y;show(_,C,E,B,O)) hok J
def Inv.turned(I:Inv X oO σ H s)(k:∀b o,b≠l->c7 (b7 s) b=aK o->c7 h' b=aK o)(hn:H l=n_)(B:l≠n6 (iI X))
  (h1:l∈X.ex∨X.s₀⁻¹<=l) (h2:∀x c,X.env.cells.lookup x=aK c->c≠l) (C:∀p∈X.pn++oO,p.1≠l):Inv X oO σ H { s with heap:=h',toks:=t' }:=by
 have y:∀b u,H b=aK u->b≠l:=λb u e z=>by rw[z,hn]at e;cases e
 show I.step (g':=s.gens) (d':=s.drawn) (ch:=[l]) (λb E=>?_) (λb o Q Q t e Q=>k b o (λz=>t<|by simp[z]) e) (λb o Q Q t e Q=>(aA6 o,k b o (λz=>t<|by simp[z]) e)) (λQ Q Q Q n=>n)
  (λb o t e=>(o,k b o (λz=>t<|by simp[z]) e)) (λQ Q e=>e) (λQ Q Q e=>e) (λQ Q e=>e) (λm G=>?_) (λb u e=>?_) I.bare
 .have e:b=l:=by simpa using E
  cases e;show(h1,B,h2,C)
 .have(o,J,L,M,r):=G;show(o,J,L,k _ o (h7 B) M,r)
 .show(I.hok b u e).stay (λc v t q=>k c v ?_ q) (λQ q=>q) (λQ Q q=>q) λQ Q q=>q;obtain z|z:=t;.rw[z];show y b u e
  .show y c _ z
def Inv.tok(I:Inv X oO σ H s)t:Inv X oO σ H { s with toks:=t }:=I.un Un.refl I.hok
def Inv.kept(I:Inv X oO σ H s)(k:∀b u,c7 (b7 s) b=aK u->c7 h' b=aK u):Inv X oO σ H { s with heap:=h',toks:=t' }:=I.un (Un.kept k)<|I.hok.kept k
def Inv.laid{a:Addr}(I:Inv X oO σ H s)(k:∀b u,c7 (b7 s) b=aK u->c7 h' b=aK u)(l:s⁻¹<=a)(new:tE X.prog X.w (rG H a o) h' a o) :
  Inv X oO σ (rG H a o) { s with heap:=h',toks:=t' }:=I.un (Un.laid k l<|I.hok.fresh l)<|I.hok.laid k l new
def Inv.write(I:Inv X oO σ H s)(mu:Mut<|H x)(n:e=x∨H e=aK (.own x))(k:∀b u,b≠e->c7 (b7 s) b=aK u->c7 h' b=aK u)(l:∃u,c7 h' e=aK u)
  (new:tE X.prog X.w (rG H x o) h' x o):Inv X oO σ (rG H x o) { s with heap:=h',toks:=t' }:=I.un (Un.write mu n k l)<|I.hok.write mu n k l new
def Inv.pins_of(I:Inv X oO σ H s)(h:∀p∈l,c7 (b7 s) p.1=aK p.2/\H p.1=n_/\p.1≠n6 (iI X)/\p.1∉X.fs/\∀v,vr p.2 ≠ n8 v):Inv X l σ H s:=(I.ok,I.os,I.bare,ql I,I.loc,I.cell,I.free,I.freeC,λp n=>(mAq.mp n).elim (λz=>I.pin p<|bw _ z)<|h p,I.hok,I.len)
def N7{N:List Str}(l:c9 N){i:Nat}(a:N[i]?=aK x)(b:N[j]?=aK x):i=j:=by have(h1,n):=gSq.mp a;have(h2,r):=gSq.mp b;show(List.getElem_inj l).mp<|eI n<|fQ r
def TN{E:Ψ}(I:Inv X oO σ H s)(hN:c9 X.N)(U:X.N[i]?=aK x)(G:Loc X.env.scope x)(r:qW v u)
  (h:∀s',Inv X oO (i8 σ i<|aK v) H s'->(∃a,cP a s.heap s'.heap/\(a=n6 (iI X)∨X.env.cells.lookup x=aK a))->Q () s') (hf:↥(X.fn x=t_∨X.env.scope.names.lookup x=aK kU)):kE M A (storeName X.env x u) Q E s:=by
 have(m,hn,hl):=id I.loc;have Y:(X.env.scope.kind == .class || (X.env.scope.kind == .module && n6 (iI X) != X.env.globals))=f_:=by rw[I.ok.kind];rfl
 have O:i<aX σ:=by rw[I.len];show(gSq.mp U).1
 have cne:=I.cne;have t:∀{a:Addr}{h':Heap},(∃o,c7 (b7 s) a=aK o/\H a=n_)->cP a s.heap h'->Dw X.prog X.w H h':=λ{a h'} ha l b ob e=>by
  have(_,_,J):=ha;show(I.hok b ob e).stay (λc w' C q=>eI (l.2 c ?_) q) (λZ q=>q) (λZ Z q=>q) λZ Z q=>q;rintro rfl;obtain rfl|C:=C;.rw[J]at e;cases e
  .rw[J]at C;cases C
 obtain hk|hk:=G
 .show wpAny_storeName_local hk hn (λh' hn' l=>?_) Y;have(oL,_,_,hoL,_):=id hn;show h _ (I.ok,I.os,I.bare,(λb o e n P G=>?_,λb o e n P G=>?_,I.base.free,λb o e G=>?_,I.base.tups,I.base.frzs,I.base.tbls),(_,hn',λj y v' B L e3=>?_),λy c e=>?_,I.free,I.freeC,λp hp=>?_,t (oL,hoL,I.free) l,by simpa using I.len) (_,l,jB rfl);.show(eI<|l.2 b<|ar<|aT (ae e) I.ok.above)<|I.base.keep b o e n P G
  .have(sl,B):=I.base.slot b o e n P G;show(sl,eI (l.2 b<|ar<|aT (ae e) I.ok.above) B)
  .have(o',B):=I.base.there b o e G;show(o',eI (l.2 b<|ar<|aT (ae e) I.ok.above) B)
  .by_cases R:j=i;.subst R;rw[U]at B;cases B;rw[aV O]at L;cases L;show(u,r,jB (hk,by simp))
   .rw[aJ<|h7 R]at L;have(u',r',q):=hl j y v' B L e3;show(u',r',?_);obtain⟨k,e⟩|⟨k,c,e,z⟩:=q;.show jB (k,?_);have:y≠x:=λe=>R<|N7 hN B<|e ▸ U;simp[this,e]
    .show ir (k,c,e,z.sameBut l<|cne y c e)
  .have(w',z):=I.cell y c e;show(w',z.sameBut l<|cne y c e)
  .have(e,n,ne,nf,d):=I.pin p hp;show(eI (l.2 p.1 ne) e,n,ne,nf,d)
 .have S:X.fn x=t_:=by
   obtain z|z:=hf;.show z
   .rw[z]at hk;cases hk
  have(c,C):=I.ok.has x<|jB hk;have(w',z):=I.cell x c C;show wpAny_storeName_cell I.ok.kind hk C z<|λh' hc' l=>?_;have(oc,hoc,hocd):=id z;show h { s with heap:=h' } (I.ok,I.os,I.bare,(λb o e n P G=>?_,λb o e n P G=>?_,I.base.free,λb o e G=>?_,I.base.tups,I.base.frzs,I.base.tbls),(m,hn.sameBut l<|h7<|cne x c C,λj y v' B L e3=>?_),λy c' e=>?_,I.free,I.freeC,λp hp=>?_,t (oc,hoc,I.freeC x c C) l,by simpa using I.len) (c,l,ir C);.show(eI<|l.2 b<|ar<|aT (ae e)<|I.ok.cab x c S C)<|I.base.keep b o e n P G
  .have(sl,B):=I.base.slot b o e n P G;show(sl,eI (l.2 b<|ar<|aT (ae e)<|I.ok.cab x c S C) B)
  .have(o',B):=I.base.there b o e G;show(o',eI (l.2 b<|ar<|aT (ae e)<|I.ok.cab x c S C) B)
  .by_cases R:j=i;.subst R;rw[U]at B;cases B;rw[aV O]at L;cases L;show(u,r,ir (jB hk,c,C,hc'))
   .rw[aJ<|h7 R]at L;have(u',r',q):=hl j y v' B L e3;show(u',r',?_);obtain q|⟨k,c',e,z'⟩:=q;.show jB q
    .show ir (k,c',e,z'.sameBut l ?_);rintro rfl;show R<|N7 hN B<|I.ok.inj _ _ _ e C ▸ U
  .by_cases hcc:c'=c;.subst hcc;show(_,hc')
   .have(w2,z2):=I.cell y c' e;show(w2,z2.sameBut l hcc)
  .have(e,n,ne,nf,d):=I.pin p hp;show(eI (l.2 p.1 ?_) e,n,ne,nf,d);intro q;rw[q,hoc]at e;have q':=aK.inj e;show d w'<|by rw[←q'];show hocd
def Hn{E:Ψ}(I:Inv X oO σ H s)(n:c9 X.N)(t:X.N[i]?=aK x)(y:Loc X.env.scope x)(r:qW v u)
  (h:∀l,Inv X oO (i8 σ i<|aK v) H l->Q () l) (hf:↥(X.fn x=t_∨X.env.scope.names.lookup x=aK kU)):kE M A (storeName X.env x u) Q E s:=TN I n t y r (λl z Z=>h l z) hf
def Inv.call'(I:Inv X oO σ H s)(r:l.os=s.os)(u:Un (Uj<|we X) ch H H' s.heap<|b7 l)(hok:Dw X.prog X.w H'<|b7 l)(t:nF l.gens)
  (n:∀b∈ch,(b∈X.ex∨X.s₀⁻¹<=b)/\b≠n6 (iI X)/\(∀x c,X.env.cells.lookup x=aK c->c≠b)/\∀p∈X.pn++oO,p.1≠b):Inv X oO σ H' l:=by have(h',y,z,B,C):=l;have e:=r;subst e;show I.call u hok t n
end
abbrev XK:=Value->Option Addr->Hp->Prop
abbrev St:=List<|Option V
abbrev VK:=V->Hp->Prop
abbrev TE:=St->Hp->VK->Prop
abbrev TT:=St->Hp->(Bool->Hp->Prop)->Prop
abbrev TA:=St->Hp->(List V->Hp->Prop)->Prop
structure BD where
 nx:St->Hp->Prop
 rt:VK
 bk:St->Hp->Prop:=λQ Q=>False
 ct:St->Hp->Prop:=λQ Q=>False
abbrev TS:=BD->St->Hp->Prop
def EP(X:Cx)(n:Φ)(σ:St)(Q:VK)(u:Value)(r:Shared):Prop:=∃v l,Inv X n σ l r/\qW v u/\Q v l
def TP(X:Cx)(n:Φ)(σ:St)(Q:Bool->Hp->Prop)(b:Bool)(r:Shared):Prop:=∃l,Inv X n σ l r/\Q b l
def AP(X:Cx)(n:Φ)(σ:St)(Q:List V->Hp->Prop)(us:Ξ)(r:Shared):Prop:=∃vs l,Inv X n σ l r/\qr vs us/\Q vs l
def SP(X:Cx)(r:Φ)(D:BD)(f:Flow)(s:Shared):Prop:=match f with
 | aB0=>∃l n,Inv X r l n s/\D.nx l n
 | .brk=>∃l n,Inv X r l n s/\D.bk l n
 | .cont=>∃l n,Inv X r l n s/\D.ct l n
 | pG u=>∃v l n,Inv X r l n s/\qW v u/\D.rt v n
def PE(X:Cx)(e:Expr)(t:TE):Prop:=∀l s (σ:St) H Q,Inv X l σ H s->t σ H Q->kE (kG X.prog X.w) X.A (eval e<|iI X) (EP X l σ Q) X.xe s
def PT(X:Cx)(e:Expr)(t:TT):Prop:=∀l s (σ:St) H Q,Inv X l σ H s->t σ H Q->kE (kG X.prog X.w) X.A (isTrue e X.env<|eval e<|iI X) (TP X l σ Q) X.xe s
def PW(X:Cx)(e:Expr)(t:TT):Prop:=∀l n s (σ:St) H Q,Inv X n σ H s->t σ H Q->kE (kG X.prog X.w) X.A (isTrue e X.env l) (TP X n σ Q) X.xe s
def PW.pt(h:PW X e t):PT X e t:=h _
def PA(X:Cx)(es:List Expr)(t:TA):Prop:=∀pos l s (σ:St) H Q,Inv X l σ H s->t σ H Q->kE (kG X.prog X.w) X.A (spliced<|mE pos<|kO es<|iI X) (AP X l σ Q) X.xe s
def PS(X:Cx)(st:Stmt)(t:TS):Prop:=∀l s (σ:St) H D,Inv X l σ H s->t D σ H->kE (kG X.prog X.w) X.A (exec st<|iI X) (SP X l D) X.xe s
def LN(X:Cx)(st:List Stmt)(t:TS):Prop:=∀l s (σ:St) H D,Inv X l σ H s->t D σ H->kE (kG X.prog X.w) X.A (execs st<|iI X) (SP X l D) X.xe s
def ua{t:Sem α}{Q l}{E:Ψ}(h:kE M A t Q E s)(n:∀a s,Q a s->l a s):kE M A t l E s:=lj h n λZ Z x=>x
section
def Ax(i:Nat):TE:=λσ H Q=>∃v,σ[i]?=aK (aK v)/\Q v H
def tC(v:V):TE:=λZ H Q=>Q v H
def acx(z:X.N[i]?=aK x)(B:Vis X.env.scope x)(hd:⇑((x == ("__debug__" : Str))=f_))(t:⇑((x == ("__classdict__" : Str))=f_)):PE X (g9 x pos)<|Ax i:=by
 intro C s σ H Q I h;have(v,e,h):=h;have(m,hn,hl):=I.loc;have(u,r,l):=hl i x v z e B;have fin:EP X C σ Q u s:=(v,H,I,r,h);obtain⟨hk,E⟩|⟨hk,c,y,n⟩:=l;.show wpAny_Name (ac6 I.ok.kind hk hn E fin) hd
 .obtain hk|hk:=hk;.show wpAny_Name (adI I.ok.kind hk y n fin) hd
  .show wpAny_Name (wpAny_loadName_free I.ok.kind hk y n fin t) hd
def oW:PE X (aAa (.int i) j pos)<|tC<|c8 i:=λQ Q Q H Q I h=>wpAny_Constant_int (c8 i,H,I.tok _,(_,rfl),h)
def zx:PE X (aAa (.bool b) j pos)<|tC<|lR b:=λQ Q Q H Q I h=>Constant_bool (lR b,H,I,rfl,h)
def E5:PE X (aAa .none j pos)<|tC pd:=λQ Q Q H Q I h=>Constant_none (pd,H,I,rfl,h)
def aa4:PE X (aAa (.str x) j pos)<|tC<|y9 x:=λQ Q Q H Q I h=>Calls.Constant_str (y9 x,H,I.tok _,(_,rfl),h)
def Gl(X:Cx)(x:Str):Prop:=aAe (iI X) x=aK .globalImplicit
def Rb{E:Ψ}{σ:St}{Q:Ψ}(I:Inv X l σ H s)(n:Gl X x)(r:X.mg x=aK u)(h:Q u s)
  (hd:⇑((x == ("__debug__" : Str))=f_)):kE (kG X.prog X.w) X.A (eval (g9 x pos)<|iI X) Q E s:=zb I.ok.kind n (Calls.loadGlobal_global (by rw[I.ok.glob];show I.mod.glob.keeps I.bk) r h) hd
def wX{E:Ψ}{σ:St}{Q:Ψ}(I:Inv X l σ H s)(n:Gl X x)(r:X.mg x=n_)(t:mM x=aK u)(h:Q u s)
  (hn:⇑(x ≠ "__name__")) (hd:⇑((x == ("__debug__" : Str))=f_)):kE (kG X.prog X.w) X.A (eval (g9 x pos)<|iI X) Q E s:=by have(y,h1,h2):=I.mod.blt;show zb I.ok.kind n (Calls.loadGlobal_builtin (by rw[I.ok.glob];show I.mod.glob.keeps I.bk) r (by rw[I.ok.blt];show h1.keeps I.bk) (eI (h2 x hn) t) h) hd
def Kw(l:Gl X x)(n:X.mg x=n_)(s:mM x=aK u)(r:qW v u)(hn:⇑(x ≠ "__name__"))(hd:⇑((x == ("__debug__" : Str))=f_)):PE X (g9 x pos)<|tC v:=λQ Q Q H Q I h=>wX I l n s (v,H,I,r,h) hn hd
def PC(X:Cx)(op:CmpOp)(a b:Expr)(t:TE):Prop:=∀r s (σ:St) H Q,Inv X r σ H s->t σ H Q ->
  kE (kG X.prog X.w) X.A (eval a<|iI X) (λv l=>kE (kG X.prog X.w) X.A (eval b<|iI X) (λu n=>kE (kG X.prog X.w) X.A (lV op v u) (EP X r σ Q) X.xe n) X.xe l) X.xe s
def tB(t:TE):TT:=λσ H Q=>t σ H λx l=>∃c,x = lR c/\Q c l
def Dg(h:PC X op a b t)(h1:mS op b=f_:=by first|show l _ ⋯ ⋯|rfl):PT X (T2 a [op] [b] pos)<|tB t:=by intro r s σ H Q I hw;show oJ (ua (h r s σ H _ I hw) λv E h1=>ua h1 λu G h2=>ua h2 λc J n=>?_) h1;have(x,y,z,B,C):=n;have(d,rfl,q):=C;cases B;show lJ (y,z,q)
def BH(h:PE X e t)(r:∀l,isTrue e X.env l=(do let v ←l;standAt e.pos;aeU [v] (truthy v)):=by intro _;rfl):PT X e<|tB t:=by intro u s σ H Q I hw;show isTrue_plain (ua (h u s σ H _ I hw) λv E n=>?_)<|r _;have(x,y,z,B,C):=n;have(d,rfl,q):=C;cases B;show lJ (y,z,q)
variable {tG:List Expr}
def ad1(t u:TT):TT:=λσ H Q=>t σ H λc l=>if c=t_ then u σ l Q else Q f_ l
def tOr(t u:TT):TT:=λσ H Q=>t σ H λc l=>if c=t_ then Q t_ l else u σ l Q
def ae8(t:TT):TT:=λσ H Q=>t σ H λc l=>Q (!c) l
def Ge(ha:PT X a tA):PW X (r8 .And [a] pos) tA:=by intro n l s σ H Q I h;show isTrue_and<|ua (ha l s σ H Q I h) λc r e=>?_;cases c with
 |true=>show isTrue_and_nil e
 |false=>show e
def BR(ha:PT X a tA):PW X (r8 .Or [a] pos) tA:=by intro n l s σ H Q I h;show isTrue_or<|ua (ha l s σ H Q I h) λc r e=>?_;cases c with
 |false=>show isTrue_or_nil e
 |true=>show e
def J7(ha:PT X a tA)(x:PW X (r8 .And (b::tG) pos) tB'):PW X (r8 .And (a::b::tG) pos)<|ad1 tA tB':=by intro y n s σ H Q I h;show isTrue_and<|ua (ha n s σ H _ I h) λc z l=>?_;have(r,t,u):=l;cases c with
 |true=>show x y n z σ r Q t u
 |false=>show(r,t,u)
def C3(ha:PT X a tA)(x:PW X (r8 .Or (b::tG) pos) tB'):PW X (r8 .Or (a::b::tG) pos)<|tOr tA tB':=by intro y n s σ H Q I h;show isTrue_or<|ua (ha n s σ H _ I h) λc z l=>?_;have(r,t,u):=l;cases c with
 |true=>show(r,t,u)
 |false=>show x y n z σ r Q t u
def Dh(ha:PT X a tA):PT X (.UnaryOp .Not a pos)<|ae8 tA:=by intro l s σ H Q I h;show isTrue_not<|ha l s σ H (λc n=>Q (!c) n) I h
def aam(ta tb:TE):TE:=λσ H Q=>ta σ H λx l=>∃c,x = lR c/\if c=t_ then tb σ l Q else Q (lR f_) l
def aal(ta:TE):TE:=λσ H Q=>ta σ H λx l=>∃c,x = lR c/\Q (lR<|!c) l
def P3(h:PE X a t):PE X (r8 op [a] pos) t:=λl s σ H Q I hw=>BoolOp_one<|h l s σ H Q I hw
def OS(ha:PE X a ta)(y:PE X (r8 .And (b::tG) pos) tb):PE X (r8 .And (a::b::tG) pos)<|aam ta tb:=by intro r s σ H Q I h;show BoolOp_and<|ua (ha r s σ H _ I h) λv z n=>?_;have(x,t,u,B,l):=n;have(c,rfl,l):=l;cases B;show lJ ?_;cases c with
 |true=>show y r z σ t Q u l
 |false=>show(lR f_,t,u,rfl,l)
def acF(ha:PE X a ta):PE X (.UnaryOp .Not a pos)<|aal ta:=by intro r s σ H Q I h;show UnaryOp_<|ua (ha r s σ H _ I h) λv z l=>?_;have(x,t,u,y,n):=l;have(c,rfl,n):=n;cases y;show not_of<|lJ (lR<|!c,t,u,rfl,n)
def tIf(t:TT)(ta tb:TE):TE:=λσ H Q=>t σ H λc l=>if c=t_ then ta σ l Q else tb σ l Q
def WQ(y:PT X c tA)(ha:PE X a ta)(z:PE X b tb):PE X (.IfExp c a b pos)<|tIf tA ta tb:=by intro l s σ H Q I h;show wpAny_IfExp<|ua (y l s σ H _ I h) λd r n=>?_;have(t,u,x):=n;cases d with
 |true=>show ha l r σ t Q u x
 |false=>show z l r σ t Q u x
end
def sN(K:Ζ)(H:Hp)(a:Addr)(xs:List V):Prop:=Rd H a (.lst xs) ∨
  ∃(o:Obj) (l:Ω) (n:Nat),K.lookup a=aK o/\o.cls = iD "list" /\ o.dict=n_/\vr o = k6 l n/\l.size<=kK/\qr xs (km l)
def zd(K:Ζ)(H:Hp)(a:Addr)(xs:List V):Prop:=Rd H a (j6 xs) ∨
  ∃(o:Obj) (l:Ω) (n:Nat),K.lookup a=aK o/\o.cls = iD "tuple" /\ vr o = k6 l n/\l.size<=kK/\qr xs (km l)
noncomputable def agi:Value->Option V
 | gX=>aK pd
 | eF b=>aK<|lR b
 | iT i _=>aK<|c8 i
 | BI x _=>aK<|y9 x
 | .bytes b _=>aK<|.byt b
 | .float b _=>aK<|.flt b
 | ao a=>aK<|cx a
 | iD n=>aK<|.ty n
 |_=>n_
def qW.abs(r:qW x u):agi u=aK x:=by cases x with
 |non=>cases r;rfl
 |bl _=>cases r;rfl
 |int _=>have(t,rfl):=r;rfl
 |str _=>have(t,rfl):=r;rfl
 |byt _=>have(t,rfl):=r;rfl
 |flt _=>have(t,rfl):=r;rfl
 |ref _=>cases r;rfl
 |ty _=>cases r;rfl
def qW.inj(r:qW x u)(q:qW y u):x=y:=aK.inj<|eI (fQ r.abs) q.abs
theorem qr.inj:∀{xs ys}{us},qr xs us->qr ys us->xs=ys
 |_,_,_,j8,j8=>rfl
 |_,_,_,hL r t,hL l n=>by rw[r.inj l,qr.inj t n]
section
variable {σ:St}
def sN.of{K}(h:H a=aK (.lst xs)):sN K H a xs:=jB<|jB h
def zd.of{K}(h:H a=aK (j6 xs)):zd K H a xs:=jB<|jB h
def Inv.list(I:Inv X oO σ H s)(h:sN X.K H a xs):∃l:Ξ,qr xs l/\PlainL s.heap a (b9 l)/\aX xs<=kK:=by
 obtain h|⟨o,l,n,hk,t,hd,u,x,r⟩:=h;.have(z,l,n,r,e):=h.ok I.hok;show(l,r,(_,n,e,rfl,rfl,rfl),z)
 .show(km l,r,(o,n,I.kIn a o hk,t,hd,by show u),?_);have e:=iL r;simp?[dJ]at e;ac_nf
def Inv.tuple(I:Inv X oO σ H s)(h:zd X.K H a xs):∃l:Ξ,qr xs l/\IsTup s.heap a (b9 l)/\aX xs<=kK:=by
 obtain h|⟨o,l,n,hk,t,u,x,r⟩:=h;.have(z,l,r,p):=h.ok I.hok;show(l,r,p,z)
 .show(km l,r,(o,I.kIn a o hk,t,n,by show u),?_);have e:=iL r;simp?[dJ]at e;ac_nf
def Inv.list_inj(I:Inv X oO σ H s)(h:sN X.K H a xs)(y:sN X.K H a ys):xs=ys:=by
 have(t,r,(o,n,e,_,_,d),_):=I.list h;have(l,z,(B,C,u,_,_,x),_):=I.list y;rw[e]at u;cases u;rw[d]at x;injection x with d1 _;have:t=l:=by show congrArg km d1
 subst this;show r.inj z
def Inv.tuple_inj(I:Inv X oO σ H s)(h:zd X.K H a xs)(y:zd X.K H a ys):xs=ys:=by
 have(t,r,(o,e,_,n,d),_):=I.tuple h;have(l,z,(B,u,_,C,x),_):=I.tuple y;rw[e]at u;cases u;rw[d]at x;injection x with d1 _;have:t=l:=by show congrArg km d1
 subst this;show r.inj z
end
noncomputable abbrev Cx.wish(X:Cx)(E:Ψ):Cx:={ X with xe:=E }
abbrev Cx.nox(X:Cx):Cx:=X.wish λQ Q=>False
def Cx.Ok.wish{X:Cx}(ok:X.Ok)E:(X.wish E).Ok:=(ok.mod,ok.kind,ok.glob,ok.blt,ok.above,ok.inj,ok.has,ok.cab,ok.hd,ok.frames,ok.stk,ok.exf,ok.bs,ok.bsz,ok.noex,ok.exfs,ok.funs,ok.frf,ok.tb)
def Cx.Ok.unwish{X:Cx}(ok:(X.wish E).Ok):X.Ok:=(ok.mod,ok.kind,ok.glob,ok.blt,ok.above,ok.inj,ok.has,ok.cab,ok.hd,ok.frames,ok.stk,ok.exf,ok.bs,ok.bsz,ok.noex,ok.exfs,ok.funs,ok.frf,ok.tb)
section
variable {σ:St}
def Inv.wish(I:Inv X oO σ H s)E:Inv (X.wish E) oO σ H s:=(I.ok.wish E,I.os,I.bare,I.base,I.loc,I.cell,I.free,I.freeC,I.pin,I.hok,I.len)
def Inv.unwish(I:Inv (X.wish E) oO σ H s):Inv X oO σ H s:=(I.ok.unwish,I.os,I.bare,I.base,I.loc,I.cell,I.free,I.freeC,I.pin,I.hok,I.len)
def SP.unwish(h:SP (X.wish E) oO D f t):SP X oO D f t:=by cases f with
 |next=>have(l,n,I,q):=h;show(l,n,I.unwish,q)
 |brk=>have(l,n,I,q):=h;show(l,n,I.unwish,q)
 |cont=>have(l,n,I,q):=h;show(l,n,I.unwish,q)
 |ret u=>have(v,l,n,I,r,q):=h;show(v,l,n,I.unwish,r,q)
def LN.nox{st}(h:LN X.nox st t):LN X st t:=λoO s σ H D I hw=>lj (h oO s σ H D (I.wish _) hw) (λQ Q q=>q.unwish) λQ Q z=>hD z
end
section
variable {st:Stmt}{tG:List Stmt}
def aac:TS:=λD σ H=>D.nx σ H
def U4(t u:TS):TS:=λD σ H=>t { D with nx:=u D } σ H
def qU:LN X [] aac:=λQ Q σ H Q I h=>nH (σ,H,I,h)
def oT(h1:PS X st t)(h2:LN X tG u):LN X (st::tG)<|U4 t u:=by intro n s σ H D I h;show wpAny_execs_cons<|ua (h1 n s σ H { D with nx:=u D } I h) λf r q=>?_;cases f with
 |next=>have(l,x,y,q):=q;show h2 n r l x D y q
 |ret v=>show q
 |brk=>show q
 |cont=>show q
def pB(h1:PS X st t):LN X [st] t:=by intro l s σ H D I h;show wpAny_execs_cons<|ua (h1 l s σ H D I h) λf n q=>?_;cases f with
 |next=>show nH q
 |ret v=>show q
 |brk=>show q
 |cont=>show q
def Inv.quiet{σ:St}(I:Inv X l σ H s):interactive X.env=f_:=by simp[interactive,I.ok.kind]
def CM(te:TE):TS:=λD σ H=>te σ H λQ l=>D.nx σ l
def sv(n:PE X e te)(r:↑(oz e n_ pos.line X.env=pure f_)):PS X (.Expr e pos)<|CM te:=by intro y s σ H D I h;show wpAny_Expr_any (ua (n y s σ H _ I h) λv E l=>?_) I.quiet r;have(x,z,B,G,C):=l;show(σ,z,B,C)
def aeo(te:TE):TS:=λD σ H=>te σ H D.rt
def qT(n:PE X e te):PS X (.Return (aK e) pos)<|aeo te:=by intro r s σ H D I h;show wpAny_Return_some<|ua (n r s σ H _ I h) λv E l=>?_;have(x,y,z,B,C):=l;show(x,σ,y,z,B,C)
def Y6(c:TT)(t u:TS):TS:=λD σ H=>c σ H λb l=>if b=t_ then t D σ l else u D σ l
def tS(B:PT X c tc)(ha:LN X a t)(C:LN X b u):PS X (.If c a b pos)<|Y6 tc t u:=by intro l s σ H D I h;show wpAny_If<|ua (B l s σ H _ I h) λd r n=>?_;have(x,y,z):=n;cases d with
 |true=>show ha l r σ x D y z
 |false=>show C l r σ x D y z
def V0:TS:=λQ Q Q=>False
def MV:PS X st V0:=λQ Q Q Q Q Q h=>hD h
end
abbrev TG:=V->St->Hp->(St->Hp->Prop)->Prop
abbrev TGs:=List V->St->Hp->(St->Hp->Prop)->Prop
def PG(X:Cx)(l:Expr)(t:TG):Prop:=∀r s (σ:St) H v u Q,Inv X r σ H s->qW v u->t v σ H Q ->
  kE (kG X.prog X.w) X.A (acj l X.env u) (λZ y=>∃n x,Inv X r n x y/\Q n x) X.xe s
def PGs(X:Cx)(u:List Expr)(t:TGs):Prop:=∀n s (σ:St) H vs us Q,Inv X n σ H s->qr vs us->t vs σ H Q ->
  kE (kG X.prog X.w) X.A (assignInOrder ((nJ u<|iI X).map (·.2)) us) (λZ x=>∃l r,Inv X n l r x/\Q l r) X.xe s
abbrev TIp:=V->V->Hp->VK->Prop
def PIp(X:Cx)(op:Operator)(t:TIp):Prop:=∀l s (σ:St) H x y v u Q,Inv X l σ H s->qW x v->qW y u->t x y H Q ->
  kE (kG X.prog X.w) X.A (inplaceOp op v u) (EP X l σ Q) X.xe s
def uv(i:Nat):TG:=λv σ H Q=>Q (i8 σ i<|aK v) H
def KN(l:c9 X.N)(n:X.N[i]?=aK x)(t:Loc X.env.scope x)(hf:↥(X.fn x=t_∨X.env.scope.names.lookup x=aK kU)):PG X (g9 x pos)<|uv i:=by intro z s σ H v u Q I r h;show wpAny_assign_Name<|Hn I l n t r (λB y=>(_,H,y,h)) hf
def OF:TGs:=λvs σ H Q=>vs=[]/\Q σ H
def Bg(t:TG)(u:TGs):TGs:=λvs σ H Q=>∃v r,vs=v::r/\t v σ H λl n=>u r l n Q
def Gq:PGs X [] OF:=by intro l s σ H n t Q I r h;have(e,h):=h;show assignInOrder_nil (σ,H,I,h)
def yr(h1:PG X e t)(h2:PGs X es u)
  (y:↑((nJ (e::es)<|iI X).map (·.2)=acj e X.env::(nJ es<|iI X).map (·.2))):PGs X (e::es)<|Bg t u:=by intro x s σ H L M Q I r h;have(v,O,z,h):=h;subst z;cases r with
 |cons r B=>rw[y];show assignInOrder_cons<|ua (h1 x s σ H _ _ _ I r h) λZ C l=>?_;have(n,E,G,J):=l;show h2 x C n E _ _ Q G B J
def OW(K:Ζ)(n:Nat)(t:TGs):TG:=λv σ H Q=>∃a xs,v = cx a/\zd K H a xs/\aX xs=n/\t xs σ H Q
def Lw(z:X.calm=t_)(h:PGs X es t)
  (hn:↑(aX (nJ es<|iI X)=n)) (l:↑((nJ es<|iI X).findIdx? (·.1)=n_)):PG X (aAg es k pos)<|OW X.K n t:=by intro x s σ H v u Q I r hw;have(a,B,C,E,hl,hw):=hw;subst C;cases r;have(G,y,ht,O):=I.tuple E;show assign_Tuple_tuple (I.ok.hd z) ht (by simp[hn,←hl,iL y]) l λJ L=>?_;have M:Inv X x σ H { s with heap:=J }:=I.kept λb o e=>L b o (ar<|ae e) e;show h x _ σ H B _ Q M (by show y) hw
def Hk(te:TE)(g:TG):TS:=λD σ H=>te σ H λx l=>g x σ l D.nx
def ac3(t:PE X e te)(u:PG X l g)(y:↑(swapsWithSole [l] e pos.line X.env=pure f_))(hw:↑(swappedStores [l] e X.env=pure n_))
  (h1:↑((nJ [l]<|iI X).map (·.2)=[acj l<|iI X])):PS X (aAh [l] e pos)<|Hk te g:=by intro r s σ H D I h;show wpAny_Assign_stores (ua (t r s σ H _ I h) λv z n=>?_) y hw;have(x,B,C,E,G):=n;rw[h1];show ua (u r z σ B x v _ C E G) λQ J q=>q
def aa6(r:c9 X.N)(t:X.N[i]?=aK x)(u:Loc X.env.scope x)(z:PE X e te)(B:↑(oz e (aK<|g9 x l) pos.line X.env=pure f_))(hf:↥(X.fn x=t_∨X.env.scope.names.lookup x=aK kU)) :
  PS X (aAh [g9 x l] e pos)<|Hk te<|uv i:=by intro C s σ H D I h;show wpAny_Assign_Name (ua (z C s σ H _ I h) λv O n=>?_) B;have(y,E,G,J,L):=n;show Hn G r t u J (λP M=>(_,E,M,L)) hf
def aef(i:Nat)(te:TE)(ti:TIp):TS:=λD σ H=>∃x,σ[i]?=aK (aK x)/\te σ H λy l=>ti x y l λz n=>D.nx (i8 σ i<|aK z) n
def Ke(M:c9 X.N)(L:X.N[i]?=aK x)(G:Loc X.env.scope x)(O:PE X e te)(P:PIp X op ti)(hf:↥(X.fn x=t_∨X.env.scope.names.lookup x=aK kU)) :
  PS X (.AugAssign (g9 x B) op e pos)<|aef i te ti:=by
 intro J s σ H D I h;have(v,Q,h):=h;have(m,hn,hl):=I.loc;have vis:Vis X.env.scope x:=by obtain k|k:=G;show jB k;show ir<|jB k
 have(u,r,l):=hl i x v L Q vis;show wpAny_AugAssign_Name ?_;have go:kE (kG X.prog X.w) X.A (eval e<|iI X) (λw C=>kE (kG X.prog X.w) X.A (inplaceOp op u w) (λr E=>kE (kG X.prog X.w) X.A (storeName X.env x r) (λZ=>SP X J D aB0) X.xe E) X.xe C) X.xe s:=by show ua (O J s σ H _ I h) λw R n=>?_;have(y,S,U,Y,q1):=n;show ua (P J R σ S v y u w _ U r Y q1) λz s2 n=>?_;have(zv,H2,I2,r2,q2):=n;show Hn I2 M L G r2 (λs3 I3=>(_,H2,I3,q2)) hf
 obtain⟨hk,hm⟩|⟨hk,c,hc,t⟩:=l;.show ac6 I.ok.kind hk hn hm go
 .obtain hk|hk:=hk;.show adI I.ok.kind hk hc t go
  .obtain k|k:=G;.have:X.env.scope.names.lookup x=aK p4:=hk;rw[k]at this;cases this
   .have:X.env.scope.names.lookup x=aK p4:=hk;rw[k]at this;cases this
def ipI(f:Int->Int->Int):TIp:=λx y H Q=>∃i j,x = c8 i/\y = c8 j/\Q (c8<|f i j) H
def LB:PIp X .Add<|ipI λi j=>i+j:=by intro B s σ H x y v u Q I l n h;have(i,j,r,z,q):=h;subst r;subst z;have(t,rfl):=l;have(C,rfl):=n;show iadd_int (c8 _,H,I.tok _,(_,rfl),q)
def UR(c:TT)(tb:TS):TS:=λD σ H=>∃W:Nat->St->Hp->Prop,(∃m,W m σ H)/\∀m σ H,W m σ H ->
 c σ H λb n=>if b=t_ then ∃N:St->Hp->Prop,(∀l r,N l r->∃s,s<m/\W s l r)/\tb { D with nx:=N,ct:=N,bk:=D.nx } σ n else D.nx σ n
def Bo(M:PassesOwn (kG X.prog X.w) X.A X.env X.xe)(U:PT X c tc)(Y:LN X body tb):PS X (.While c body [] pos)<|UR tc tb:=by intro z s σ H D I h;have(W,(m0,w0),turn):=h;show wpAny_While<|codeAny_whileLoop (λn s'=>∃t O,Inv X z t O s'/\W n t O) ?_ m0 (σ,H,I,w0);rintro n s1 ⟨r,P,I1,w1⟩;show mB M<|ua (U z s1 r P _ I1<|turn n r P w1) λb s2 B=>?_;have(Q,R,x):=B;cases b with
 |true=>have(N,S,x):=x;show mB M<|ua (Y z s2 r Q _ R x) λf s3 y=>?_;cases f with
  |next=>have(l,u,C,E):=y;have(G,J,L):=S l u E;show(G,J,l,u,C,L)
  |cont=>have(l,u,C,E):=y;have(G,J,L):=S l u E;show(G,J,l,u,C,L)
  |brk=>show y
  |ret v=>show y
 |false=>show nH (r,Q,R,x)
structure It where
 go:Nat->Hp->Prop
 yld:Nat->Hp->V->Hp->Prop
 stop:Nat->Hp->Prop
def wy(X:Cx)(l:Φ)(H:Hp)(b:Addr):Prop:=H b=n_/\b≠n6 (iI X)/\b∉X.fs/\(b∈X.ex∨X.s₀⁻¹<=b)/\(∀x c,X.env.cells.lookup x=aK c->c≠b)/\∀p∈X.pn++l,p.1≠b
def Inv.fpOk{σ:St}{b:Addr}(I:Inv X n σ H s)(l:s⁻¹<=b)(hn:r b=n_):wy X n r b:=by
 show(hn,aY<|aT I.lt l,I.nofs l,ir<|bH I.sz l,λx c e z=>?_,λp t z=>?_);.have(v,q):=I.cell x c e;show absurd (aT q.lt<|by rw[z];show l)<|cF _
 .show absurd (aT (ae (I.pin p t).1)<|by rw[z];show l)<|cF _
structure Lf (P:kJ)(w:kM)(K:Ζ)(tg:Expr)(J:It)(fp:Δ)(it:Addr)(tn:Nat->Heap->Prop):Prop where
 mem:it∈fp
 obj:∀i h,tn i h->∀b∈fp,∃o,h.get? b=aK o/\∀v,o.data ≠ .cell v
 keep:∀i h h',tn i h->(∀b∈fp,∀o,h.get? b=aK o->h'.get? b=aK o)->tn i h'
 item:∀(X:Cx),X.prog=P->X.w=w->X.K=K->X.calm=t_->∀(i:Nat) (oO:Φ) (s:Shared) (σ:St) (H:Hp) (E:Ψ),Inv X oO σ H s->(∀b∈fp,wy X oO H b)->tn i s.heap->J.go i H ->
  kE (kG P w) X.A (lZ<|.ref it) (λr s1=>∃u,r=aK u /\
   kE (kG P w) X.A (om tg (.ref it) u) (λZ s2=>∃x H',Inv X oO σ H' s2/\qW x u/\J.yld i H x H'/\tn (i+1) s2.heap/\∀b∈fp,H' b=n_) E s1) E s
 done:∀(X:Cx),X.prog=P->X.w=w->X.K=K->X.calm=t_->∀(i:Nat) (oO:Φ) (s:Shared) (σ:St) (H:Hp) (E:Ψ),Inv X oO σ H s->(∀b∈fp,wy X oO H b)->tn i s.heap->J.stop i H ->
  kE (kG P w) X.A (lZ<|.ref it) (λr s1=>r=n_/\Inv X oO σ H s1) E s
 self:∀(A:Around) (i:Nat) (s:Shared) (Q:Ψ) (E:Ψ),tn i s.heap->Q (.ref it) s->kE (kG P w) A (pyIter<|.ref it) Q E s
abbrev TI:=St->Hp->(It->Hp->Prop)->Prop
def PIE(X:Cx)(r:Φ)(σ:St)(u:Expr)(R:It->Hp->Prop)(l:Value)(s:Shared):Prop:=∃t fp tn J n,l = ao t/\Inv X r σ n s/\Lf X.prog X.w X.K u J fp t tn/\tn 0 s.heap/\(∀b∈fp,wy X r n b)/\R J n
def PI(X:Cx)(n iter:Expr)(r:TI):Prop:=∀l s (σ:St) H R,Inv X l σ H s->r σ H R ->
  kE (kG X.prog X.w) X.A (eval iter<|iI X) (λv t=>kE (kG X.prog X.w) X.A (pyIter v) (PIE X l σ n R) X.xe t) X.xe s
def Q5{E:Ψ}{vs:Ω}(x:c7 (b7 s) t=aK o)(y:o.cls = iD n)(hd:vr o = fT vs)
    (hn:aBg ["enumerate","zip","dict_itemiterator","dict_reverseitemiterator","odict_iterator","itertools.zip_longest","itertools.pairwise"] n=f_) (l:Q () s):kE M A (om r (ao t) u) Q E s:=by cases r <;> first
    |show kF l
    | (cases u <;> first
        |show kF l
        | (show kC<|wpAny_load x ?_;rw[y,hd];change kE M A (if (aBg ["enumerate","zip","dict_itemiterator","dict_reverseitemiterator","odict_iterator","itertools.zip_longest","itertools.pairwise"] n && vs[0]? == aK (oj _))=t_ then _ else _) Q E s;rw[qE<|by intro h;rw[hn]at h;cases h];show kF l))
noncomputable def Itl(K:Ζ)(a:Addr):It:=(λi H=>∃xs x,sN K H a xs/\xs[i]?=aK x,λi H x l=>l=H/\∀xs,sN K H a xs->xs[i]?=aK x,λi H=>∃xs,sN K H a xs/\aX xs<=i)
noncomputable def Itt(K:Ζ)(a:Addr):It:=(λi H=>∃xs x,zd K H a xs/\xs[i]?=aK x,λi H x l=>l=H/\∀xs,zd K H a xs->xs[i]?=aK x,λi H=>∃xs,zd K H a xs/\aX xs<=i)
noncomputable def Y3(lo:Int)(n:Nat):It:=(λi Q=>i<n,λi H x l=>l=H/\x = c8 (lo+i),λi Q=>n<=i)
def SY{K}a l:Lf P w K Y (Itl K a) [l] l<|λi h=>hH h l a i where
 mem:=by simp
 obj:=λi h st b n=>by
  have e:b=l:=by simpa using n
  subst e;have(o,e,c,d):=st;show(o,e,λv z=>by rw[d]at z;cases z)
 keep:=λi h t st k=>st.at λo e=>k l ⋯ o e
 item:=by intro X hP hw B S i U s σ H E I hf st C;subst hP hw B;have(xs,x,y,G):=C;have(J,L,p,hz):=I.list y;have(u,hu,ru):=L.get G;have(M,f1,f2,O,Q,R):=hf l ⋯;show wpAny_pyNext_list_item st (eQ p) (x:=u) (by simpa using hu) λt r sb=>?_;have I1:Inv X U σ H { s with heap:=t }:=I.turned (t':=nc s) (λb o n e=>eI (sb.2 b n) e) M f1 O Q R;have(o,e,c,d):=id r;show(u,rfl,Q5 (s:={ s with heap:=t }) e c d (by rfl) (x,H,I1,ru,(rfl,λys hy=>by rw[I.list_inj hy y];show G),r,λb n=>(hf b n).1))
 done:=by intro X hP hw B S i U s σ H E I hf st C;subst hP hw B;have(xs,y,G):=C;have(J,L,p,hz):=I.list y;have(M,f1,f2,O,Q,R):=hf l ⋯;have hl:=iL L;show wpAny_pyNext_list_end (I.ok.hd S) st (eQ p) (by simp;lia) λt eb=>(rfl,I.turned (t':=nc s) (λb o n e=>eb b o n e) M f1 O Q R)
 self:=λZ Z Z Z Z st h=>wpAny_pyIter_listiter st h
def Pd{K}a l:Lf P w K Y (Itt K a) [l] l<|λi h=>h.IsTupleIter l a i where
 mem:=by simp
 obj:=λi h st b n=>by
  have e:b=l:=by simpa using n
  subst e;have(o,e,c,d):=st;show(o,e,λv z=>by rw[d]at z;cases z)
 keep:=λi h y st k=>st.at λo e=>k l ⋯ o e
 item:=by intro X hP hw C S i U s σ H E I hf st G;subst hP hw C;have(xs,x,B,J):=G;have(r,L,p,hz):=I.tuple B;have(u,hu,ru):=L.get J;have(M,f1,f2,O,Q,R):=hf l ⋯;show wpAny_pyNext_tuple_item st (show rT (b7 s) a<|b9 r from p) (x:=u) (by simpa using hu) λy t sb=>?_;have I1:Inv X U σ H { s with heap:=y }:=I.turned (t':=nc s) (λb o n e=>eI (sb.2 b n) e) M f1 O Q R;have(o,e,c,d):=id t;show(u,rfl,Q5 (s:={ s with heap:=y }) e c d (by rfl) (x,H,I1,ru,(rfl,λys hy=>by rw[I.tuple_inj hy B];show J),t,λb n=>(hf b n).1))
 done:=by intro X hP hw C S i U s σ H E I hf st G;subst hP hw C;have(xs,B,J):=G;have(r,L,p,hz):=I.tuple B;have(M,f1,f2,O,Q,R):=hf l ⋯;have hl:=iL L;show wpAny_pyNext_tuple_end (I.ok.hd S) st (show rT (b7 s) a<|b9 r from p) (by simp;lia) λy eb=>(rfl,I.turned (t':=nc s) (λb o n e=>eb b o n e) M f1 O Q R)
 self:=λZ Z Z Z Z st h=>wpAny_pyIter_tupleiter st h
def PY{K}l lo n:Lf P w K Q (Y3 lo n) [l] l<|λi h=>IsRangeIter h l (lo+(i:Nat)*1) ((n:Int)-(i:Nat)) 1 where
 mem:=by simp
 obj:=λi h st b r=>by
  have e:b=l:=by simpa using r
  subst e;show(_,st,λv z=>by have R:fT _=n8 v:=z;cases R)
 keep:=λi h x st k=>k l ⋯ _ st
 item:=by intro X hP hw y B i O s σ H E I hf st C;subst hP hw y;have(G,f1,f2,J,L,M):=hf l ⋯;have W:=Walks.range (prog:=eT X) (w:=X.w) (I.ok.hd B) l lo 1 n;show W.item i s _ _ C st λv x tk S u U=>?_;have(t,rfl):=S;have Y:Inv X O σ H { s with heap:=x,toks:=tk }:=I.turned (λb o r e=>U b o (by simpa using r) e) G f1 J L M;show(_,rfl,Q5 (s:={ s with heap:=x,toks:=tk }) (n:= "range_iterator") u rfl rfl (by rfl) (c8<|lo+i,H,Y,(t,?_),(rfl,rfl),u,λb r=>(hf b r).1));rw[iu]
 done:=by intro X hP hw y B i O s σ H E I hf st C;subst hP hw y;have(G,f1,f2,J,L,M):=hf l ⋯;show wpAny_pyNext_range_end (I.ok.hd B) st (by have:n<=i:=C;lia) λx eb=>(rfl,I.turned (t':=nc s) (λb o r e=>eb b o r e) G f1 J L M)
 self:=λZ Z Z Z Z st h=>wpAny_pyIter_rangeiter st h
def Wv(K:Ζ)(n:TE):TI:=λσ H R=>n σ H λx l=>∃a,x = cx a/\(∃xs,sN K l a xs)/\R (Itl K a) l
def acW(K:Ζ)(n:TE):TI:=λσ H R=>n σ H λx l=>∃a,x = cx a/\(∃xs,zd K l a xs)/\R (Itt K a) l
def qG(hl:PE X l u):PI X tg l<|Wv X.K u:=by
 intro y s σ H R I h;show ua (hl y s σ H _ I h) λv n t=>?_;have(x,z,r,B,C):=t;have(a,e,(L,E),q):=C;subst e;cases B;have(G,M,p,O):=r.list E;show mD (eQ p) ?_;show(n⁻¹,[n⁻¹],_,_,z,rfl,r.kept (t':=nc n) λb o e=>aa _ e,SY a _,(_,aA _ rfl,rfl,rfl),λb J=>?_,q);have e:b=n⁻¹:=by simpa using J
 subst e;show r.fpOk (ab _)<|r.hok.fresh<|ab _
def Lp(hl:PE X l y):PI X tg l<|acW X.K y:=by
 intro z s σ H R I h;show ua (hl z s σ H _ I h) λv n t=>?_;have(x,B,r,C,E):=t;have(a,e,(L,G),q):=E;subst e;cases C;have(u,M,p,O):=r.tuple G;show wpAny_pyIter_tuple (show rT (b7 n) a<|b9 u from p) ?_;show(n⁻¹,[n⁻¹],_,_,B,rfl,r.kept (t':=nc n) λb o e=>aa _ e,Pd a _,(_,aA _ rfl,rfl,rfl),λb J=>?_,q);have e:b=n⁻¹:=by simpa using J
 subst e;show r.fpOk (ab _)<|r.hok.fresh<|ab _
def Wg{σ:St}{E:Ψ}{lo}(I:Inv X n σ H s)(h1:-(2 ^ 62)<=lo)(h2:lo<2 ^ 62)(x:-(2 ^ 62)<=l)(y:l<2 ^ 62)
  (q:R (Y3 lo<|jz<|l-lo) H):kE (kG X.prog X.w) X.A (pyIter<|ao s⁻¹) (PIE X n σ tg R) E { s with heap:=ig (b7 s) { cls:=iD "range", data:=fT #[iT lo t,iT l u,iT 1 v] },toks:=tk }:=by
 show wpAny_pyIter_range (IsRange.new ..) (small_one h1 h2 x y) ?_;have r:Inv X n σ H { s with heap:=ig (b7 s) { cls:=iD "range", data:=fT #[iT lo t,iT l u,iT 1 v] },toks:=tk }:=I.kept λb o e=>aa _ e;show((ig (b7 s) { cls:=iD "range", data:=fT #[iT lo t,iT l u,iT 1 v] }).objs.size,[(ig (b7 s) { cls:=iD "range", data:=fT #[iT lo t,iT l u,iT 1 v] }).objs.size],_,_,H,rfl,
  r.kept λb o e=>aa _ e,PY _ lo<|jz<|l-lo,?_,λb z=>?_,q)
 .have B:lo+((0:Nat))*1=lo:=by simp
  have C:((jz<|l-lo))-((0:Nat))=aBq lo l 1:=by rw[rangeSize_one];split <;> lia
  rw[B,C];show aA _ rfl
 .have e:b=(ig (b7 s) { cls:=iD "range", data:=fT #[iT lo t,iT l u,iT 1 v] }).objs.size:=by simpa using z
  subst e;show r.fpOk (ab _)<|r.hok.fresh<|ab _
def VR(l:TA):TI:=λσ H R=>l σ H λvs n=>∃j:Int,vs=[c8 j]/\-(2 ^ 62)<=j/\j<2 ^ 62/\R (Y3 0<|jz j) n
def vC(x:Gl X "range")(y:X.mg "range" = n_)(ha:PA X [a] u)(z:↑(kO [a] X.env=[%[f_|eval a<|iI X]])):PI X tg (m8 (g9 "range" p) [a] [] pos)<|VR u:=by intro B s σ H R I h;show Call_<|wX I x y boot_range<|bC (ua (ha pos B s σ H _ I h) λL M l=>?_) z rfl;have(O,P,C,E,n):=l;have(j,e,n,G,q):=n;subst e;cases E with
 |cons r J=>cases J;have(t,rfl):=r;show call_range_1<|Wg C (by rfl') (by rfl') n G<|by simpa using q
def Ov(t:TI)(g:TG)(tb:TS):TS:=λD σ H=>t σ H λJ u=>∃W:Nat->Nat->St->Hp->Prop,(∃m,W 0 m σ u)/\∀i m σ H,W i m σ H ->
 (J.stop i H/\D.nx σ H)∨(J.go i H/\∃N:St->Hp->Prop,(∀l n,N l n->∃s,s<m/\W (i+1) s l n)/\∀x n,J.yld i H x n->g x σ n λr y=>tb { D with nx:=N,ct:=N,bk:=D.nx } r y)
noncomputable def HD(fp:Δ)(h:Heap):Φ:=fp.filterMap λb=>(c7 h b).map λo=>%[b|o]
def AI(l:b∈fp)(e:c7 h b=aK o):%[b|o]∈HD fp h:=e8 je (b,l,by rw[e];rfl)
def TV(l:p∈HD fp h):p.1∈fp/\c7 h p.1=aK p.2:=by have(b,n,e):=je.mp l;cases q:c7 h b with
 |none=>rw[q]at e;cases e
 |some o=>rw[q]at e;have r:=aK.inj e;subst r;show(n,q)
def Inv.pinned{σ:St}(I:Inv X l σ H s)(hf:∀b∈fp,wy X l H b)(t:∀b∈fp,∃o,c7 (b7 s) b=aK o/\∀v,vr o ≠ n8 v):Inv X (l++HD fp s.heap) σ H s:=I.pins_of λp u=>(mAq.mp u).elim (λz=>I.pin p<|ay _ z) λz=>by have(n,e):=TV z;have(x,f1,f2,_):=hf p.1 n;have(o,r,d):=t p.1 n;rw[e]at r;cases r;show(e,x,f1,f2,d)
def Inv.unpinned{σ:St}(I:Inv X (l++pl) σ H s):Inv X l σ H s:=I.pins_of λp n=>I.pin p<|ay _<|bw _ n
def uG(Q:PassesOwn (kG X.prog X.w) X.A X.env X.xe)(hc:X.calm=t_)(hi:PI X tg iter wi)(hg:PG X tg g)(y:LN X body tb)
  (hs:∀x,nW iter X.env x=pure x:=by intro _;rfl):PS X (.For tg iter body [] pos)<|Ov wi g tb:=by
 intro O s σ H D I h;show wpAny_For (ua (hi O s σ H _ I h) λv s1 h1=>ua h1 λitv s2 h2=>?_) hs;have(it,R,tn,J,H2,e,I2,T,LJ,f2,W,(m0,w0),turn):=h2;subst e;have z:∀{L:Hp},(∀b∈R,L b=n_)->∀b∈R,wy X O L b:=λhn b y=>(hn b y,(f2 b y).2);show codeAny_forLoop_any (λn s'=>∃i B L,Inv X O B L s'/\tn i s'.heap/\(∀b∈R,L b=n_)/\W i n B L) ?_ m0 (0,σ,H2,I2,LJ,λb y=>(f2 b y).1,w0);rintro n s3 ⟨i,C,Y,I3,st3,S,w3⟩;obtain⟨stop,qn⟩|⟨go,N,hN,step⟩:=turn i n C Y w3;.show mB Q<|ua (T.done X rfl rfl rfl hc i O s3 C Y X.xe I3 (z S) st3 stop) λr s4 t=>?_;have(hr,I4):=t;subst hr;show nH (C,Y,I4,qn)
 .show mB Q<|ua (T.item X rfl rfl rfl hc i O s3 C Y X.xe I3 (z S) st3 go) λr s4 t=>?_;have(u,hr,h4):=t;subst hr;show mB Q<|ua h4 λZ s5 t=>?_;have(x,H5,I5,r5,y5,P,fr5):=t;have I5':=I5.pinned (z fr5)<|T.obj _ _ P;show mB Q<|ua (hg _ s5 C H5 x u _ I5' r5<|step x H5 y5) λZ s6 t=>?_;have(σ6,H6,I6,q6):=t;show mB Q<|ua (y _ s6 σ6 H6 _ I6 q6) λf s7 M=>?_;have again:∀{l:St}{E:Hp},Inv X (O++HD R s5.heap) l E s7->N l E->∃m,m<n/\∃i B L,Inv X O B L s7/\tn i s7.heap/\(∀b∈R,L b=n_)/\W i m B L:=λ{l E} G U=>by have(m',hm,w7):=hN l E U;show(m',hm,i+1,l,E,G.unpinned,T.keep _ _ _ P λb y o e=>(G.pin %[b|o]<|ay _<|ay _<|AI y e).1,λb y=>?_,w7);have(o,e,d):=T.obj _ _ P b y;show(G.pin %[b|o]<|ay _<|ay _<|AI y e).2.1
  cases f with
  |next=>have(l,E,G,U):=M;show again G U
  |cont=>have(l,E,G,U):=M;show again G U
  |brk=>have(l,E,G,M):=M;show(l,E,G.unpinned,M)
  |ret v=>have(x7,l,E,G,r7,M):=M;show(x7,l,E,G.unpinned,r7,M)
def US{K}{g:TG}{tb:TS}{D:BD}(l:Nat->St->Hp->Prop)(h0:l 0 σ H)(hl:∀i σ H,i<=aX xs->l i σ H->sN K H a xs)
  (B:∀i x σ H,xs[i]?=aK x->l i σ H->g x σ H λn u=>tb { D with nx:=l (i+1),ct:=l (i+1),bk:=D.nx } n u) (hd:∀σ H,l (aX xs) σ H->D.nx σ H) :
  ∃W:Nat->Nat->St->Hp->Prop,(∃m,W 0 m σ H)/\∀i m σ H,W i m σ H ->
   ((Itl K a).stop i H/\D.nx σ H)∨((Itl K a).go i H/\∃N:St->Hp->Prop,(∀r s,N r s->∃z,z<m/\W (i+1) z r s)/\∀x s,(Itl K a).yld i H x s->g x σ s λn u=>tb { D with nx:=N,ct:=N,bk:=D.nx } n u):=by
 show(λi m σ H=>m=aX xs-i/\i<=aX xs/\l i σ H,(aX xs,by simp,aH _,h0),?_);rintro i m σ H ⟨rfl,C,p⟩;have q:=hl i σ H C p;by_cases t:i<aX xs;.show ir ((xs,xs[i],q,by simp[t]),l<|i+1,λr s E=>(aX xs-(i+1),by omega,rfl,t,E),λx s y=>?_);have(e,y):=y;subst e;show B i x σ _ (y xs q) p
 .have e:i=aX xs:=by rfl'
  subst e;show jB ((xs,q,ab _),hd σ H p)
def ZX{K}{g:TG}{tb:TS}{D:BD}(l:Nat->St->Hp->Prop)(h0:l 0 σ H)(hl:∀i σ H,i<=aX xs->l i σ H->zd K H a xs)
  (B:∀i x σ H,xs[i]?=aK x->l i σ H->g x σ H λn u=>tb { D with nx:=l (i+1),ct:=l (i+1),bk:=D.nx } n u) (hd:∀σ H,l (aX xs) σ H->D.nx σ H) :
  ∃W:Nat->Nat->St->Hp->Prop,(∃m,W 0 m σ H)/\∀i m σ H,W i m σ H ->
   ((Itt K a).stop i H/\D.nx σ H)∨((Itt K a).go i H/\∃N:St->Hp->Prop,(∀r s,N r s->∃z,z<m/\W (i+1) z r s)/\∀x s,(Itt K a).yld i H x s->g x σ s λn u=>tb { D with nx:=N,ct:=N,bk:=D.nx } n u):=by
 show(λi m σ H=>m=aX xs-i/\i<=aX xs/\l i σ H,(aX xs,by simp,aH _,h0),?_);rintro i m σ H ⟨rfl,C,p⟩;have q:=hl i σ H C p;by_cases t:i<aX xs;.show ir ((xs,xs[i],q,by simp[t]),l<|i+1,λr s E=>(aX xs-(i+1),by omega,rfl,t,E),λx s y=>?_);have(e,y):=y;subst e;show B i x σ _ (y xs q) p
 .have e:i=aX xs:=by rfl'
  subst e;show jB ((xs,q,ab _),hd σ H p)
def SX{lo}{g:TG}{tb:TS}{D:BD}(l:Nat->St->Hp->Prop)(h0:l 0 σ H)
  (C:∀i σ H,i<n->l i σ H->g (c8<|lo+i) σ H λr z=>tb { D with nx:=l (i+1),ct:=l (i+1),bk:=D.nx } r z) (hd:∀σ H,l n σ H->D.nx σ H) :
  ∃W:Nat->Nat->St->Hp->Prop,(∃m,W 0 m σ H)/\∀i m σ H,W i m σ H ->
   ((Y3 lo n).stop i H/\D.nx σ H)∨((Y3 lo n).go i H/\∃N:St->Hp->Prop,(∀s t,N s t->∃B,B<m/\W (i+1) B s t)/\∀x t,(Y3 lo n).yld i H x t->g x σ t λr z=>tb { D with nx:=N,ct:=N,bk:=D.nx } r z):=by
 show(λi m σ H=>m=n-i/\i<=n/\l i σ H,(n,by simp,aH _,h0),?_);rintro i m σ H ⟨rfl,G,p⟩;by_cases u:i<n;.show ir (u,l<|i+1,λs t E=>(n-(i+1),by omega,rfl,u,E),λx t y=>?_);have(e,y):=y;subst e y;show C i σ _ u p
 .have e:i=n:=by rfl'
  subst e;show jB (ab _,hd σ H p)
abbrev R2:=V->V->Hp->VK->Prop
def Fk(X:Cx)(f:Value->Value->Sem Value)(r:R2):Prop:=∀l s (σ:St) H x y v u Q,Inv X l σ H s->qW x v->qW y u->r x y H Q ->
  kE (kG X.prog X.w) X.A (f v u) (EP X l σ Q) X.xe s
def UnR(X:Cx)(f:Value->Sem Value)(r:V->Hp->VK->Prop):Prop:=∀l s (σ:St) H x v Q,Inv X l σ H s->qW x v->r x H Q ->
  kE (kG X.prog X.w) X.A (f v) (EP X l σ Q) X.xe s
def uM(X:Cx)(f:Value)(r:List V->Hp->VK->Prop):Prop:=∀l s (σ:St) H xs us Q,Inv X l σ H s->qr xs us->r xs H Q ->
  kE (kG X.prog X.w) X.A (call f us) (EP X l σ Q) X.xe s
def XX(r:R2)(l tb:TE):TE:=λσ H Q=>l σ H λx n=>tb σ n λy s=>r x y s Q
def tUn(r:V->Hp->VK->Prop)(l:TE):TE:=λσ H Q=>l σ H λx n=>r x n Q
def rI(C:Int->Int->Prop)(g:Int->Int->V):R2:=λx y H Q=>∃i j,x = c8 i/\y = c8 j/\C i j/\Q (g i j) H
def Tg(g:Int->Int->V):R2:=λx y H Q=>∃i j,x = c8 i/\y = c8 j/\Q (g i j) H
def rU(g:Int->V):V->Hp->VK->Prop:=λx H Q=>∃i,x = c8 i/\Q (g i) H
def abu(ha:PE X a ta)(E:PE X b tb){σ:St}{R:V->V->Hp->Prop}(I:Inv X z σ H s)
  (h:ta σ H λx C=>tb σ C λy n=>R x y n) {Q:Ψ}{f:Value->Value->Sem Value}
  (hf:∀v u B x y n,Inv X z σ n B->qW x v->qW y u->R x y n->kE (kG X.prog X.w) X.A (f v u) Q X.xe B) :
  kE (kG X.prog X.w) X.A (eval a<|iI X) (λv r=>kE (kG X.prog X.w) X.A (eval b<|iI X) (λu t=>kE (kG X.prog X.w) X.A (f v u) Q X.xe t) X.xe r) X.xe s:=by show ua (ha z s σ H _ I h) λv G l=>?_;have(x,C,J,L,M):=l;show ua (E z G σ C _ J M) λu B l=>?_;have(y,n,O,P,S):=l;show hf v u B x y n O L P S
def qf(l:Fk X (nh op) r)(ha:PE X a ta)(n:PE X b tb):PE X (.BinOp a op b pos)<|XX r ta tb:=by intro t s σ H Q I h;show wpAny_BinOp<|abu ha n I h λv u z x y B C E G q=>l t z σ B x y v u Q C E G q
def wm(t:UnR X (unaryOp op) r)(ha:PE X a ta):PE X (.UnaryOp op a pos)<|tUn r ta:=by intro n s σ H Q I h;show UnaryOp_<|ua (ha n s σ H _ I h) λv u l=>?_;have(x,y,z,B,C):=l;show t n u σ y x v Q z B C
def opI{g:Int->Int->Int}
  (rule:∀i j t u s (Q:Ψ) (E:Ψ),C i j->Q (iT (g i j)<|nc s) { s with toks:=nc s+1 }->kE (kG X.prog X.w) X.A (f (iT i t)<|iT j u) Q E s) :
  Fk X f<|rI C λi j=>c8<|g i j:=by intro B s σ H x y v u Q I l n h;have(i,j,rfl,rfl,r,q):=h;have(t,rfl):=l;have(z,rfl):=n;show rule i j t z s _ _ r (c8<|g i j,H,I.tok _,(_,rfl),q)
def aez{g:Int->Int->Int}
  (rule:∀i j t u s (Q:Ψ) (E:Ψ),Q (iT (g i j)<|nc s) { s with toks:=nc s+1 }->kE (kG X.prog X.w) X.A (f (iT i t)<|iT j u) Q E s) :
  Fk X f<|Tg λi j=>c8<|g i j:=by intro z s σ H x y v u Q I l n h;have(i,j,rfl,rfl,q):=h;have(t,rfl):=l;have(r,rfl):=n;show rule i j t r s _ _ (c8<|g i j,H,I.tok _,(_,rfl),q)
def abp{g:Int->Int->Bool}
  (rule:∀i j t u s (Q:Ψ) (E:Ψ),Q (eF<|g i j) s->kE (kG X.prog X.w) X.A (f (iT i t)<|iT j u) Q E s) :
  Fk X f<|Tg λi j=>lR<|g i j:=by intro z s σ H x y v u Q I l n h;have(i,j,rfl,rfl,q):=h;have(t,rfl):=l;have(r,rfl):=n;show rule i j t r s _ _ (lR<|g i j,H,I,rfl,q)
def ac1(i j:Int):Prop:=0<j/\j<1073741824
def aaR(i j:Int):Prop:=0<=j/\j<=1000000/\i.natAbs<2 ^ 64
def W1(i j:Int):Prop:=(-(2 ^ 64)<i/\i<2 ^ 64)∨(-(2 ^ 64)<j/\j<2 ^ 64)
def W1.ok(h:W1 i j):IntMulOk i j:=by
 obtain⟨h1,h2⟩|⟨h1,h2⟩:=h;.show .of_left<|intBits_le_64 h1 h2
 .show .of_right<|intBits_le_64 h1 h2
def A5:Fk X (nh .Add)<|Tg λi j=>c8<|i+j:=aez λQ Q Q Q Q Q Q q=>add_int q
def BJ:Fk X (nh .Sub)<|Tg λi j=>c8<|i-j:=aez λQ Q Q Q Q Q Q q=>sub_int q
def EC:Fk X (nh .Mult)<|rI W1 λi j=>c8<|i*j:=opI λQ Q Q Q Q Q Q l q=>mul_int q l.ok
def uf:Fk X (nh .FloorDiv)<|rI ac1 λi j=>c8<|i / j:=opI λi j Q Q Q Q Q l q=>by have h1:=l.1;have h2:=l.2;show floordiv_int ∅ (by rw[iw i<|by rfl'];show q)<|jB<|PyProof.noPylong_small<|by omega
def uu:Fk X (nh .Mod)<|rI (λQ j=>0<j) λi j=>c8<|i % j:=opI λi j Q Q Q Q Q l q=>by show mod_int' ∅<|by rw[Int.fmod_eq_emod_of_nonneg i<|by rfl'];show q
def abh:Fk X (nh .Pow)<|rI aaR λi j=>c8<|i ^ jz j:=opI λQ Q Q Q Q Q Q l q=>pow_int_small l.1 l.2.1 l.2.2 q
def unI{g:Int->Int}
  (rule:∀i t s (Q:Ψ) (E:Ψ),Q (iT (g i)<|nc s) { s with toks:=nc s+1 }->kE (kG X.prog X.w) X.A (f<|iT i t) Q E s) :
  UnR X f<|rU λi=>c8<|g i:=by intro n s σ H x v Q I l h;have(i,rfl,q):=h;have(t,rfl):=l;show rule i t s _ _ (c8<|g i,H,I.tok _,(_,rfl),q)
def uD:UnR X (unaryOp .USub)<|rU λi=>c8<|-i:=unI λQ Q Q Q Q q=>neg_int q
noncomputable def scal:V->V->Bool
 | pd,pd=>t_|pd,c8 _=>t_|c8 _,pd=>t_|pd,lR _=>t_|lR _,pd=>t_|pd,y9 _=>t_|y9 _,pd=>t_
 | c8 _,c8 _=>t_|lR _,lR _=>t_|y9 _,y9 _=>t_|.byt _,.byt _=>t_
 | c8 _,y9 _=>t_|y9 _,c8 _=>t_|lR _,y9 _=>t_|y9 _,lR _=>t_
 |_,_=>f_
def rEq:R2:=λx y H Q=>scal x y=t_/\Q (lR<|decide<|x=y) H
def rNe:R2:=λx y H Q=>scal x y=t_/\Q (lR<|!decide (x=y)) H
def QG:decide (c8 i=c8 j)=(i == j):=by rw[bG];simp
def W2:decide (lR i=lR j)=(i == j):=by rw[bG];simp
def QH:decide (y9 i=y9 j)=(i == j):=by rw[bG];simp
def Qo:decide (V.byt i=V.byt j)=(km i == km j):=by rw[bG];cases i;cases j;simp
def qQ{σ:St}(I:Inv X l σ H s)(q:Q (lR k) H)(e:k=n):EP X l σ Q (eF n) s:=by subst e;show(lR k,H,I,rfl,q)
def xK:Fk X (lV .Eq) rEq:=by intro B s σ H x y v u Q I z l h;have(r,q):=h;cases x with
 |non=>cases z;cases y with
  |non=>cases l;show aC4<|qQ I q<|by rfl
  |bl j=>cases l;show aC5<|qQ I q<|by rfl
  |int j=>have(n,rfl):=l;show aC6<|qQ I q<|by rfl
  |str j=>have(n,rfl):=l;show aC7<|qQ I q<|by rfl
  |_=>show absurd (show f_=t_ from r) aZ
 |bl i=>cases z;cases y with
  |non=>cases l;show aC8<|qQ I q<|by rfl
  |bl j=>cases l;show eq_bool<|qQ I q W2
  |str j=>have(n,rfl):=l;show aBr<|qQ I q<|by rfl
  |_=>show absurd (show f_=t_ from r) aZ
 |int i=>have(t,rfl):=z;cases y with
  |non=>cases l;show aC9<|qQ I q<|by rfl
  |int j=>have(n,rfl):=l;show eq_int<|qQ I q QG
  |str j=>have(n,rfl):=l;show aBs<|qQ I q<|by rfl
  |_=>show absurd (show f_=t_ from r) aZ
 |str i=>have(t,rfl):=z;cases y with
  |non=>cases l;show aCa<|qQ I q<|by rfl
  |bl j=>cases l;show aBt<|qQ I q<|by rfl
  |int j=>have(n,rfl):=l;show aBu<|qQ I q<|by rfl
  |str j=>have(n,rfl):=l;show eq_str<|qQ I q QH
  |_=>show absurd (r) aZ
 |byt i=>have(t,rfl):=z;cases y with
  |byt j=>have(n,rfl):=l;show W.eq_bytes<|qQ I q Qo
  |_=>show absurd (r) aZ
 |_=>cases y <;> show absurd (r) aZ
def DJ:Fk X (lV .NotEq) rNe:=by intro B s σ H x y v u Q I z l h;have(r,q):=h;cases x with
 |non=>cases z;cases y with
  |non=>cases l;show aCb<|qQ I q<|by rfl
  |bl j=>cases l;show aCc<|qQ I q<|by rfl
  |int j=>have(n,rfl):=l;show aCd<|qQ I q<|by rfl
  |str j=>have(n,rfl):=l;show aCe<|qQ I q<|by rfl
  |_=>show absurd (show f_=t_ from r) aZ
 |bl i=>cases z;cases y with
  |non=>cases l;show aCf<|qQ I q<|by rfl
  |bl j=>cases l;show ne_bool<|qQ I q<|congrArg not W2
  |str j=>have(n,rfl):=l;show aBv<|qQ I q<|by rfl
  |_=>show absurd (show f_=t_ from r) aZ
 |int i=>have(t,rfl):=z;cases y with
  |non=>cases l;show aCg<|qQ I q<|by rfl
  |int j=>have(n,rfl):=l;show ne_int<|qQ I q<|congrArg not QG
  |str j=>have(n,rfl):=l;show aBw<|qQ I q<|by rfl
  |_=>show absurd (show f_=t_ from r) aZ
 |str i=>have(t,rfl):=z;cases y with
  |non=>cases l;show aCh<|qQ I q<|by rfl
  |bl j=>cases l;show aBx<|qQ I q<|by rfl
  |int j=>have(n,rfl):=l;show aBy<|qQ I q<|by rfl
  |str j=>have(n,rfl):=l;show ne_str<|qQ I q<|congrArg not QH
  |_=>show absurd (show f_=t_ from r) aZ
 |byt i=>have(t,rfl):=z;cases y with
  |byt j=>have(n,rfl):=l;show W.ne_bytes<|qQ I q<|congrArg not Qo
  |_=>show absurd (r) aZ
 |_=>cases y <;> show absurd (r) aZ
def NN:Fk X (lV .Lt)<|Tg λi j=>lR<|decide<|i<j:=abp λQ Q Q Q Q Q Q q=>lt_int q
def adJ:Fk X (lV .LtE)<|Tg λi j=>lR<|decide<|i<=j:=abp λQ Q Q Q Q Q Q q=>le_int q
def Ft:Fk X (lV .Gt)<|Tg λi j=>lR<|decide<|j<i:=abp λQ Q Q Q Q Q Q q=>gt_int q
def ab0:Fk X (lV .Is)<|λx y H Q=>y = pd/\Q (lR<|decide<|x = pd) H:=by intro r s σ H x y v u Q I l n h;have(rfl,q):=h;cases n;show is_none_gen<|qQ I q ?_;cases x <;> first
  | (rfl)
  | (have(t,rfl):=l;rfl)
def ZJ:Fk X (lV .IsNot)<|λx y H Q=>y = pd/\Q (lR<|!decide (x = pd)) H:=by intro r s σ H x y v u Q I l n h;have(rfl,q):=h;cases n;show isnot_none_gen<|qQ I q ?_;cases x <;> first
  | (rfl)
  | (have(t,rfl):=l;rfl)
def qu b(h:⇑(op ≠ .In))(h2:⇑(op ≠ S3)):mS op b=f_:=by
 have l:(op == CmpOp.In)=f_:=by cases op <;> first|rfl|show absurd rfl h
 have n:(op == S3)=f_:=by cases op <;> first|rfl|show absurd rfl h2
 cases b <;> simp[mS,l,n]
def Ed(l:Fk X (lV op) r)(ha:PE X a ta)(n:PE X b tb)(t:mS op b=f_):PE X (T2 a [op] [b] pos)<|XX r ta tb:=by intro z s σ H Q I h;show wpAny_Compare1 (abu ha n I h λv u B x y C E G J q=>l z B σ C x y v u Q E G J q) t
def aaE(t:TE):TT:=λσ H Q=>t σ H λx l=>∃k,x = lR k/\Q k l
def qg(n:Fk X (lV op) r)(ha:PE X a ta)(t:PE X b tb)(B:mS op b=f_):PT X (T2 a [op] [b] pos)<|aaE<|XX r ta tb:=by intro l s σ H Q I h;show oJ (ua (ha l s σ H _ I h) λv C o_=>?_) B;have(x,E,G,J,L):=o_;show ua (t l C σ E _ G L) λu M o_=>?_;have(y,O,P,R,S):=o_;show ua (n l M σ O x y v u _ P J R S) λc s3 o_=>?_;have(z,U,Y,r3,k,e,q3):=o_;subst e;cases r3;show lJ (U,Y,q3)
def V9(r r':R2)(ta tb tc:TE):TE:=λσ H Q=>ta σ H λx n=>tb σ n λy s=>r x y s λz l=>∃k,z = lR k /\
 (if k=t_ then tc σ l λt u=>r' y t u Q else Q (lR f_) l)
def UL(J:Fk X (lV op) r)(t:Fk X (lV l) r')(ha:PE X a ta)(L:PE X b tb)(M:PE X c tc)
  (O:lastMarks [op,l] [b,c]=f_:=by with_unfolding_all rfl):PE X (T2 a [op,l] [b,c] pos)<|V9 r r' ta tb tc:=by intro n s σ H Q I h;show Compare_chain (ua (ha n s σ H _ I h) λv P o_=>?_) O;have(x,R,S,U,Y):=o_;show chain_link<|ua (L n P σ R _ S Y) λu s2 o_=>?_;have(y,H2,I2,B,q2):=o_;show ua (J n s2 σ H2 x y v u _ I2 U B q2) λd s3 o_=>?_;have(z,C,E,r3,k,e,G):=o_;subst e;cases r3;show lJ ?_;cases k with
 |false=>show ite_ff (lR f_,C,E,rfl,G)
 |true=>show ite_tt<|chain_last<|ua (M n s3 σ C _ E G) λw' s4 ⟨z',H4,I4,r4,q4⟩=>t n s4 σ H4 y z' u w' Q I4 B r4 q4
def Va:(kK:Nat)<2 ^ 63:=by decide
def vL(r:qr [x] us):∃u,us=[u]/\qW x u:=by cases r with
 |cons l n=>cases n;show(_,rfl,l)
def Jk(r:qr [x,y] us):∃u l,us=[u,l]/\qW x u/\qW y l:=by cases r with
 |cons n s=>cases s with
  |cons t z=>cases z;show(_,_,rfl,n,t)
def Js(n:X.calm=t_):uM X (kj "min")<|λxs H Q=>∃i j,xs=[c8 i,c8 j]/\Q (c8<|if j<i then j else i) H:=by
 intro x s σ H xs y Q I r h;have(i,j,rfl,q):=h;have(u,z,rfl,(t,rfl),(B,rfl)):=Jk r;show min_two_ints (I.ok.hd n) λC E k=>(_,H,I.kept k,?_,q);by_cases l:j<i;.rw[qz l,qz l];show(_,rfl)
 .rw[qE l,qE l];show(_,rfl)
def aeJ(K:Ζ)(x:V)(H:Hp)(n:Nat):Prop:=match x with
 | y9 y=>y.length<=kK/\n=y.length
 | .byt y=>y.size<=kK/\n=y.size
 | cx p=>(∃xs,sN K H p xs/\n=aX xs)∨∃xs,zd K H p xs/\n=aX xs
 |_=>False
def qH:uM X (kj "len")<|λxs H Q=>∃x n,xs=[x]/\aeJ X.K x H n/\Q (c8 n) H:=by intro O s σ H xs P Q I r h;have(x,n,rfl,e,q):=h;have(u,rfl,B):=vL r;have R:=lh;cases x with
 |str y=>have(t,rfl):=B;obtain⟨L,z⟩:y.length<=kK/\n=y.length:=e;subst z;show len_str ∅ (c8 _,H,I.tok _,(_,rfl),q)
 |byt y=>have(t,rfl):=B;obtain⟨L,z⟩:y.size<=kK/\n=y.size:=e;subst z;show W.len_bytes ∅ (c8 _,H,I.tok _,(_,rfl),q)
 |ref p=>
  cases B;have z:=e;obtain⟨xs,C,z⟩|⟨xs,C,z⟩:=z;.subst z;have(E,G,J,M):=I.list C;have l:=iL G;show Calls.call_len_list (eQ J) (by simp?[aq];lia) (c8<|aX xs,H,I.tok _,(_,by simp?[aq];rw[l]),q)
  .subst z;have(E,G,J,M):=I.tuple C;have l:=iL G;show len_tuple J (by simp?[aq];lia) (c8<|aX xs,H,I.tok _,(_,by simp?[aq];rw[l]),q)
 |_=>show(e).elim
def Iw.some_of(r:Iw (aK v) o):∃u,o=aK u/\qW v u:=by cases o with
 |none=>show(r).elim
 |some u=>show(u,rfl,r)
structure uF (k:Nat)(A:Around):Prop where
 hd:A.handled=n_
 dp:A.depth+3*k+5<recursionLimit
 un:A.units+16*k+200<lg
def uF.mono(r:uF k A)(h:j<=k):uF j A:=(r.hd,by have:=r.dp;lia,by have:=r.un;lia)
def uF.deeper(r:uF (k+1) A)env:uF k<|rp A env:=(r.hd,by have:=r.dp;change A.depth+1+3*k+5<_;lia,by have:=r.un;change ic A+3+16*k+200<_;lia)
def uF.in1(r:uF (k+1) A):uF k<|p9 A:=(r.hd,by have:=r.dp;change A.depth+3*k+5<_;lia,by have:=r.un;change ic A+1+16*k+200<_;lia)
def uF.depth(r:uF k A):A.depth<recursionLimit:=by have:=r.dp;lia
def uF.units(r:uF k A):ic A+64<lg:=by have:=r.un;lia
def wV:TA:=λZ H Q=>Q [] H
def uK(l:TE)(tr:TA):TA:=λσ H Q=>l σ H λx n=>tr σ n λxs r=>Q (x::xs) r
def oS:PA X [] wV:=λZ Z Z Z H Q I h=>t5 ([],H,I,j8,h)
def oP(ha:PE X e te)(hr:PA X es t)(r:↑(kO (e::es) X.env=%[f_|eval e<|iI X]::kO es X.env)):PA X (e::es)<|uK te t:=by intro pos n s σ H Q I h;rw[r];show sq<|ua (ha n s σ H _ I h) λu y l=>?_;have(x,z,B,C,E):=l;show ua (hr pos n y σ z _ B E) λP R l=>?_;have(G,J,L,M,O):=l;show(x::G,J,L,hL C M,O)
def ad7(t:TA):TE:=λσ H Q=>t σ H λxs l=>aX xs<=kK/\∀p,l p=n_->Q (cx p) (rG l p<|j6 xs)
def abI(t:TA):TE:=λσ H Q=>t σ H λxs l=>aX xs<=kK/\∀p,l p=n_->Q (cx p) (rG l p<|.lst xs)
def Kt(h:PA X es t):PE X (aAg es x1 pos)<|ad7 t:=by intro x s σ H Q I y;show wpAny_Tuple_spliced<|ua (h pos x s σ H _ I y) λB l o_=>?_;have(C,E,n,r,z,q):=o_;show(by rw[←iL r];show z,?_);have hf:=n.hok.fresh<|ab _;show(cx l⁻¹,rG E l⁻¹<|j6 C,n.laid (λb u e=>aa _ e) (ab _) ?_,rfl,q _ hf);show(z,B,r,(_,aA _ rfl,rfl,_,rfl))
def tm(h:PA X es t):PE X (.List es pos)<|abI t:=by intro x s σ H Q I y;show wpAny_List_spliced<|ua (h pos x s σ H _ I y) λB l o_=>?_;have(C,E,n,r,z,q):=o_;show(by rw[←iL r];show z,?_);have hf:=n.hok.fresh<|ab _;show(cx l⁻¹,rG E l⁻¹<|.lst C,n.laid (λb u e=>aa _ e) (ab _) ?_,rfl,q _ hf);show(z,B,0,r,aA _ rfl)
abbrev Sp:=List V->Hp->VK->XK->Prop
abbrev Ou:=List Env->Hp->Shared->XK->Value->Shared->Prop
structure Wb (P:kJ)(w:kM)(K:Ζ)(mg:Str->Υ)(base:Heap)(A:Around)(outer:List Env)(s:Shared)(H:Hp):Prop where
 frames:A.frames=aK outer
 mod:Mod K mg base
 bs:∀b o,base.get? b=aK o->s.heap.get? b=aK o/\H b=n_
 bsz:base.objs.size<=s⁻¹
 funs:s.heap.FunFrames base outer
 frf:∀b∈Uj outer,H b=n_
 hok:Dw P w H s.heap
 bare:nF s.gens
 tb:YI K H
def CE(outer:List Env)(P:kJ)(w:kM)(H:Hp)(s:Shared)(Q:VK)(u:Value)(l:Shared):Prop:=∃v n,l.os=s.os/\nF l.gens/\Un (Uj outer) [] H n s.heap l.heap/\Dw P w n l.heap/\qW v u/\Q v n
def CR(CX:Ou)(outer:List Env)(P:kJ)(w:kM)(H:Hp)(s:Shared)(Q:VK)(E:XK)(r:nV)(l:Shared):Prop:=match r with
 | T3 (pG u)=>CE outer P w H s Q u l
 | T3 _=>False
 | .error e=>CX outer H s E e l
structure An (P:kJ)(w:kM)(K:Ζ)(mg:Str->Υ)(base:Heap)(CX:Ou)(k:Nat)(f:Addr)(fd:lH)(ps:List Str)(sp:Sp):Prop where
 len:∀vs H Q E,sp vs H Q E->vs.length=ps.length
 run:∀(A:Around) (outer:List Env) (s:Shared) (H:Hp) (args:Args) (us:Ξ) (vs:List V) (Q:VK) (E:XK),uF k A->Wb P w K mg base A outer s H->oa s fd args (ps.zip us)->qr vs us->sp vs H Q E ->
  mq (kG P w) A (.call (.ref f) args) (CR CX outer P w H s Q E) s
def An.imp{K}(F:An P w K mg base CX k f fd ps sp)
  (h:∀vs H Q E,l vs H Q E->sp vs H Q E):An P w K mg base CX k f fd ps l:=(λvs H Q E q=>F.len vs H Q E<|h _ _ _ _ q,λA outer s H n r vs Q E hr t u x y=>F.run A outer s H n r vs Q E hr t u x<|h _ _ _ _ y)
section
variable {σ:St}
def Inv.env0(I:Inv X oO σ H s):Wb X.prog X.w X.K X.mg X.base X.A (we X) s H:=(I.ok.frames,I.ok.mod,I.bs,bH I.ok.bsz I.sz,I.stack,I.stkFree,I.hok,I.bare,I.tb)
def Inv.after(I:Inv X oO σ H s)(h:CE (we X) X.prog X.w H s Q u s'):EP X oO σ Q u s':=by have(v,n,os,bare,un,hok,r,q):=h;have(hh,g,d,t,l):=s';obtain rfl:l=s.os:=os;show(v,n,I.call un hok bare<|λb z=>absurd z ⋯,r,q)
end
def Mv(sp:Sp)(l:List V)(E:XK)(t:TA):TE:=λσ H Q=>t σ H λvs n=>sp (vs++l) n Q E
def xH(K:Ζ)(fd:lH)(ps:List Str)(ds:Ξ):Prop:=∀s us,K.In s.heap->aX (us++ds)=aX ps->oa s fd (us,[]) (ph ps<|us++ds)
def xH.all{K}(h:∀us:Ξ,aX us=aX ps->adE fd (us,[])=pure (ph ps us)):xH K fd ps []:=λs us Q hl=>by rw[aNq]at hl ⊢;show .of_eq<|h us hl
def P6(CX:Ou)(X:Cx)(E:XK):Prop:=∀n (σ:St) H s e l,Inv X n σ H s->CX (we X) H s E e l->X.xe e l
def ab2{σ:St}(F:An X.prog X.w X.K X.mg X.base CX k f fd ps sp)(hr:uF k X.A)(z:xH X.K fd ps ds)(hd:qr dvs ds)(B:P6 CX X E)
  (I:Inv X n σ H s) (r:qr vs us) (h:sp (vs++dvs) H Q E):kE (kG X.prog X.w) X.A (call (ao f) us) (EP X n σ Q) X.xe s:=by
 have y:=r.append hd;have hl:aX (us++ds)=aX ps:=by rw[←iL y];show F.len _ _ _ _ h
 show wpAny_call<|mZ (F.run X.A (we X) s H (us,[]) (us++ds) (vs++dvs) Q E hr I.env0 (z s us I.kIn hl) y h) λr G l=>?_;cases r with
 |error e=>show B n σ H s e G I l
 |ok fl=>cases fl with
  |ret u=>show I.after l
  |next=>show hD l
  |brk=>show hD l
  |cont=>show hD l
def YM(F:An X.prog X.w X.K X.mg X.base CX k f fd ps sp)(hr:uF k X.A)(z:Gl X x)(B:X.mg x=aK (ao f))(hk:aAu X.K (ao f)=t_)(G:xH X.K fd ps ds)(hd:qr dvs ds)(J:P6 CX X E)
  (ha:PA X (e::es) t) (l:⇑((x == ("__debug__" : Str))=f_)) (L:↑(kO (e::es) X.env=%[f_|eval e<|iI X]::kO es X.env)) (n:↑((mE pos<|kO es<|iI X).any (·.1)=f_)) :
  PE X (m8 (g9 x p) (e::es) [] pos)<|Mv sp dvs E t:=by intro M s σ H Q I h;show lY<|Rb I z B ?_ l;show W.callWith_K I.ok.mod.kin hk (ua (ha pos M s σ H _ I h) λO P u=>?_) L n;have(R,S,y,r,q):=u;show(y.kIn,?_);show ab2 F hr G hd J y r q
structure pS (N P:List Str)(sc:lX):Prop where
 kind:sc.kind = .function
 co:sc.isCoroutine=f_
 gen:sc.isGenerator=f_
 nd:N.Nodup
 pre:N.take P.length=P
 par:∀x∈P,sc.names.lookup x=aK .local∨sc.names.lookup x=aK .cell
 nofree:∀y∈sc.names,y.2 ≠ .free
theorem JK{kindOf}:∀{binds}{m:Str->Υ},(∀v,%[x|v]∉binds)->bindL kindOf binds m x=m x
 | [],_,_=>rfl
 | %[n|v]::r,m,h=>by
  unfold bindL;rw[JK λw hw=>h w<|mCo _ hw];split
  .have:x≠n:=by rintro rfl;show h v ai
   simp[this]
  .rfl
theorem Jb{kindOf}:∀{binds}{m:Str->Υ},(∀v,%[x|v]∉binds)->bindC kindOf binds m x=m x
 | [],_,_=>rfl
 | %[n|v]::r,m,h=>by
  unfold bindC;rw[Jb λw hw=>h w<|mCo _ hw];split;.rfl
  .have:x≠n:=by rintro rfl;show h v ai
   simp[this]
theorem JG{kindOf}:∀{P:List Str}{vs:Ξ}{i:Nat}{m:Str->Υ},c9 P->P[i]?=aK x->vs[i]?=aK v->kindOf x=aK kU ->
  bindL kindOf (ph P vs) m x=aK v
 | [],_,_,_,_,h,_,_=>by simp at h
 |_::_,[],_,_,_,_,h,_=>by simp at h
 |p::P,w::vs,0,m,nd,h1,h2,hk=>by simp at h1 h2;subst h1;subst h2;change bindL kindOf (%[p|w]::ph P vs) m p=_;unfold bindL;rw[JK λv l=>(az.mp nd).1 (gM l).1,qz hk];simp
 |p::P,w::vs,i+1,m,nd,h1,h2,hk=>by change bindL kindOf (%[p|w]::ph P vs) m x=_;show JG (az.mp nd).2 (by show h1) (by show h2) hk
theorem Jt{kindOf}:∀{P:List Str}{vs:Ξ}{i:Nat}{m:Str->Υ},c9 P->P[i]?=aK x->vs[i]?=aK v->kindOf x≠aK kU ->
  bindC kindOf (ph P vs) m x=aK v
 | [],_,_,_,_,h,_,_=>by simp at h
 |_::_,[],_,_,_,_,h,_=>by simp at h
 |p::P,w::vs,0,m,nd,h1,h2,hk=>by simp at h1 h2;subst h1;subst h2;change bindC kindOf (%[p|w]::ph P vs) m p=_;unfold bindC;rw[Jb λv l=>(az.mp nd).1 (gM l).1,qE hk];simp
 |p::P,w::vs,i+1,m,nd,h1,h2,hk=>by change bindC kindOf (%[p|w]::ph P vs) m x=_;show Jt (az.mp nd).2 (by show h1) (by show h2) hk
noncomputable def Ao(N:List Str)(vs:List V):St:=vs.map aK++aF (aX N-aX vs) n_
noncomputable def Lz(CX:Ou)(P:kJ)(w:kM)(K:Ζ)(mg:Str->Υ)(base:Heap)(N:List Str)(qual:Str)(scope:lX)(f:Addr)(cd:Value)(A:Around)(outer:List Env)(s:Shared)(H:Hp)(E:XK):Cx where
 prog:=P
 w:=w
 K:=K
 mg:=mg
 base:=base
 A:=rp A (mJ qual scope s⁻¹ f cd)
 N:=N
 s₀:=s
 H₀:=H
 env:=mJ qual scope s⁻¹ f cd
 outer:=outer
 stack:=mJ qual scope s⁻¹ f cd::outer
 ex:=[]
 calm:=t_
 fn:=λQ=>t_
 pn:=[]
 xe:=λe n=>kE (kG P w) (rp A<|mJ qual scope s⁻¹ f cd) (leaving (mJ qual scope s⁻¹ f cd) e) (λQ l=>CX outer H s E e l) (λr l=>CX outer H s E r l) n
def N4{l:lX}(h:l.names.lookup x=aK o6):∃c,(cellsFrom n (hZ l) []).lookup x=aK c:=by have q:=aBh (hZ l) n []<|jB h;show Option.isSome_iff_exists.mp q
def SE{K}
  (S:pS N ps scope) (hd:lL A=n_) (l:Wb P w K mg base A outer s H) (hl:aX vs=aX ps) (r:qr vs us)
  (x:InCallC s s⁻¹ (bindL (aAe<|mJ qual scope s⁻¹ f cd) (ph ps us) λZ=>n_) (cellsFrom (s⁻¹+1) (hZ scope) []) (bindC (aAe<|mJ qual scope s⁻¹ f cd) (ph ps us) λZ=>n_) J) :
  Inv (Lz CX P w K mg base N qual scope f cd A outer s H E) [] (Ao N vs) H J:=by
 have M:aX ps<=aX N:=by have:=congrArg aX S.pre;rw[lTq]at this;lia
 have(h1,Q,rfl,hk):=x.done;have t:∀b:Addr,b∉(Lz CX P w K mg base N qual scope f cd A outer s H E).ex:=λb z=>absurd (show b∈([]:Δ)from z) ⋯;show((l.mod,S.kind,rfl,rfl,ab _,λy z c h1 h2=>?_,λy B=>?_,λy c Z h=>?_,λZ=>hd,Uh l.frames,ir (rfl,rfl),λb z=>absurd z<|t b,l.bs,l.bsz,λb Z Z=>t b,λb z=>absurd z<|t b,l.funs,l.frf,l.tb),
  rfl,l.bare,Un.kept hk,(_,x.toInCall.ns,λi y v h1 h2 R=>?_),λy c h=>(_,x.cell y c h),l.hok.fresh<|ab _,λy c h=>?_,λp C=>absurd (show p∈([]:Φ)from C) ⋯,l.hok.kept hk,?_);.show name_of_addr x.apart (eL h1)<|eL h2
 .have B:scope.names.lookup y=aK o6∨scope.names.lookup y=aK p4:=B;obtain B|B:=B;.show N4 B
  .show absurd rfl<|S.nofree _<|eL B
 .show bQ<|x.above y c<|eL h
 .have I:i<aX vs:=by
   unfold Ao at h2;by_cases I:i<aX vs;.show I
   .rw[gYq<|by simpa using I]at h2;rw[cX]at h2;split at h2 <;> cases h2
  have ha:vs[i]?=aK v:=by unfold Ao at h2;rw[gZq<|by simpa using I,gMq]at h2;cases e:vs[i]? with
   |none=>rw[e]at h2;cases h2
   |some a=>rw[e]at h2;cases h2;rfl
  have(u,L,O):=r.get ha;have C:ps[i]?=aK y:=by rw[←S.pre,eD ∅];show h1
  have G:c9 ps:=by rw[←S.pre];show S.nd.sublist<|cO _ _
  show(u,O,?_);obtain k|k:=S.par y<|mGq C;.show jB (k,JG G C L k)
  .have(c,e):=N4 (n:=s⁻¹+1) k;show ir (jB k,c,e,?_);have q:=x.cell y c e;rw[Jt G C L<|by change scope.names.lookup y≠_;rw[k];decide]at q;show q
 .show l.hok.fresh<|bQ<|x.above y c<|eL h
 .unfold Ao;change _=aX N;rw[lAq,lMq,bz];ac_nf
def fn_of{K:Ζ}{kV}
  {X:Array Υ}(lk:K.lookup f=aK (oc,od,.func<|wh name qual l body scope dV kV O pm an C ct,X)) (Y:aAv K C qual=t_) (S:pS N ps scope)
  (len:∀vs H Q E,sp vs H Q E->aX vs=aX ps)
  (G:∀A outer s H vs Q E,uF k (rp A<|mJ qual scope s⁻¹ f C)->sp vs H Q E ->
   ∃t,LN (Lz CX P w K mg base N qual scope f C A outer s H E) body t/\t { nx:=λZ B=>Q pd B,rt:=Q } (Ao N vs) H) :
  An P w K mg base CX (k+1) f (wh name qual l body scope dV kV O pm an C ct) ps sp:=by
 show(len,λA outer s H args us vs Q E hr R hb r U=>?_);have hl:=len _ _ _ _ U;have KX:=R.mod.kin.keeps λb o e=>(R.bs b o e).1;have lim:=R.mod.nolimit.keeps λb o e=>(R.bs b o e).1;have L:∀y∈ph ps us,scope.names.lookup y.1=aK kU∨(scope.names.lookup y.1=aK o6/\j3 ((cellsFrom (s⁻¹+1) (hZ scope) []).lookup y.1)=t_):=λ⟨n,v⟩ hy=>by
  obtain q|q:=S.par n (gM hy).1;.show jB q
  .show ir (q,aBh _ _ _<|jB q)
 show codeAny_call_function hr.depth (KX _ _ lk) rfl S.co S.gen rfl (W.codeRec_of KX Y)<|hb _ _ _ _ ?_;show wpAny_newFunctionEnv_cells S.kind L λenv he s1 x=>?_;subst he;show(lim.keeps x.toInCall.keep,codeAny_func ?_);have(t,ht,hq):=G A outer s H vs Q E (hr.deeper _) U;have I:Inv (Lz CX P w K mg base N qual scope f C A outer s H E) [] (Ao N vs) H s1:=SE S hr.hd R hl r x;show lj (ht [] s1 (Ao N vs) H _ I hq) (λfl s' M=>?_) λe s' M=>M;have fin:∀{z:St}{B:Hp}{v:V}{u:Value},Inv (Lz CX P w K mg base N qual scope f C A outer s H E) [] z B s'->qW v u->Q v B->CE outer P w H s Q u s':=λ{z B v u} J rv q=>(v,B,J.os,J.bare,ql J,J.hok,rv,q);cases fl with
 |ret u=>have(v,z,B,J,rv,q):=M;show fin J rv q
 |next=>have(z,B,J,q):=M;show fin (v:=pd) J rfl q
 |brk=>have(_,_,_,q):=M;show hD q
 |cont=>have(_,_,_,q):=M;show hD q
section
variable {id:String}
def Ng(r:List V->Hp->VK->Prop)(t:TA):TE:=λσ H Q=>t σ H λvs l=>r vs l Q
def pO(z:uM X (kj id) r)(B:Gl X x)(C:X.mg x=n_)(E:mM x=aK (kj id))(ha:PA X (e::es) t)(hn:⇑(x ≠ "__name__"))(l:⇑((x == ("__debug__" : Str))=f_))
  (G:↑(kO (e::es) X.env=%[f_|eval e<|iI X]::kO es X.env)) (n:↑((mE pos<|kO es<|iI X).any (·.1)=f_)):PE X (m8 (g9 x p) (e::es) [] pos)<|Ng r t:=by intro y s σ H Q I h;show lY<|wX I B C E ?_ hn l;show jN (ua (ha pos y s σ H _ I h) λJ L u=>?_) G n;have(M,O,P,R,S):=u;show z y L σ O M J Q P R S
def vK(z:uM X (iD T) r)(B:Gl X x)(C:X.mg x=n_)(E:mM x=aK (iD T))(ha:PA X (e::es) t)(hn:⇑(x ≠ "__name__"))(l:⇑((x == ("__debug__" : Str))=f_))
  (G:↑(kO (e::es) X.env=%[f_|eval e<|iI X]::kO es X.env)) (n:↑((mE pos<|kO es<|iI X).any (·.1)=f_)):PE X (m8 (g9 x p) (e::es) [] pos)<|Ng r t:=by intro y s σ H Q I h;show lY<|wX I B C E ?_ hn l;show bC (ua (ha pos y s σ H _ I h) λJ L u=>?_) G n;have(M,O,P,R,S):=u;show z y L σ O M J Q P R S
end
end L2
open L2.V renaming ref->cx,int->c8,bl->lR,non->pd
open L2.HO renaming lst->et,tup->j6,dK->nB,frz->pT
open L2.Cx renaming prog->eT,env->iI,stack->we
open L2.qr renaming length->iL,append->GH
open L2.sN renaming of->kc
open L2.Dw renaming fresh->l6
open L2.Inv renaming list->oG,hok->t7
open L2.zd renaming of->o8
open L2.PW renaming pt->O2
namespace HT
open PySem PyProof.Rows
noncomputable def rM:Ϝ->Ϝ->Bool
 | [],[]=>f_
 | [],_::_=>t_
 |_::_,[]=>f_
 |x::xs,y::ys=>if x=y then rM xs ys else decide<|x<y
def xn x y(xs ys:Ϝ):rM (x::xs) (y::ys)=if x=y then rM xs ys else decide<|x<y:=rfl
def CP:rM [] []=f_:=rfl
def Bq y(ys:Ϝ):rM [] (y::ys)=t_:=rfl
def BY x(xs:Ϝ):rM (x::xs) []=f_:=rfl
def M0(A)s a t c u:∃e,aBz A s (iT a t) (iT c u) e/\(e=t_↔a=c):=((a == c),SeqAt.EqAt.int_int a t c u,by simp)
def M6(A)s a t c u prog w(E:Ψ)(Q:Ψ)(h:Q (eF<|decide<|a<c) s) :
  kE (kG prog w) A (nq .Lt (iT a t)<|iT c u) Q E s:=(kB h)
section
open PySem.SeqAt
open PySem.AutoSeq1 (wpAny_loadPart')
open PySem.MeetsSeq PySem.MeetsSeq2 PySem.MeetsSeq3
def IM l b(z r:Ω)n n2 dd dd2(sl sl2:Array Υ)(ns ms:Ϝ)(hi:lI (km z) ns)(hj:lI (km r) ms) :
  Meets (Builtin.«tuple.__lt__» ([ao l,ao b],[]))
   (λZ R s=>c7 (b7 s) l=aK { cls:=iD "tuple", dict:=dd,data:=k6 z n,slots:=sl }/\c7 (b7 s) b=aK { cls:=iD "tuple", dict:=dd2,data:=k6 r n2,slots:=sl2 } /\
    R (T3<|pG<|eF<|rM ns ms) s):=aB2 λprog w A R s h=>by
  have(S,g,d,U,os):=s;have(hl,hb,h):=h;have f2:=pe;have z1:z.size=aX ns:=by rw[←G1 hi];simp
  have z2:r.size=aX ms:=by rw[←G1 hj];simp
  wp_walk using wpAny_loadPart' hl,wpAny_loadPart' hb,wpAny_forIn_list _ (λtG b s'=>b.1=n_/\s'=(S,g,d,U,os)/\∃(X Y:Ξ) (C E:Ϝ),tG=ph X Y /\
   lI X C/\lI Y E/\aX C+r.size=aX E+z.size/\R (T3<|pG<|eF<|rM C E) (S,g,d,U,os)) _;case turn=>rintro⟨y,x⟩ tG b s' ⟨L,rfl,X,Y,C,E,G,M,H,B,I⟩;cases M with
   |nil=>rw[List.zip_nil_left]at G;cases G
   |cons a t P=>cases H with
    |nil=>rw[List.zip_nil_right]at G;cases G
    |cons c u Q=>rw[dw]at G;injection G with hyx O;injection hyx with hy hx;subst hy hx;rw[xn]at I;simp?[lCq]at B;have(e,he,J):=M0 A.in1 (S,g,d,U,os) a t c u;show kC<|he prog w _ _ ?_;cases e with
     |true=>rw[qz<|J.mp rfl]at I;wp_walk;show(rfl,rfl,_,_,_,_,O,P,Q,by lia,I)
     |false=>rw[qE<|λq=>absurd (e8 J q) aZ]at I;have hri:=M6 A.in1 (S,g,d,U,os) a t c u prog w;wp_walk using hri;show(_,rfl,by simpa using I)
  case fin=>
   rintro⟨b1,b2⟩ s' ⟨L,rfl,X,Y,C,E,G,M,H,B,I⟩;simp only at L;subst L;have hv:rM C E=decide (z.size<r.size):=by cases M with
    |nil=>cases H with
     |nil=>simp?[bj]at B;rw[CP];show(d8 ∅).symm
     |cons c u hw=>simp?[bj,lCq]at B;rw[Bq];show(d7 ∅).symm
    |cons a t hv=>cases H with
     |nil=>simp?[bj,lCq]at B;rw[BY];show(d8 ∅).symm
     |cons c u hw=>rw[dw]at G;cases G
   rw[hv]at I;wp_walk;show(_,rfl,by simpa[q9]using I)
  case h=>show(rfl,rfl,km z,km r,ns,ms,rfl,hi,hj,by lia,h)
end
section
variable {E:Ψ}
def Qg{t r:Ω}{ns ms:Ϝ}{Q:Ψ}(hl:IsTup s.heap l t)(L:IsTup s.heap b r)(M:lI (km t) ns)(O:lI (km r) ms)
  (P:ic A<lg) (h:Q (eF<|rM ns ms) s):kE (kG prog w) A (lV .Lt (ao l)<|ao b) Q E s:=by
 have((cls,dd,G,R),H,I,n,hd):=id hl;have((J,B,data2,C),u,y,S,z):=id L;simp only at I hd y z;subst I hd y z;show oD (op:=.Lt) (_,H,rfl) (_,u,rfl) aAi aAb (aA7 _ _) (IM l b t r n S dd B R C ns ms M O)
  (H,u,show eF (rM ns ms)≠Value.notImplemented/\Q (eF<|rM ns ms) s from ((λx=>nomatch x),h)) P
noncomputable def Jn(n d:Nat):Option Int->Nat
 |n_=>d
 |aK v=>if v<0 then jz<|v+(n:Int) else min (jz v) n
def Vs n d:Jn n d n_=d:=rfl
def Gr(n d k:Nat):Jn n d (aK (k:Int))=min k n:=by change(if (k)<0 then jz<|(k:Int)+(n) else min (jz (k:Int)) n)=min k n;rw[qE<|by ac_nf,cB]
end
end HT
open HT renaming Jn->p5,rM->IR
namespace L2
open PySem PySem.Spec PyProof.Rows
abbrev TO:=St->Hp->(Option Int->Hp->Prop)->Prop
def PO(X:Cx)(e:Option Expr)(t:TO):Prop:=∀l s (σ:St) H Q,Inv X l σ H s->t σ H Q ->
  kE (kG X.prog X.w) X.A (evalPart e<|iI X) (λu r=>∃o n,Inv X l σ n r/\IsPart u o/\Q o n) X.xe s
def Rz:TO:=λZ H Q=>Q n_ H
def aaj(t:TE):TO:=λσ H Q=>t σ H λx l=>∃i,x = c8 i/\Q (aK i) l
def yJ{ns:Ϝ}:∀{us},qr (ns.map c8) us->lI us ns:=by induction ns with
 |nil=>intro us r;rw[jm]at r;cases r;show .nil
 |cons n ns l=>intro us r;cases r with
  |cons s u=>have(t,e):=s;subst e;show .cons n t<|l u
section
variable {lo:Option Expr}
def Lo:PO X n_ Rz:=by intro l s σ H Q I h;show kF (n_,H,I,.none,h)
def xC(h:PE X e te):PO X (aK e)<|aaj te:=by intro n s σ H Q I hw;show ua (h n s σ H _ I hw) λu C l=>?_;have(x,r,y,z,B):=l;have(i,rfl,q):=B;have(t,rfl):=z;show(aK i,r,y,.int i t,q)
def SlR(X:Cx)(r:V->Option Int->Option Int->Hp->VK->Prop):Prop:=∀l s (σ:St) H x v n t lo hi sl Q,Inv X l σ H s->qW x v->jT (b7 s) sl n t gX->IsPart n lo->IsPart t hi->r x lo hi H Q ->
  ∃T id,mQ (iD T) "__getitem__" = pure (aK<|kj id)/\j7 s v T/\kE (kG X.prog X.w) X.A (aaJ v<|ao sl) (EP X l σ Q) X.xe s
def tSl(r:V->Option Int->Option Int->Hp->VK->Prop)(te:TE)(tl th:TO):TE:=λσ H Q=>te σ H λx n=>tl σ n λl s=>th σ s λu t=>r x l u t Q
def BC(hr:SlR X r)(G:PE X e te)(hl:PO X lo tl)(J:PO X hi th):PE X (pL e (.Slice lo hi n_ p2) pos)<|tSl r te tl th:=by intro t s σ H Q I h;show ado<|ua (G t s σ H _ I h) λv L n=>?_;have(x,M,O,P,R):=n;show wpAny_Slice<|ua (hl t L σ M _ O R) λz S n=>?_;have(l,U,Y,pl,q2):=n;show ua (J t S σ U _ Y q2) λB y C=>?_;have(u,E,I3,pu,q3):=C;show kF ?_;have I4:Inv X t σ E { y with heap:=ig (b7 y) { cls:=iD "slice", data:=fT #[z,B,gX] } }:=I3.kept λb ob q=>aa _ q;have(T,id,hT,ht,hg):=hr t { y with heap:=ig (b7 y) { cls:=iD "slice", data:=fT #[z,B,gX] } } σ E x v z B l u y⁻¹ Q I4 P (jT.new ..) pl pu q3;show tail_any ht hT hg<|by with_unfolding_all rfl
def VY(xs:List V)(lo hi:Option Int):List V:=(xs.drop<|p5 (aX xs) 0 lo).take<|p5 (aX xs) (aX xs) hi-p5 (aX xs) 0 lo
def N1(xs)lo hi:aX (VY xs lo hi)<=aX xs:=by unfold VY;rw[lTq,aL];lia
end
noncomputable def LV(n:Nat)(i:Int):Option Nat:=if 0<=i then (if i<n then aK<|jz i else n_)else if -(n:Int)<=i then aK<|jz<|i+n else n_
def atI{α:Type}(xs:List α)(i:Int):Option α:=cc (LV (aX xs) i) λj=>xs[j]?
def Q1(h:LV n i=aK j):aeH i n=aK j/\j<n/\-(n:Int)<=i/\i<n:=by
 unfold LV at h;by_cases h0:0<=i
 .rw[qz h0]at h;by_cases h1:i<n;.rw[qz h1]at h;have e:=aK.inj h;show(by rw[seqIndex_of h0 h1,e],by lia,by lia,h1)
  .rw[qE h1]at h;cases h
 .rw[qE h0]at h;by_cases h1:-(n)<=i;.rw[qz h1]at h;have e:=aK.inj h;show(by rw[seqIndex_neg ∅ h1,e],by lia,h1,by lia)
  .rw[qE h1]at h;cases h
def RW{xs:List α}{v}(h:atI xs i=aK v):∃j,aeH i (aX xs)=aK j/\xs[j]?=aK v/\j<aX xs/\-(aX xs:Int)<=i/\i<aX xs:=by unfold atI at h;cases e:LV (aX xs) i with
 |none=>rw[e]at h;cases h
 |some j=>rw[e]at h;have(h1,h2,l,n):=Q1 e;show(j,h1,h,h2,l,n)
def vd{xs:List α}{j:Nat}{v}(h:xs[j]?=aK v):atI xs (j:Int)=aK v:=by
 have l:=(gSq.mp h).1;have e:LV (aX xs) (j)=aK j:=by unfold LV;rw[qz<|by rfl',qz<|by ac_nf];simp
 unfold atI;rw[e];show h
def NR(xs:List α)v:atI (xs++[v]) (-1)=aK v:=by
 have hl:aX (xs++[v])=aX xs+1:=by simp
 have e:LV (aX<|xs++[v]) (-1)=aK (aX xs):=by unfold LV;rw[qE ⋯,qz<|by ac_nf];congr 1;ac_nf
 unfold atI;rw[e];simp
def Zy(b:Expr):Prop:=∀o i,oE b f_ o i=operate [o,i] (aaJ o i)
def IxR(X:Cx)(r:R2):Prop:=∀n l t s (σ:St) H x y v u Q,Inv X t σ H s->qW x v->qW y u->r x y H Q ->
  oE l f_ v u=operate [v,u] (aaJ v u)->kE (kG X.prog X.w) X.A (subscriptTail n l v u) (EP X t σ Q) X.xe s
def MtR(X:Cx)(id:String)(r:V->List V->Hp->VK->Prop):Prop:=∀l s (σ:St) H x xs v us Q,Inv X l σ H s->qW x v->qr xs us->r x xs H Q ->
  kE (kG X.prog X.w) X.A (call (kj id)<|v::us) (EP X l σ Q) X.xe s
section
def IxR.or(h:IxR X r)(E:IxR X r'):IxR X<|λx y H Q=>r x y H Q∨r' x y H Q:=by
 intro l n t s σ H x y v u Q I z B q C;obtain q|q:=q;.show h l n t s σ H x y v u Q I z B q C
 .show E l n t s σ H x y v u Q I z B q C
def tV(hr:IxR X r)(ha:PE X a ta)(l:PE X b tb)(n:Zy b):PE X (pL a b pos)<|XX r ta tb:=by intro t s σ H Q I h;show ado<|abu ha l I h λv u z x y B C E G q=>hr a b t z σ B x y v u Q C E G q<|n _ _
def UV(K:Ζ):R2:=λx y H Q=>∃p xs i v,x = cx p/\y = c8 i/\sN K H p xs/\atI xs i=aK v/\Q v H
def ZY(K:Ζ):R2:=λx y H Q=>∃p xs i v,x = cx p/\y = c8 i/\zd K H p xs/\atI xs i=aK v/\Q v H
def sy:IxR X<|UV X.K:=by
 intro l n G s σ H x y v u Q I M O h J;have(p,xs,i,z,rfl,rfl,P,R,q):=h;cases M;have(t,rfl):=O;have(B,r,C,hz):=oG I P;have(j,h1,h2,h3,S,U):=RW R;have(w,L,Ct):=r.get h2;have hl:=iL r;have hn:=Va;have fin:EP X G σ Q w s:=(z,H,I,Ct,q);by_cases h0:0<=i
 .have E:jz i=j:=by rw[seqIndex_of h0 U]at h1;show aK.inj h1
  show item_listR (eQ C) h0 ∅ (by rw[E];simpa using L) fin J
 .have E:jz (i+(B.toArray.size:Int))=j:=by rw[seqIndex_neg ∅ S]at h1;rw[aq,←hl];show aK.inj h1
  show oC (x:=w) C.isList.typeIs (aAf slot_list_getitem)
   (wpAny_getItem_list_neg (Q:=λr Y=>r=w/\EP X G σ Q r Y) (eQ C) ∅ (by rw[aq] <;> lia) ∅ (by rw[E];simpa using L) (rfl,fin)) J
def xR:IxR X<|ZY X.K:=by
 intro l n C s σ H x y v u Q I E G h J;have(p,R,i,z,rfl,rfl,L,M,q):=h;cases E;have(t,rfl):=G;have(O,r,B,S):=I.tuple L;have(j,h1,h2,U,Y,h5):=RW M;have(w,P,Ct):=r.get h2;have hl:=iL r;have hn:=Va;have fin:EP X C σ Q w s:=(z,H,I,Ct,q);show oC B.typeIs (aAf slot_tuple_getitem)
  (getItem_tuple B ∅ ∅ (by rw[aq,←hl];show h1) (by simpa using P) (rfl,fin)) J
def Ko(lo l)n:(mT lo l n_ n).1=((p5 n 0 lo:Nat):Int)/\(mT lo l n_ n).2.1=((p5 n n l:Nat):Int)/\(mT lo l n_ n).2.2=1:=by
 show(?_,?_,rfl);.cases lo with
  |none=>rfl
  |some i=>
   simp?[mT,p5,jC,show(1)>0 by decide,if_true];by_cases h:i<0;.simp?[h,if_true] <;> lia
   .simp?[h,if_false] <;> lia
 .cases l with
  |none=>rfl
  |some i=>
   simp?[mT,p5,jC,show(1)>0 by decide,if_true];by_cases h:i<0;.simp?[h,if_true] <;> lia
   .simp?[h,if_false] <;> lia
def IG(l:Ξ)lo n:slicePick (b9 l) lo n n_=b9 ((l.drop<|p5 (aX l) 0 lo).take<|p5 (aX l) (aX l) n-p5 (aX l) 0 lo):=by have(h1,h2,r):=Ko lo n l.toArray.size;unfold slicePick;simp?[h1,h2,r];simp?[sliceRange_one,pick_run,aq] <;> rfl
def ae3(K:Ζ):V->Option Int->Option Int->Hp->VK->Prop:=λx lo l H Q=>∃a xs,x = cx a/\sN K H a xs/\∀p,H p=n_->Q (cx p) (rG H p<|et<|VY xs lo l)
def D9:SlR X<|ae3 X.K:=by
 intro J s σ H x v L M lo t O Q I u y z B h;have(a,l,rfl,C,q):=h;cases u;have(E,r,ht,G):=oG I C;have n:=iL r;show("list", _,aAf slot_list_getitem,ht.isList.typeIs,?_);show og (eQ ht) y z B .none ⋯ ?_<|by rw[aq] <;> lia
 rw[IG,←n];show(cx s⁻¹,_,I.laid (λb ob q=>aa _ q) (ab _) ?_,rfl,q _<|l6 (t7 I)<|ab _);show(bH (N1 l lo t) G,_,0,(r.drop<|p5 (aX l) 0 lo).take<|p5 (aX l) (aX l) t-p5 (aX l) 0 lo,aA _ rfl)
def uM.or(h:uM X f r)(t:uM X f r'):uM X f<|λxs H Q=>r xs H Q∨r' xs H Q:=by
 intro l s σ H xs n Q I rs q;obtain q|q:=q;.show h l s σ H xs n Q I rs q
 .show t l s σ H xs n Q I rs q
def wF:uM X (iD "list")<|λxs H Q=>∃p ys,xs=[cx p]/\(sN X.K H p ys∨zd X.K H p ys)/\∀l,H l=n_->Q (cx l) (rG H l<|et ys):=by
 intro O s σ H xs R Q I r h;have(p,ys,rfl,B,q):=h;have(u,rfl,P):=vL r;cases P;have fin:∀t,qr ys t->aX ys<=kK->∀x y,(∀b M,c7 (b7 s) b=aK M->c7 x b=aK M) ->
   c7 x s⁻¹=aK { cls:=iD "list", dict:=n_,data:=k6 (b9 t) y,slots:=#[] }->EP X O σ Q (ao s⁻¹) { s with heap:=x }:=λt z C x y kp e=>(cx s⁻¹,_,I.laid kp (ab _)<|show tE X.prog X.w _ x _ (et ys)from (C,t,y,z,e),rfl,q _<|l6 (t7 I)<|ab _);obtain B|B:=B;.have(t,z,G,C):=oG I B;have E:=iL z;have(o,J,L,n,hd):=eQ G;show call_list_seq p (jB rfl) J L hd (λx y kp e=>fin t z C x y kp e)<|by simp?[aq] <;> lia
 .have(t,z,G,C):=I.tuple B;have E:=iL z;have(o,J,L,n,hd):=G;show call_list_seq p (ir rfl) J L hd (λx y kp e=>fin t z C x y kp e)<|by simp?[aq] <;> lia
def C0:uM X (iD "tuple")<|λxs H Q=>∃p ys,xs=[cx p]/\((sN X.K H p ys/\∀l,H l=n_->Q (cx l) (rG H l<|j6 ys))∨(zd X.K H p ys/\Q (cx p) H)):=by
 intro B s σ H xs M Q I r h;have(p,ys,rfl,h):=h;have(u,rfl,J):=vL r;cases J;obtain⟨x,q⟩|⟨x,q⟩:=h
 .have(n,y,z,C):=oG I x;have E:=iL y;show call_tuple_list (eQ z) (λt kp=>?_)<|by simp?[aq] <;> lia
  have G:Inv X B σ H { s with heap:=t }:=I.kept (t':=nc s) kp;have L:Inv X B σ (rG H t.objs.size<|j6 ys) { s with heap:=ig t { cls:=iD "tuple", data:=k6<|b9 n } }:=G.laid (t':=nc s) (λb o e=>aa _ e) (ab _)<|show tE X.prog X.w _ _ _ (j6 ys)from (C,n,y,IsTup.new _ _);show(cx t.objs.size,_,L,rfl,q _<|l6 (t7 G)<|ab _)
 .have(n,y,z,C):=I.tuple x;show call_tuple_same z (cx p,H,I,rfl,q)
def tyV(K:Ζ)(T:String)(x:V)(H:Hp):Prop:=match x with
 | .str _=>T = "str"
 | c8 _=>T = "int"
 | cx p=>(T = "list" /\ ∃xs,sN K H p xs)∨(T = "tuple" /\ ∃o,K.lookup p=aK o/\o.cls = iD "tuple" /\ o.dict=n_) ∨
   (T = "dict" /\ ((∃kvs,H p=aK (nB kvs))∨∃kvs,H p=aK (.dT kvs)))∨(T = "set" /\ ∃S n,H p=aK (.set S n))
 |_=>False
def VW{σ:St}(I:Inv X B σ H s)(r:qW x v)(ty:tyV X.K T x H) :
  j7 s v T/\∀a,v = ao a->∃ob,c7 (b7 s) a=aK ob/\ob.dict=n_:=by cases x with
 |str z=>have(t,rfl):=r;cases(ty);show(typeIs_str s z t,λQ e=>nomatch e)
 |int i=>have(t,rfl):=r;cases(ty);show(typeIs_int s i t,λQ e=>nomatch e)
 |ref p=>
  cases r;obtain⟨rfl,J,C⟩|⟨rfl,o,hk,E,hd⟩|⟨rfl,hk⟩|⟨rfl,S,n,hk⟩:=ty;.have(G,_,y,_):=oG I C;show(y.isList.typeIs,λa e=>?_);cases e;have(o,n,e,c,hd,_):=y;show(o,e,hd)
  .show((o,I.kIn p o hk,E),λa e=>?_);cases e;show(o,I.kIn _ o hk,hd)
  .have z:∃o,c7 (b7 s) p=aK o/\o.ExactDict:=by
    obtain⟨l,hk⟩|⟨l,hk⟩:=hk;.have(_,_,_,_,o,_,_,e,ex,_):=t7 I p _ hk;show(o,e,ex)
    .have(_,_,_,_,o,_,_,e,ex,_):=t7 I p _ hk;show(o,e,ex)
   have(o,e,ex):=z;show((o,e,ex.1),λa u=>?_);cases u;show(o,e,ex.2.1)
  .have(o,_,_,_,e,ex,_):=t7 I p _ hk;show((o,e,ex.1),λa u=>?_);cases u;show(o,e,ex.2.1)
 |_=>show hD ty
def aeP(K:Ζ)(T:String)(r:V->List V->Hp->VK->Prop)(to:TE):TE:=λσ H Q=>to σ H λx l=>tyV K T x l/\r x [] l Q
def Ui(K:Ζ)(T:String)(r:V->List V->Hp->VK->Prop)(to:TE)(t:TA):TE:=λσ H Q=>to σ H λx l=>tyV K T x l/\t σ l λxs n=>r x xs n Q
variable {id:String}
def Pl(E:PlainAttrs T)(slot:Slot T name id)(u:typeOf (kj id)=pure (iD "method_descriptor"))(G:MtR X id r)(J:PE X o to)
  (l:↑(attributeBase o name X.env (eval o<|iI X)=eval o X.env)) (n:↑((apos.endLine == cpos.line)=t_)):PE X (m8 (.Attribute o name apos) [] [] cpos)<|aeP X.K T r to:=by intro z s σ H Q I h;show wpAny_Call_method0_late l n<|ua (J z s σ H _ I h) λv L y=>?_;have(x,M,B,C,ty,O):=y;have(h1,h2):=VW B C ty;show(T,id,E,slot,u,h1,h2,Td rfl<|PySem.evalArgs_none<|G z L σ M x [] v [] Q B C j8 O)
def uE(L:PlainAttrs T)(slot:Slot T name id)(B:typeOf (kj id)=pure (iD "method_descriptor"))(M:MtR X id r)(O:PE X o to)(ha:PA X (e::es) t)
  (n:↑(attributeBase o name X.env (eval o<|iI X)=eval o X.env))
  (z:↑(((mE cpos<|kO (e::es)<|iI X).all (λx=>!x.1) && (backToKw cpos<|keywordEach []<|iI X).all (λx=>j3 x.1)
   && decide (aX (e::es)+aX ([]:List Keyword)+(if ([]:List Keyword).isEmpty then 0 else 1)<30))=t_))
  (u:↑((apos.endLine == cpos.line)=t_)) (P:↑(kO (e::es) X.env=%[f_|eval e<|iI X]::kO es X.env)) (l:↑((mE cpos<|kO es<|iI X).any (·.1)=f_)) :
  PE X (m8 (.Attribute o name apos) (e::es) [] cpos)<|Ui X.K T r to t:=by intro C s σ H Q I h;show wpAny_Call_method_late n z u rfl<|ua (O C s σ H _ I h) λv R y=>?_;have(x,S,E,G,ty,U):=y;have(h1,h2):=VW E G ty;show(T,id,L,slot,B,h1,h2,?_);have J:=ha cpos C R σ S _ E U;rw[P]at J ⊢;show Td (by change(f_ || (mE cpos<|kO es<|iI X).any (·.1))=f_;rw[l] <;> rfl)<|Calls.evalArgs_plain ?_;show ua J λY s2 y=>?_;have(vs,H2,I2,r2,q2):=y;show M C s2 σ H2 x vs v Y Q I2 G r2 q2
/- xs.append(e),list.index on a module's tuple .. are MtR facts of 06m -/
end
def MtM(X:Cx)(id:String)(r:V->List V->Hp->VK->Prop):Prop:=∀l s (σ:St) H x xs v us Q,Inv X l σ H s->qW x v->qr xs us->r x xs H Q ->
  kE (kG X.prog X.w) X.A (call (kj id)<|v::us) (EP X l σ Q) X.xe s
def qr.one:∀{x}{us},qr [x] us->∃u,us=[u]/\qW x u
 |_,_,hL r j8=>(_,rfl,r)
def qr.two:∀{x y}{us},qr [x,y] us->∃u v,us=[u,v]/\qW x u/\qW y v
 |_,_,_,hL r (hL q j8)=>(_,_,rfl,r,q)
def qr.zero:∀{us},qr [] us->us=[]
 |_,j8=>rfl
def qr.dropLast(h:qr xs us):qr (o5 xs)<|o5 us:=by induction h with
 |nil=>show j8
 |cons r t l=>cases t with
  |nil=>show j8
  |cons q n=>show hL r l
theorem qr.eraseIdx:∀{xs}{us}i,qr xs us->qr (fC xs i) (fC us i)
 |_,_,_,j8=>j8
 |_,_,0,hL _ t=>t
 |_,_,i+1,hL r t=>hL r<|qr.eraseIdx i t
def qr.reverse(h:qr xs us):qr (hY xs)<|hY us:=by induction h with
 |nil=>show j8
 |cons r t l=>rw[gf,gf];show GH l<|hL r j8
def Dt{α:Type}(l:List α):fC l (aX l-1)=o5 l:=by induction l with
 |nil=>rfl
 |cons a r n=>cases r with
  |nil=>rfl
  |cons b r=>
   have e:aX (a::b::r)-1=(aX (b::r)-1)+1:=by have h1:aX (a::b::r)=aX r+2:=rfl;have h2:aX (b::r)=aX r+1:=rfl;rfl'
   rw[e,cG,n];all_goals rfl
theorem Ji{α:Type}:∀(l:List α) i,aX (fC l i)<=aX l
 | [],_=>ab _
 |_::_,0=>bI _
 |_::r,i+1=>gu<|Ji r i
section
variable {σ:St}
def Inv.lset{t:Ξ}{f:Ω->Ω}(I:Inv X oO σ H s)(x:H l=aK (et xs))
  (e:c7 (b7 s) l=aK { cls:=iD "list", data:=k6 (b9 t) n }) (hf:f (b9 t)=b9 r) (y:qr ys r) (hz:aX ys<=kK) :
  Inv X oO σ (rG H l<|et ys) { s with heap:=fi (b7 s) l (cS f),toks:=t' }:=by have q:=PySem.IsL.update e f;rw[hf]at q;show I.write (by rw[x];show trivial) (jB rfl) (λC u z B=>eI (bO s.heap (cS f)<|h7 z) B) (_,q) ?_;show(hz,r,_,y,q)
def Inv.lnew(I:Inv X oO σ H s)(r:qr ys n)(hz:aX ys<=kK) :
  Inv X oO σ (rG H s⁻¹<|et ys) { s with heap:=ig (b7 s) { cls:=iD "list", data:=k6<|b9 n },toks:=t' }:=I.laid (λQ Q q=>aa _ q) (ab _) (hz,n,0,r,aA _ rfl)
def Inv.fresh(I:Inv X oO σ H s):H s⁻¹=n_:=l6 (t7 I)<|ab _
def Inv.lstM(I:Inv X oO σ H s)(u:H l=aK (et xs)):aX xs<=kK/\∃t n,qr xs t/\aX xs=aX t/\c7 (b7 s) l=aK { cls:=iD "list", data:=k6 (b9 t) n }:=by have(z,t,n,r,e):=t7 I l _ u;show(z,t,n,r,iL r,e)
def MM(h:n<=kK):l7 n=f_:=by show d8<|by ac_nf
end
def Cz:V->List V->Hp->VK->Prop:=λx vs H Q=>∃l xs y,x = cx l/\vs=[y]/\H l=aK (et xs)/\aX xs<kK/\Q pd (rG H l<|et<|xs++[y])
def rA:MtM X "list.append" Cz:=by intro J s σ H x L v M Q I C E h;have(l,O,y,rfl,rfl,B,P,q):=h;cases C;have(u,rfl,G):=E.one;have(z,t,n,r,hl,e):=I.lstM B;show mv aN (_,e,rfl) F.entry_list_append (F.args_list_append_2 _ _) (PySem.list_append l (b9 t) n u<|by rw[aq];lia) (e,?_);show(pd,_,I.lset B e ⋯ (GH r<|hL G j8) ?_,rfl,q);rw[lAq,lSq];rfl'
def Rw:V->List V->Hp->VK->Prop:=λx vs H Q=>∃l b xs n,x = cx l/\vs=[cx b]/\H l=aK (et xs)/\H b=aK (et n)/\aX xs+aX n<=kK/\Q pd (rG H l<|et<|xs++n)
def CA:MtM X "list.extend" Rw:=by
 intro U s σ H x Y v us Q I G J h;have(l,b,xs,zs,rfl,rfl,E,L,hz,q):=h;cases G;have(u,rfl,M):=J.one;cases M;have(z,y,n,r,hl,e):=I.lstM E;have(z2,t,O,P,R,S):=I.lstM L;have C:y.toArray.size+t.toArray.size<=kK:=by rw[aq,aq];lia
 have B:¬ (!y.toArray.isEmpty && l7 (y.toArray.size+t.toArray.size))=t_:=by rw[MM C,jU];show aZ
 show mv dA (_,e,rfl) aB1 (aAw _ _)
  (AutoSeq1.list_extend_list_list_0 l (b9 y) n b (b9 t) O B ∅<|by rfl') (e,S,?_);show(pd,_,I.lset E e ⋯ (GH r P) ?_,rfl,q);rw[lAq];rfl'
def aaP:V->List V->Hp->VK->Prop:=λx vs H Q=>∃l xs y,x = cx l/\vs=[]/\H l=aK (et xs)/\xs[aX xs-1]?=aK y/\Q y (rG H l<|et<|o5 xs)
def Qd:MtM X "list.pop" aaP:=by
 intro P s σ H x R v S Q I G J h;have(l,U,y,rfl,rfl,E,L,q):=h;cases G;have B:=J.zero;subst B;have(z,t,n,r,hl,e):=I.lstM E;have(u,M,O):=r.get L;have C:=by change (b9 t)[aX t-1]?=aK u;rw[←fe,←hl];show M
 show mv dr (_,e,rfl) aBi (F.args_list_pop_1 _) (MeetsSeq.list_pop_last l (b9 t) n u C<|by rw[aq];lia) (e,?_);show(y,_,I.lset E e ?_ r.dropLast ?_,O,q);.rw[aq,gv,Dt]
 .rw[List.length_dropLast];lia
def XM:V->List V->Hp->VK->Prop:=λx vs H Q=>∃l xs i k y,x = cx l/\vs=[c8 i]/\H l=aK (et xs)/\-(2 ^ 63)<=i/\i<2 ^ 63/\aeH i (aX xs)=aK k/\xs[k]?=aK y/\Q y (rG H l<|et<|fC xs k)
def G0:MtM X "list.pop" XM:=by
 intro O s σ H x P v R Q I E G h;have(l,J,i,k,y,rfl,rfl,C,h1,h2,hk,L,q):=h;cases E;have(u,rfl,M):=G.one;have(t,rfl):=M;have(z,B,n,r,hl,e):=I.lstM C;have(w,hw,Ct):=r.get L;show mv dr (_,e,rfl) aBi (F.args_list_pop_2 _ _)
  (MeetsSeq.list_pop_at l (b9 B) n i t k w (fitsIndex_both h1 h2) (by rw[aq,←hl];show hk) (by rw[←fe];show hw)<|by rw[aq];lia) (e,?_);show(y,_,I.lset C e ?_ (r.eraseIdx k) ?_,Ct,q);.rw[gv]
 .have:=Ji J k;lia
def aew:R2:=λx y H Q=>∃l b xs n,x = cx l/\y = cx b/\H l=aK (et xs)/\H b=aK (et n)/\aX xs+aX n<=kK/\∀p,H p=n_->Q (cx p) (rG H p<|et<|xs++n)
def Dp:Fk X (nh .Add) aew:=by
 intro R s σ H x y v u Q I C E h;have(l,b,S,U,rfl,rfl,G,J,Y,q):=h;cases C;cases E;have(z,B,n,r,hl,e):=I.lstM G;have(z2,t,n2,L,M,O):=I.lstM J;show PySem.P.add_list e O ?_<|by rw[aq,aq];lia
 have P:b9 B++b9 t=b9 (B++t):=by simp
 rw[P];show(cx _,_,I.lnew (GH r L)<|by rw[lAq];rfl',rfl,q _ I.fresh)
section
variable {κ:Type}[DecidableEq κ]
noncomputable def DR(kvs:List<|κ×V)(k:κ):Option V:=(kvs.find? λkv=>decide<|kv.1=k).map (·.2)
def zh(kvs:List<|κ×V)(k:κ)(v:V):List<|κ×V:=if (kvs.any λkv=>decide<|kv.1=k)=t_ then kvs.map (λkv=>if kv.1=k then %[kv.1|v]else kv)else kvs++[%[k|v]]
def HI{p:κ×V}(e:p.1=k):DR (p::r) k=aK p.2:=by simp[DR,eY,e]
def GW{p:κ×V}(e:¬ p.1=k):DR (p::r) k=DR r k:=by simp[DR,eY,e]
theorem Nr k:∀kvs:List<|κ×V,(kvs.any λkv=>decide<|kv.1=k)=j3 (DR kvs k)
 | []=>rfl
 |p::r=>by
  rw[fH];by_cases e:p.1=k;.simp?[HI e,d7 e,Bool.true_or,fX]
  .rw[GW e,d8 e];show Nr k r
def zp(kvs:List<|κ×V)k v:aX (zh kvs k v)<=aX kvs+1:=by
 unfold zh;split;.rw[lMq];rfl'
 .simp?[lAq,lCq,bj];rfl'
def Iw.isSome_eq(r:Iw o u):j3 o=j3 u:=by cases o with
 |none=>cases u with
  |none=>rfl
  |some _=>show(r).elim
 |some _=>cases u with
  |none=>show(r).elim
  |some _=>rfl
def KV.val{kvs:List<|κ×V}(r:KV kvs vs)k:Iw (DR kvs k)<|aaD vs k:=by induction r with
 |nil=>show p6
 | @cons p q ps l h t s=>
  have(h1,h2):=h;by_cases e:p.1=k
  .have n:=eI (fQ h1) e;have b:aaD (q::l) k=aK q.2:=by simp[aaD,eY,n]
   rw[HI e,b];show h2
  .have n:¬ q.1=k:=λz=>e<|eI h1 z;have b:aaD (q::l) k=aaD l k:=by simp[aaD,eY,n]
   rw[GW e,b];show s
def KV.any{kvs:List<|κ×V}(r:KV kvs vs)k:(kvs.any λkv=>decide<|kv.1=k)=vs.any λkv=>decide<|kv.1=k:=by induction r with
 |nil=>rfl
 |cons h t l=>simp?[fH,fH,l,h.1]
def KV.repl{kvs:List<|κ×V}(r:KV kvs vs)k(l:qW y u) :
  KV (kvs.map λkv=>if kv.1=k then %[kv.1|y]else kv)<|vs.map λkv=>if kv.1=k then %[kv.1|u]else kv:=by induction r with
 |nil=>show j8
 | @cons p q ps s h t n=>
  simp?[ax,ax];show hL ?_ n;have(h1,h2):=h;by_cases e:p.1=k;.rw[qz e,qz<|eI (fQ h1) e];show(h1,l)
  .rw[qE e,qE<|λz=>e<|eI h1 z];show(h1,h2)
def KV.put{kvs:List<|κ×V}(r:KV kvs vs)k(l:qW y u):KV (zh kvs k y)<|nK vs k u:=by
 unfold zh nK;rw[r.any k];by_cases e:(vs.any λkv=>decide<|kv.1=k)=t_;.rw[qz e,qz e];show r.repl k l
 .rw[qE e,qE e];show aBj r (rfl,l)
def KV.length{kvs:List<|κ×V}(r:KV kvs vs):aX kvs=aX vs:=nE r
end
def LO(r:qW (kV k) u):(rK P w).is k u=t_:=by cases k with
 |inl i=>have(t,e):=(r);subst e;show Mk P w i t
 |inr x=>have(t,e):=(r);subst e;show N8 P w x t
theorem IS:∀{ks}{us},qr (ks.map kV) us->ItemsAre (rK P w) ks us
 | [],_,r=>by cases r;show .nil
 |k::ks,_,r=>by cases r with
  |cons h t=>show .cons (LO h)<|IS t
abbrev KT(H:Hp):List (List pZ×V)->List (List pZ×Addr×Value)->Prop:=Paired λp q=>p.1=q.1/\H q.2.1=aK (j6<|p.1.map kV)/\qW p.2 q.2.2
def KT.val(r:KT H kvs xs)k:Iw (DR kvs k) ((atKey xs k).map (·.2)):=by induction r with
 |nil=>show p6
 | @cons p q ps l h t s=>
  have(h1,_,h2):=h;by_cases e:p.1=k
  .have n:=eI (fQ h1) e;have b:atKey (q::l) k=aK q.2:=by simp[atKey,eY,n]
   rw[HI e,b];show h2
  .have n:¬ q.1=k:=λz=>e<|eI h1 z;have b:atKey (q::l) k=atKey l k:=by simp[atKey,eY,n]
   rw[GW e,b];show s
def KT.repl(r:KT H kvs xs)k(l:qW y u) :
  KT H (kvs.map λkv=>if kv.1=k then %[kv.1|y]else kv)<|xs.map<|putAt k u:=by induction r with
 |nil=>show j8
 | @cons p q ps x h t n=>
  rw[ax];show hL ?_ n;have(h1,h2,s):=h;unfold putAt;by_cases e:p.1=k;.rw[qz e,qz<|eI (fQ h1) e];show(h1,h2,l)
  .rw[qE e,qE<|λz=>e<|eI h1 z];show(h1,h2,s)
def KT.put(r:KT H kvs xs)k(n:H b=aK (j6<|k.map kV))(l:qW y u) :
  KT H (zh kvs k y)<|storedH xs k b u:=by
 have e:(kvs.any λkv=>decide<|kv.1=k)=j3 (atKey xs k):=by rw[Nr,(r.val k).isSome_eq,dZ]
 unfold zh storedH;rw[e];by_cases q:j3 (atKey xs k)=t_;.rw[qz q,qz q];show r.repl k l
 .rw[qE q,qE q];show aBj r (rfl,n,l)
def KT.keeps(r:KT H kvs xs)(ht:∀b ys,H b=aK (j6 ys)->l b=aK (j6 ys)):KT l kvs xs:=Paired.mapP r λQ Q z=>(z.1,ht _ _ z.2.1,z.2.2)
def aae(ok:Dw P w H h)(e:Rd H a u):tE P w H h a u:=e.ok ok
def JP(ok:Dw P w H h)(e:Rd H a<|nB kvs):aX kvs<=kK/\(a == mF)=f_/\∃vs,KV kvs vs/\h.DictOf (rK P w) a vs:=aae ok e
def aat(ok:Dw P w H h)(e:H a=aK (nB kvs)):aX kvs<=kK/\(a == mF)=f_/\∃vs,KV kvs vs/\h.DictOf (rK P w) a vs:=JP ok<|jB e
def JW(ok:Dw P w H h)(e:H a=aK (j6<|ks.map kV)):(oy<|rK P w).is h ks a:=by have(_,l,r,o,h1,h2,n,s):=(ok a _ e);show(o,b9 l,n,h1,h2,s,by show IS r)
def L3(ok:Dw P w H h)(e:Rd H a<|.dT kvs):aX kvs<=kK/\(a == mF)=f_ /\
  ∃xs,KT H kvs xs/\h.DictOfH (oy<|rK P w) a xs:=by
 have(z,y,xs,r,o,u,B,h1,h2,C,E,G):=(aae ok e);show(z,y,xs,r,o,u,B,h1,h2,C,E,λx n=>?_,G);have all:∀{l:List<|List pZ×V}{m:List<|List pZ×Addr×Value},KT H l m->∀x∈m,(oy<|rK P w).is h x.1 x.2.1:=by intro l m q;induction q with
  |nil=>intro x n;show nomatch n
  | @cons p q ps J s t I=>
   intro x n;obtain e|n:=ag.mp n;.subst e;show JW ok<|by rw[←s.1];show s.2.1
   .show I x n
 show all r x n
def ae9(ok:Dw P w H h)(e:H a=aK (.dT kvs)):aX kvs<=kK/\(a == mF)=f_ /\
  ∃xs,KT H kvs xs/\h.DictOfH (oy<|rK P w) a xs:=L3 ok<|jB e
def Ir(H:Hp)(a:Addr)(y:V)(r:Option V):Prop:=(∃kvs k,Rd H a (nB kvs)/\y=kV k/\r=DR kvs k)∨∃kvs k b,Rd H a (.dT kvs)/\y = cx b/\H b=aK (j6<|k.map kV)/\r=DR kvs k
def UX(H:Hp)(a:Addr)(y v:V)(l:Hp):Prop:=(∃kvs k,H a=aK (nB kvs)/\y=kV k/\aX kvs<kK/\l=rG H a (nB<|zh kvs k v)) ∨
 ∃kvs k b,H a=aK (.dT kvs)/\y = cx b/\H b=aK (j6<|k.map kV)/\aX kvs<kK/\l=rG H a (.dT<|zh kvs k v)
def Ir.k{k}(e:H a=aK (nB kvs)):Ir H a (kV k)<|DR kvs k:=jB (kvs,k,jB e,rfl,rfl)
def UX.k{k}(e:H a=aK (nB kvs))(hl:aX kvs<kK):UX H a (kV k) v<|rG H a<|nB<|zh kvs k v:=jB (kvs,k,e,rfl,hl,rfl)
section
variable {σ:St}{E:Ψ}
def Inv.big(I:Inv X oO σ H s):mF<s⁻¹:=by have h:=(I.mod.glob.keeps I.bk).lt;show iF ⋯ h
def SH{Q:Ψ}(L:ic A+1<lg)(I:Inv X oO σ H s)(g:Ir H a y<|aK v)(G:qW y u)(h:∀t J,Inv X oO σ H J->qW v t->Q t J) :
  kE (kG X.prog X.w) A (aaJ (ao a) u) Q E s:=by
 obtain⟨x,k,e,B,l⟩|⟨x,k,b,e,B,M,l⟩:=g
 .subst B;have(z,hd,P,n,dd):=JP I.hok e;have(t,hw,Ct):=Iw.some_of<|by rw[l];show n.val k
  show wpAny_getItem_of (LO G) dd.mapOf hw<|h t _ (I.tok _) Ct
 .subst B;cases(G);have(z,hd,R,n,dd):=L3 I.hok e;have(t,hw,Ct):=Iw.some_of<|by rw[l];show n.val k
  have(p,O,C):=oMq.mp hw;show wpAny_getItem_heap (nS L) (JW I.hok M) dd O ?_;rw[C];show h t _ (I.tok _) Ct
def YL{Q:Ψ}(G:ic A+1<lg)(I:Inv X oO σ H s)(g:Ir H a y o)(B:qW y u)(h:∀C,Inv X oO σ H C->Q (eF<|!j3 o) C) :
  kE (kG X.prog X.w) A (lV S3 u<|ao a) Q E s:=by
 obtain⟨t,k,e,x,l⟩|⟨t,k,b,e,x,J,l⟩:=g;.subst x;have(z,hd,L,n,dd):=JP I.hok e;show wpAny_notIn_of (LO B) hd dd.mapOf ?_;rw[← (n.val k).isSome_eq,←l];show h _<|I.tok _
 .subst x;cases(B);have(z,hd,M,n,dd):=L3 I.hok e;show wpAny_notIn_heap (nS G) (JW I.hok J) hd dd ?_;have q:=(n.val k).isSome_eq;rw[dZ]at q;rw[←q,←l];show h _<|I.tok _
def Ki(I:Inv X oO σ H s)(mu:Mut<|H a)(n:cP a s.heap l)(t:∃q,c7 l a=aK q)(new:tE X.prog X.w (rG H a ob) l a ob) :
  Inv X oO σ (rG H a ob) { s with heap:=l,toks:=t' }:=I.write mu (jB rfl) (λb q x z=>eI (n.2 b x) z) t new
def Kk(z:aX kvs<=kK)(hd:(a == mF)=f_)(l:KV kvs vs)(dd:n.DictOf (rK P w) a vs) :
  tE P w t n a<|nB kvs:=(z,hd,vs,l,dd)
def TQ(hu:ic A+1<lg)(I:Inv X oO σ H s)(g:UX H a y v L)(M:qW y u)(O:qW v r)(h:∀P,Inv X oO σ L P->Q () P) :
  kE (kG X.prog X.w) A (setItem (ao a) u r) Q E s:=by
 obtain⟨n,k,e,C,l,G⟩|⟨n,k,b,e,C,R,l,G⟩:=g
 .subst C G;have(z,hd,vs,t,dd):=aat I.hok e;have S:aX vs<=kK:=by rw[←t.length];show z
  have hl:aX (zh n k v)<=kK:=by have:=zp n k v;lia
  show wpAny_setItem_pairs (hsz:=S) (LO M) dd λU x J=>h _ ?_;have he:∃q,c7 U a=aK q:=let ⟨q,_,_,B,_⟩:=x;(q,B);show Ki I (by rw[e];show p6) J he<|Kk hl hd (t.put k O) x
 .subst C G;cases(show u=ao b from M);have(z,hd,xs,t,dd):=ae9 I.hok e;have S:aX xs<=kK:=by rw[←nE t];show z
  have hl:aX (zh n k v)<=kK:=by have:=zp n k v;lia
  show wpAny_setItem_heap (nS hu) (JW I.hok R) dd λU x J=>h _ ?_;have(q,es,ep,B,h2,h3,h4,_,h5):=x;show Ki I (by rw[e];show p6) J (q,B) (hl,hd,_,(t.put k R O).keeps λc ys Y=>?_,q,es,ep,B,h2,h3,h4,h5);rw[pI<|adM Y e<|λz=>nomatch z];show Y
end
section
variable {σ:St}{E:Ψ}
def aev{Q:Ψ}(I:Inv X oO σ H s)(e:Rd H a<|nB kvs)(h:∀t n,Inv X oO σ H n->Q (iT (aX kvs) t) n):kE (kG X.prog X.w) A (call (kj "len") [ao a]) Q E s:=by have(z,hd,r,l,dd):=JP I.hok e;show call_len_dict hd dd (by rw[←l.length];rw[lh]at z;lia) ?_;rw[←l.length];show h _ _<|I.tok _
end
def aeh(i:Expr):Prop:=∀l n,oE i f_ l n=operate [l,n] (aaJ l n)
def Yg{E:Ψ}{id}{Q:Ψ}
  (hl:mQ (iD T) "__getitem__" = pure (aK<|kj id)) (G:aeh l)
  (h:kE (kG prog w) A (eval n env) (λo y=>kE (kG prog w) A (eval l env) (λi t=>j7 t o T/\kE (kG prog w) A (aaJ o i) Q E t) E y) E s) :
  kE (kG prog w) A (eval (pL n l pos) env) Q E s:=by
 show ado<|lj h (λo y B=>lj B (λi t u=>?_) λZ Z x=>x) λZ Z x=>x;have(H,u):=u;show kC ?_;show kC<|wpAny_specialOf H hl ?_;have fin:kE (kG prog w) A (oE l f_ o i) (λr z=>kE (kG prog w) A (letTemporaryGo n o r >>= λZ=>pure r) Q E z) E t:=by rw[G o i];show wpAny_operating<|lj u (λr z C=>kC<|wpAny_letTemporaryGo<|kF C) λZ Z x=>x
 first
  |show kF<|kC fin
  |show kC<|kF<|kC fin
  |show kC fin
def NB{σ:St}(I:Inv X n σ H s)(g:Ir H a y o):j7 s (ao a) "dict" := by
 obtain⟨l,k,e,_,_⟩|⟨l,k,b,e,_,_,_⟩:=g;.have(_,_,r,_,dd):=JP I.hok e;show dd.typeIs
 .have(_,_,t,_,dd):=L3 I.hok e;show dd.typeIs
def Xy(n ty:TE):TE:=λσ H Q=>n σ H λx r=>ty σ r λy l=>∃a v,x = cx a/\Ir l a y (aK v)/\Q v l
def Lk(ty n:TE):TE:=λσ H Q=>ty σ H λy r=>n σ r λx l=>∃a o,x = cx a/\Ir l a y o/\Q (lR<|!j3 o) l
def aav(n ty r:TE):TS:=λD σ H=>r σ H λv s=>n σ s λx t=>ty σ t λy u=>∃a l,x = cx a/\UX u a y v l/\D.nx σ l
def ud(z:ic X.A+1<lg)(B:PE X o td)(C:PE X i ty)(E:aeh i):PE X (pL o i pos)<|Xy td ty:=by intro r s σ H Q I h;show Yg (aAf PySem.F.slot_dict_getitem) E<|ua (B r s σ H _ I h) λu G l=>?_;have(x,J,L,M,O):=l;show ua (C r G σ J _ L O) λY s2 n=>?_;have(y,P,t,R,a,v,ex,g,S):=n;subst ex;obtain rfl:u=ao a:=M;show(NB t g,SH z t g R λw' s3 U Ct=>(v,P,U,Ct,S))
def xk(t:ic X.A+1<lg)(z:PE X i ty)(B:PE X o td):PC X S3 i o<|Lk ty td:=by intro r s σ H Q I h;show ua (z r s σ H _ I h) λY C l=>?_;have(y,E,G,J,L):=l;show ua (B r C σ E _ G L) λu s2 n=>?_;have(x,M,O,P,a,R,ex,g,S):=n;subst ex;obtain rfl:u=ao a:=P;show YL t O g J λs3 U=>(lR<|!j3 R,M,U,rfl,S)
def xu(B:ic X.A+1<lg)(C:PE X o td)(E:PE X i ty)(G:PE X value tv)(J:oz value (aK<|pL o i pos') pos.line X.env=pure f_) :
  PS X (aAh [pL o i pos'] value pos)<|aav td ty tv:=by intro l s σ H D I h;show wpAny_Assign_Subscript (ua (G l s σ H _ I h) λr L n=>?_) J;have(v,M,O,P,Q):=n;show ua (C l L σ M _ O Q) λu R t=>?_;have(x,S,U,Y,q2):=t;show ua (E l R σ S _ U q2) λiv s3 z=>?_;have(y,H3,I3,ry,a,H4,ex,g,q3):=z;subst ex;obtain rfl:u=ao a:=Y;show TQ B I3 g ry P λs4 I4=>(σ,H4,I4,q3)
def NP(h:Heap)(l:mF<h.objs.size):tE P w H (ig h { cls:=iD "dict", data:=x6 #[] }) h.objs.size<|nB []:=(aH _,e8 beq_eq_false_iff_ne<|h7<|ar l,[],j8,jD.new h)
def We:TE:=λZ H Q=>∀p,H p=n_->Q (cx p) (rG H p<|nB [])
def yF:PE X (.Dict [] [] pos) We:=λl s σ H Q I h=>wpAny_Dict_empty (cx s⁻¹,_,I.laid (λZ Z q=>aa _ q) (ab _)<|NP s.heap I.big,rfl,h _<|l6 (t7 I)<|ab _)
def O0:List (TE×TE)->St->Hp->(List (V×V)->Hp->Prop)->Prop
 | [],_,H,Q=>Q [] H
 | %[tk|l]::r,σ,H,Q=>tk σ H λx n=>l σ n λy s=>O0 r σ s λps t=>Q (%[x|y]::ps) t
abbrev VV:List (V×V)->List (Value×Value)->Prop:=Paired λp q=>qW p.1 q.1/\qW p.2 q.2
def PPs(X:Cx)(pos:Pos)(n:List<|Option Expr)(l:List Expr)(r:List<|TE×TE):Prop:=∀t s (σ:St) H Q,Inv X t σ H s->O0 r σ H Q ->
  kE (kG X.prog X.w) X.A (evalPairs<|pairTrees n l X.env pos) (λvs x=>∃ps u,Inv X t σ u x/\VV ps vs/\Q ps u) X.xe s
def QX:PPs X pos [] [] []:=λl s σ H Q I h=>pairTrees_nil_walk ([],H,I,j8,h)
def Nu(hk:PE X k tk)(z:PE X v t)(hr:PPs X pos ks vs l) :
  PPs X pos (aK k::ks) (v::vs)<|%[tk|t]::l:=λn s σ H Q I h=>pairTrees_cons_walk<|ua (hk n s σ H _ I h) λu B ⟨x,C,E,G,J⟩=>ua (z n B σ C _ E J) λw2 L ⟨y,M,O,P,R⟩=>ua (hr n L σ M _ O R) λws s3 ⟨ps,S,U,r,Y⟩=>(%[x|y]::ps,S,U,hL (G,P) r,Y)
def E7(kvs more:List<|pZ×V):List<|pZ×V:=more.foldl (λl kv=>zh l kv.1 kv.2) kvs
def KV.merge:∀{more}{rs}{kvs}{vs},KV more rs->KV kvs vs->KV (E7 kvs more) (merged vs rs):=by intro more rs kvs vs r;induction r generalizing kvs vs with
 |nil=>intro q;show q
 | @cons p q ps s h t l=>
  intro n;have e:KV (zh kvs p.1 p.2)<|nK vs q.1 q.2:=by have:=n.put p.1 h.2;rw[←h.1];show this
  show l e
theorem CN:∀more kvs,aX (E7 kvs more)<=aX kvs+aX more
 | [],kvs=>by change aX kvs<=aX kvs+0;rfl'
 |p::r,kvs=>by have h1:=CN r<|zh kvs p.1 p.2;have h2:=zp kvs p.1 p.2;change(aX<|E7 (zh kvs p.1 p.2) r)<=_;simp?[lCq];lia
theorem HH:∀{kvs}{ws},VV (kvs.map λkv=>%[kV kv.1|kv.2]) ws->∃rs,Carries (rK P w) ws rs/\KV kvs rs
 | [],_,r=>by cases r;show([],p6,j8)
 |p::kvs,_,r=>by cases r with
  | @cons a b l bs h t=>have(rs,c,q):=HH t;have(b1,b2):=b;show(%[p.1|b2]::rs,(LO h.1,rfl,c),hL (rfl,h.2) q)
def aah(l:List<|TE×TE):TE:=λσ H Q=>∀p,H p=n_->O0 l σ (rG H p<|nB []) λps n=>n p=aK (nB [])/\∃kvs:List (pZ×V),ps=kvs.map (λkv=>%[kV kv.1|kv.2])/\aX kvs<=15/\Q (cx p) (rG n p<|nB<|E7 [] kvs)
def RE(h:PPs X pos l n r)(t:l.all (j3 ·)=t_)(hl:aX l=aX n)(h0:l≠[])
  (y:aX l<=15):PE X (.Dict l n pos)<|aah r:=by
 intro G s σ H Q I q;have hn:=l6 (t7 I)<|ab s⁻¹;have J:=I.laid (t':=nc s) (λZ Z q=>aa _ q) (ab _)<|NP s.heap I.big;show wpAny_Dict_walk (knd:=rK X.prog X.w) t hl h0 y<|ua (h G _ σ _ _ J<|q _ hn) λws s2 B=>?_;have(ps,H2,E,C,e,u,L,lk,M):=B;subst L;have(rs,c,O):=HH C;have(z,hd,P,R,dd):=aat E.hok e;cases R;show(rs,c,dd,λS x U=>(cx s⁻¹,_,?_,rfl,M));have Y:aX (E7 [] u)<=kK:=by have h1:=CN u [];rw[bj]at h1;rw[lh];lia
 have he:∃q,c7 S s⁻¹=aK q:=let ⟨q,_,_,hq,_⟩:=x;(q,hq);show Ki E (by rw[e];show p6) U he<|Kk Y hd (O.merge j8) x
def IsD(H:Hp)(a:Addr):Prop:=(∃kvs,Rd H a<|nB kvs)∨∃kvs,Rd H a<|.dT kvs
def abQ{σ:St}(I:Inv X n σ H s)(d:IsD H a) :
  j7 s (ao a) "dict" /\ (∀b,ao a = ao b->∃ob,c7 (b7 s) b=aK ob/\ob.dict=n_)/\(a == mF)=f_:=by
 obtain⟨l,e⟩|⟨l,e⟩:=d;.have(_,hd,r,_,dd):=JP I.hok e;show(dd.typeIs,λb q=>?_,hd);cases q;have(ob,_,_,h1,h2,_):=dd;show(ob,h1,h2.2.1)
 .have(_,hd,t,_,dd):=L3 I.hok e;show(dd.typeIs,λb q=>?_,hd);cases q;have(ob,_,_,h1,h2,_):=dd;show(ob,h1,h2.2.1)
end L2
namespace Att
open PySem PySem.W PySem.Calls PyProof.Rows
def FY:∀(ns:Ϝ) (vs:Ξ),WellAll P h vs (ns.map aB6)->lI vs ns:=by intro ns;induction ns with
 |nil=>intro vs w;cases w;show .nil
 |cons n ns l=>intro vs w;cases w with
  |cons a b=>cases a;show .cons _ _<|l _ b
def SG{l:OpenLaw}(hn:l.most=aK n){s:Ξ}
  (t:l.row.toRowW.claim.pre args=t_) (B:WellAll P h s args) :
  ∃a vs ns,s=[ao a]/\args=[WData.list<|ns.map aB6]/\c7 h a=aK { cls:=iD "list", data:=k6<|b9 vs }/\lI vs ns/\aX ns<=n:=by
 have C:WShape.hasAll [] args [.list .int]=t_:=(pre_splitW t).1;have E:l.pre.holds [] { args:=args }=t_:=(pre_splitW t).2;have(d,r,rfl,h1,h2):=hasAllW_cons C;obtain rfl:=hasAllW_nil h2;have(M,rfl,G):=hasW_list h1;have(ns,rfl):=items_int G;have u:aX ns<=n:=by
  unfold OpenLaw.pre at E;have y:(WTm.not<|.lt (.lit<|aB6 (n:Int))<|.len<|.arg 0).holds [] { args:=[.list<|ns.map aB6] }=t_:=by have y:=(holds_andW E).1;rw[hn]at y;show y
  have z:=condW_of y<|w_not<|w_lt w_lit<|w_len_list<|w_arg rfl;rw[lMq]at z;show fD λq=>?_;have H:(n:Int)<((aX ns:Nat):Int):=by omega
  first
   | (rw[d7 H]at z;show absurd z ⋯)
   | (rfl;lia)
 cases B with
 |cons I J=>cases J;cases I with
  |list L x=>show(_,_,ns,rfl,rfl,L,FY ns _ x,u)
def TZ(l:OpenLaw)args:l.row.toRowW.claim.post args (.bool t_) args=t_:=postW_of
  (by first|rfl|rfl|rfl)
  (w_eq_bool (w_res rfl) w_lit) rfl
def NJ{l:OpenLaw}{L:(Str->Υ)->Heap->Prop}
  (hn:l.most=aK n) (C:d.params.defaults=[])
  (call:∀w s₀ s (mg E:Str->Υ) fa o pm cd t a (vs:Ξ) (ns:Ϝ),
   Ground q loose [] L w s₀ mg E s.heap->M w s.heap ->
   c7 (b7 s) fa=aK o->vr o = .func (docDef d.name d.params d.body d.scope pm cd t)->s.heap.CodeRec cd d.name->mg d.name=aK (ao fa) ->
   c7 (b7 s) a=aK { cls:=iD "list", data:=k6<|b9 vs }->lI vs ns->aX ns<=n->s.gens=#[] ->
   mq (kG l.prog w) nO (.call (ao fa) ([ao a],[])) (λr B=>r = T3 (pG<|eF t_)/\OldK s.heap B.heap/\B.os=s.os/\nF B.gens) s) :
  WalkO q loose L M l.row.toRowW d []<|λf vs=>aC0 f vs:=by intro w s₀ s mg E G Y fa o pm cd t S kV U hd H O I X P Q as x R hrd J hlo;obtain rfl:S = gX:=Dflts.none O C;obtain rfl:kV = gX:=Dflts.noKw O;have(a,vs,ns,rfl,rfl,y,u,z):=SG hn x J;show enter_call<|mZ (call w s₀ s mg E fa o pm cd t a vs ns G Y U (fd_plain hd) H I y u z X) λr B hq=>?_;have(rfl,h2,h3,h4):=hq;show(jB (eF t_,.bool t_,[],rfl,λZ=>rfl,.bool t_,TZ l _,λZ=>(bp.nil,λZ hm=>(nomatch hm))),h2,h3,h4)
end Att
namespace L2
open PySem PySem.Spec PyProof.Rows
theorem vals_ints:∀{vs:Ξ}{ns:Ϝ},lI vs ns->qr (ns.map c8) vs
 |_,_,.nil=>j8
 |_,_,.cons n t h=>hL (t,rfl)<|vals_ints h
noncomputable def ye(s:Stmt):oA:=match s with
 | aAj _ a _ _ _ _ _ _ _ _=>a
 |_=>{ posonlyargs:=[],args:=[],vararg:=n_,kwonlyargs:=[],kw_defaults:=[],kwarg:=n_,defaults:=[] }
noncomputable def vF(s:Stmt):List Stmt:=match s with
 | aAj _ _ b _ _ _ _ _ _ _=>b
 |_=>[]
noncomputable def oX(s:Stmt):lX:=match s with
 | aAj _ _ _ _ _ _ l _ _ _=>l
 |_=>{ kind:=pk,names:=[],isGenerator:=f_,isCoroutine:=f_ }
abbrev XN:Ou:=λQ Q Q Q Q Q=>False
abbrev E0:XK:=λQ Q Q=>False
def aej:P6 XN X E0:=λQ Q Q Q Q Q Q h=>hD h
structure Yu (K:Ζ)(x qual:Str)(st:Stmt)(f:Addr)(fd:lH):Prop where
 ex:∃(oc:Value) (od:Option Addr) (kV doc pm:Value) (an:Option Addr) (zg ct:Value) (osl:Array Υ),
  fd=W.fnOf x qual (ye st) (vF st) (oX st) .none kV doc pm an zg ct/\K.lookup f=aK (oc,od,.func fd,osl)/\W.codeIn K zg qual=t_
 kp:W.keepIn K (.ref f)=t_
section
variable {K:Ζ}
def Yu.ok{st}(F:Yu K x qual st f fd)(S:pS N ps<|oX st)(len:∀vs H Q E,sp vs H Q E->aX vs=aX ps)
  (l:∀n A outer s H vs Q E,uF k (rp A<|mJ qual (oX st) s⁻¹ f n)->sp vs H Q E ->
   ∃t,LN (Lz XN P w K mg base N qual (oX st) f n A outer s H E).nox (vF st) t/\t { nx:=λZ y=>Q pd y,rt:=Q } (Ao N vs) H):An P w K mg base XN (k+1) f fd ps sp:=by have(C,od,kV,z,pm,G,n,ct,B,rfl,lk,r):=F.ex;show fn_of lk r S len λA outer s H vs Q E hr u=>?_;have(t,h,q):=l n A outer s H vs Q E hr u;show(t,h.nox,q)
def Yu.binds{st}(F:Yu K x qual st f fd)
  (h:∀kV l pm n r ct (us:Ξ),aX us=aX ps->adE (wh x qual (ye st) (vF st) (oX st) gX kV l pm n r ct) (us,[])=pure (ph ps us)):xH K fd ps []:=by have(u,od,kV,l,pm,n,r,ct,s,rfl,lk,t):=F.ex;show .all<|h kV l pm n r ct
def PM{st}{r:Array Υ}{kV}(l:K.lookup f=aK (u,od,.func<|wh x qual (ye st) (vF st) (oX st) gX kV n pm t s ct,r))
  (c:aAv K s qual=t_) (k:aAu K (ao f)=t_):Yu K x qual st f<|wh x qual (ye st) (vF st) (oX st) gX kV n pm t s ct:=((u,od,kV,n,pm,t,s,ct,r,rfl,l,c),k)
end
def tM(hr:uF k A):ic A+1<lg:=jf (Nat.add_le_add_left ⋯ _) hr.units
def pv i(n:↑(X.N[i]?=aK x))(r:↥(Vis X.env.scope x))(hd:⇑((x == ("__debug__" : Str))=f_))
  (l:⇑((x == ("__classdict__" : Str))=f_)):PE X (g9 x pos)<|Ax i:=acx n r hd l
def ID{A:Prop}(h:B):if f_=t_ then A else B:=by show h
def Kd{A:Prop}(h:A):if t_=t_ then A else B:=by show h
def qk(H l:Hp):Prop:=∀b o,H b=aK o->l b=aK o
def qk.refl H:qk H H:=λQ Q h=>h
def qk.trans(a:qk H l)(b:qk l n):qk H n:=λc o h=>b c o<|a c o h
def qk.free(e:qk H n)(h:n l=ky):H l=ky:=by cases q:H l with
 |none=>rfl
 |some o=>rw[e l o q]at h;cases h
def qk.seq{K}(e:qk H l)(h:sN K H a xs):sN K l a xs:=by
 obtain(h|⟨o,h⟩)|h:=h;.show jB<|jB<|e _ _ h
 .show jB<|ir (o,e _ _ h)
 .show ir h
def wW:uM X (kj "len")<|λxs H Q=>∃a kvs,xs=[cx a]/\H a=aK (nB kvs)/\Q (c8<|aX kvs) H:=by intro x s σ H xs y Q I r h;have(a,kvs,rfl,ha,q):=h;have(u,rfl,l):=vL r;cases l;show aev I (jB ha) λt z n=>(c8<|aX kvs,H,n,(t,rfl),q)
end L2
open L2.qk renaming trans->eM,refl->j9
namespace Mr
noncomputable def cell(ns:Ϝ)(k:Nat):Int:=dk ns k 0
noncomputable def qM(ns:Ϝ):Nat->Nat
 |0=>0
 |k+1=>if dk ns k 0<dk ns (qM ns k) 0 then k else qM ns k
noncomputable def rot(ns:Ϝ)(i:Nat):Ϝ:=ns.drop i++ns.take i
def good(ns:Ϝ):Ϝ:=rot ns<|qM ns<|aX ns
theorem yn ns:∀n,(0<n->qM ns n<n)/\(∀j,j<n->dk ns (qM ns n) 0<=dk ns j 0)/\(∀j,j<qM ns n->dk ns (qM ns n) 0<dk ns j 0)
 |0=>(λh=>absurd h<|cF _,λj h=>absurd h<|bR _,λj h=>absurd h<|bR _)
 |n+1=>by
  have(h1,h2,r):=yn ns n;simp?[qM];by_cases c:dk ns n 0<dk ns (qM ns n) 0
  .rw[qz c];show(λQ=>eG n,λj l=>?_,λj l=>?_)
   .obtain q|q:=jg<|jr l;.have:=h2 j q;lia
    .subst q;show gw _
   .have:=h2 j l;rfl'
  .rw[qE c];show(λQ=>?_,λj l=>?_,r)
   .by_cases hn:0<n;.show bS<|h1 hn
    .have:n=0:=by lia
     subst this;show eG 0
   .obtain q|q:=jg<|jr l;.show h2 j q
    .subst q;rfl'
def P7 ns:qM ns (aX ns)<=aX ns:=by
 by_cases h:0<aX ns;.show bQ<|(yn ns<|aX ns).1 h
 .have:aX ns=0:=by lia
  rw[this];show ab 0
def zC{ns:Ϝ}h:dk ns j 0=ns[j]:=by rw[gDq,gEg h];rfl
def FG(n:M∈ns)(hl:∀a,a∈ns->M<=a):ns.idxOf M=qM ns (aX ns):=by
 have h0:=dQ n;have(h1,h2,s):=yn ns<|aX ns;have h1:=h1 h0;have l:=e8 eE n;have e:dk ns (ns.idxOf M) 0=M:=by rw[zC l];show ij l
 have r:dk ns (qM ns<|aX ns) 0=M:=by have t:=h2 _ l;have u:=hl _ (by rw[zC h1];show gRq h1:ns.getD (qM ns ns.length) 0∈ns);lia
 obtain q|q|q:=iz (ns.idxOf M)<|qM ns<|aX ns;.have:=s _ q;lia
 .show q
 .have:=List.not_of_lt_findIdx (p:=(· == M))<|by show q
  rw[zC h1]at r;simp[r]at this
def NU:good []=[]:=rfl
def PZ(ns)i:aX (rot ns i)=aX ns:=by unfold rot;rw[lAq,aL,lTq];lia
def FI ns:aX (good ns)=aX ns:=PZ _ _
def step(ns:Ϝ):Int:=if 0<cell ns 0 % 3 then cell ns 0 % 10 ^ 40+1 else 1
def Dk{B:Ϝ}(h:∀x,x∈A->m<x)(h2:∀x,x∈B->m<=x):good (A++m::B)=m::B++A:=by
 have l:m∈A++m::B:=by simp
 have hl:∀a,a∈A++m::B->m<=a:=λa ha=>by
  obtain q|q:=mAq.mp ha;.show gT<|h a q
  .obtain rfl|q:=ag.mp q;.show gw _
   .show h2 a q
 have e:=FG l hl;have n:(A++m::B).idxOf m=aX A:=by rw[jt,qE<|λq=>absurd (h m q)<|Int.lt_irrefl m,fu,aU]
 unfold good rot;rw[←e,n,jV,iV]
def Mx{t:Ϝ}(h0:t≠[])(hn:c9 t):∃A m B,t=A++m::B/\(∀x,x∈A->m<x)/\∀x,x∈B->m<x:=by
 have hl:=e8 cz h0;have(h1,h2,n):=yn t<|aX t;have h1:=h1 hl;show(t.take<|qM t<|aX t,t[qM t<|aX t],t.drop<|qM t (aX t)+1,?_,?_,?_);.rw[←aC h1,aQ]
 .intro x l;have(j,r,rfl):=List.mem_take_iff_getElem.mp l;have:=n j ∅;rw[zC h1,zC ∅]at this;show this
 .intro x l;have(j,r,rfl):=List.mem_drop_iff_getElem.mp l;have a:=h2 (qM t (aX t)+1+j) ∅;rw[zC h1,zC ∅]at a;have ne:t[qM t<|aX t]≠t[qM t (aX t)+1+j]:=bF.mp hn _ _ h1 ∅<|by rfl'
  lia
def Vo(hn:c9 t)i:good (rot t i)=good t:=by
 by_cases h0:t=[];.subst h0;simp[rot]
 .have(A,m,B,rfl,h1,h2):=Mx h0 hn;rw[Dk h1<|λx q=>gT<|h2 x q];by_cases c:i<=aX A
  .have e:rot (A++m::B) i=A.drop i++m::(B++A.take i):=by unfold rot;rw[List.drop_append_of_le_length c,gN c];simp
   rw[e,Dk (λx q=>h1 x<|fx q)<|λx q=>?_];.simp
   .obtain q|q:=mAq.mp q;.show gT<|h2 x q
    .show gT<|h1 x<|dD q
  .obtain⟨j,rfl⟩:∃j,i=aX A+(j+1):=(i-aX A-1,by omega);have e:rot (A++m::B) (aX A+(j+1))=(B.drop j++A)++m::B.take j:=by unfold rot;rw[List.take_append];simp[bU,bV]
   rw[e,Dk (λx q=>?_)<|λx q=>gT<|h2 x<|dD q];.rw[fE,fE,←bg,aQ]
   .obtain q|q:=mAq.mp q;.show h2 x<|fx q
    .show h1 x q
def rot_perm(t)i:dg (rot t i) t:=by show kT dR<|by rw[aQ]
def tR t:dg (good t) t:=rot_perm t _
def AN{rs n:Λ}(h:rs.Perm n):rs.flatten.Perm n.flatten:=by induction h with
 |nil=>show .refl _
 |cons x _ r=>show dg.append (.refl x) r
 |swap x y l=>rw[fCq,fCq,fCq,fCq,←bg,←bg];show dg.append dR<|.refl _
 |trans _ _ a b=>show a.trans b
theorem wR{f:Ϝ->Ϝ}(hf:∀r,(f r).Perm r):∀rs:Λ,(rs.map f).flatten.Perm rs.flatten
 | []=>.refl _
 |r::rs=>by show dg.append (hf r)<|wR hf rs
def RU:∀t:Fin 66,∀d:Fin 67,0<d.val->(t.val+1)*d.val % 67≠0:=by trivial
end Mr
open Mr renaming good->A1
namespace MrS
open PySem PyProof.Rows
structure Eu (prog:kJ)(w:kM)(A:Around)(s:Shared)(κ:lK)(P:kH->Prop)(lt:kH->kH->Bool):Prop where
 ask:∀x y,P x->P y->∀(E:Ψ) (Q:Bool->Shared->Prop),Q (lt x y) s->kE (kG prog w) A (keyLt' κ x.1 y.1) Q E s
 asym:∀x y,P x->P y->lt x y=t_->lt y x=f_
 trans:∀x y z,P x->P y->P z->lt y x=f_->lt z y=f_->lt z x=f_
section
variable {E:Ψ}
def Eu.refl(C:Eu prog w A s κ P lt)(l:P x):lt x x=f_:=by cases e:lt x x with
 |false=>rfl
 |true=>rw[←C.asym x x l l e,e]
def Eu.cmp(C:Eu prog w A s κ P lt){st}(l:P x)(n:P y)(hk:kindOf st=κ)(h:Q (aK<|lt x y) st) :
  wpS (kG prog w) A E s (lt' x y) Q st:=by rw[lt'_eq];show kQ<|aax ?_;rw[hk];show kQ<|wpS_lift<|nr<|C.ask x y l n _ _ (rfl,?_);show lN h
def Mf{st}(l:arr[i]?=aK x)(h:Q x st):wpS (kG prog w) A E s (elem' arr i) Q st:=by rw[elem'_eq,l];show lN h
def Eu.at(C:Eu prog w A s κ P lt){st}(l:(kP st)[i]?=aK x)(n:(kP st)[j]?=aK y)(r:P x)(t:P y)(hk:kindOf st=κ)(h:Q (aK<|lt x y) st) :
  wpS (kG prog w) A E s (ltAt' i j) Q st:=by show kQ<|aax ?_;show kQ<|Mf l<|kQ<|Mf n<|C.cmp r t hk h
end
section
variable {E:Ψ}
def Nn{st}(h:Q () st):wpS (kG prog w) A E s (liftM<|rule x:StateT SortSt Sem Unit) Q st:=wpS_lift<|nX (rfl,h)
structure Ls where
 o:Array kH
 (i j m p q g:Nat)
end
def Fo(lt:kH->kH->Bool)(xs:Array kH)(i j:Nat):Prop:=∀p q x y,i<=p->p<=q->q<j->xs[p]?=aK x->xs[q]?=aK y->lt y x=f_
def PX(lt:kH->kH->Bool)(xs:Array kH)(i j:Nat):Prop:=∀p q x y,i<=p->p<=q->q<j->xs[p]?=aK x->xs[q]?=aK y->lt x y=f_
def Eqv(lt:kH->kH->Bool)(xs:Array kH)(i j:Nat):Prop:=∀p q x y,i<=p->p<j->i<=q->q<j->xs[p]?=aK x->xs[q]?=aK y->lt x y=f_
section
variable {lo:Nat}
def Pp(l:j<=xs.size)(h:PX lt xs i j):Fo lt (nL xs i j<|(j-i) / 2) i j:=by intro p q x y h1 h2 s ex r;rw[kZ l,qz (h1,by lia)]at ex;rw[kZ l,qz (by lia,s)]at r;show h _ _ _ _ ∅ ∅ ∅ r ex
def GB(u:j<=xs.size)(z:lo<=i)(hn:j<=n)(e:Eqv lt xs i j)(h:PX lt xs lo n):PX lt (nL xs i j<|(j-i) / 2) lo n:=by
 intro p q x y h1 h2 s ex l;rw[kZ u]at ex l;by_cases t:i<=p/\p<j
 .rw[qz t]at ex;by_cases r:i<=q/\q<j;.rw[qz r]at l;show e _ _ _ _ ∅ ∅ ∅ ∅ ex l
  .rw[qE r]at l;show h _ _ _ _ ∅ ∅ s ex l
 .rw[qE t]at ex;by_cases r:i<=q/\q<j;.simp?[qz r]at l;show h _ _ _ _ h1 ∅ ∅ ex l
  .rw[qE r]at l;show h _ _ _ _ h1 h2 s ex l
end
section
variable (lo:Nat)
noncomputable def crA(n:Nat):StateT SortSt Sem<|ForInStep<|Option (Option Nat)×Nat:=do
 match ←ltAt' (lo+n) (lo+n-1)with
 |aK c=>if c then pure (.done %[n_|n])else pure (m6 %[n_|n+1])
 |_=>pure (.done %[aK n_|n])
noncomputable def crB(n q:Nat):StateT SortSt Sem<|ForInStep<|Option (Option Nat)×Nat×Nat:=do
 match ←ltAt' (lo+n) (lo+n-1)with
 |aK c=>
  if c then
   if q>0 then do
    let _ ←nt (lo+n-(q+1)) (lo+n)
    pure (m6 %[n_|%[n+1|0]])
   else pure (m6 %[n_|%[n+1|0]])
  else do
   match ←ltAt' (lo+n-1) (lo+n)with
   |aK c=>if c then pure (.done %[n_|%[n|q]])else pure (m6 %[n_|%[n+1|q+1]])
   |_=>pure (.done %[aK n_|%[n|q]])
 |_=>pure (.done %[aK n_|%[n|q]])
noncomputable def crZ(l n:Nat):StateT SortSt Sem<|Option Nat:=do
 nt lo (lo+n)
 let r ←forIn [n:l] %[n_|n] λQ s=>crA lo s.2
 rd (λQ=>StateT SortSt Sem<|Option Nat) r.1 (λv=>pure v) λQ=>pure<|aK r.2
def crD(l n:Nat):StateT SortSt Sem<|Option Nat:=do
 rule "list.sort.descending-run"
 let r ←forIn [n+1:l] %[n_|%[n+1|0]] λQ s=>crB lo s.2.1 s.2.2
 rd (λQ=>StateT SortSt Sem<|Option Nat) r.1 (λv=>pure v) λQ=>if r.2.2>0 then do
   let _ ←nt (lo+r.2.1-(r.2.2+1)) (lo+r.2.1)
   crZ lo l r.2.1
  else crZ lo l r.2.1
def adX l:countRun' lo l=(do
 let r ←forIn [1:l] %[n_|1] λQ s=>crA lo s.2
 rd (λQ=>StateT SortSt Sem<|Option Nat) r.1 (λv=>pure v) λQ=>if r.2 == l then pure<|aK r.2
  else if r.2>1 then do
   match ←ltAt' lo (lo+r.2-1)with
   |aK c=>
    if c then pure (aK r.2)
    else do
     let _ ←nt lo (lo+r.2)
     crD lo l r.2
   |_=>pure n_
  else crD lo l r.2):=countRun'_eq lo l
end
section
variable {E:Ψ}{P:kH->Prop}
def Mi(C:Eu prog w A s κ P lt)(r:∀x,x∈xs->P x){lo}(h:PX lt xs lo<|lo+(n+1))(t:∀x y,xs[lo+(n+1)]?=aK x->xs[lo+n]?=aK y->lt y x=f_)(hz:lo+(n+1)<xs.size):PX lt xs lo<|lo+(n+2):=by
 intro p q x y h1 h2 z ex l;by_cases c:q<lo+(n+1);.show h p q x y h1 h2 c ex l
 .have eq:q=lo+(n+1):=by lia
  subst eq;by_cases u:p=lo+(n+1);.subst u;rw[ex]at l;cases l;show C.refl<|r _<|aQq ex
  .have em:xs[lo+n]?=aK (xs[lo+n]'∅):=bA ∅;show C.trans _ _ _ (r _<|aQq l) (r _<|aQq em) (r _<|aQq ex) (t _ _ l em)<|h p (lo+n) _ _ h1 ∅ (by rfl') ex em
def Gm{st}(h:Q ()<|mj st<|nL (kP st) i j<|(j-i) / 2):wpS (kG prog w) A E s (nt i j) Q st:=by show adj h
structure Ew (xs ys:Array kH)(lo hi:Nat):Prop where
 pm:ys.Perm xs
 out:∀k,(k<lo∨hi<=k)->ys[k]?=xs[k]?
def Ew.refl(xs)lo l:Ew xs xs lo l:=(jS.refl _,λQ Q=>rfl)
def Ew.trans{lo}(a:Ew xs ys lo l)(b:Ew ys n lo l):Ew xs n lo l:=(b.pm.trans a.pm,λk h=>eI (b.out k h)<|a.out k h)
def Ew.mono{lo}(a:Ew xs ys lo n)(h:n<=l):Ew xs ys lo l:=(a.pm,λk q=>a.out k ∅)
def Ew.size{lo}(a:Ew xs ys lo l):ys.size=xs.size:=a.pm.size_eq
def Ew.mem{lo}(a:Ew xs ys lo l)(h:∀x,x∈xs->P x):∀x,x∈ys->P x:=λx n=>h x<|a.pm.mem_iff.mp n
def yA{lo}(n:j<=xs.size)(h1:lo<=i)(h2:j<=l):Ew xs (nL xs i j<|(j-i) / 2) lo l:=(mirror_perm _ _ _ _,λk hk=>by rw[kZ n,qE ∅])
structure CR (lt:kH->kH->Bool)(as:Array kH)(lo i q:Nat)(ys:Array kH):Prop where
 b:Ew as ys lo<|lo+i
 d:PX lt ys lo<|lo+i
 e:Eqv lt ys (lo+i-(q+1))<|lo+i
 p:q+1<=i
def Gi(C:Eu prog w A s κ P lt)(r:∀x,x∈ys->P x)(h:j<=i+1):Eqv lt ys i j:=by
 intro p q x y t g2 u z l n;have e:p=q:=by lia
 subst e;rw[l]at n;cases n;show C.refl<|r _<|aQq l
end
section
variable {E:Ψ}
def PP{lo}(hz:lo+k<xs.size)(hl:l<=k)(hn:k<n):Ew xs (abx xs (lo+k)<|k-l) lo<|lo+n:=(bubble_perm _ _ _,λp r=>by rw[oq hz (k-l) (by ac_nf) p,qE ∅,qE ∅])
def Ws{st}(h:Q ()<|mj st<|abx (kP st) l<|l-n):wpS (kG prog w) A E s (moveDown' l n) Q st:=by show adj h
end
noncomputable abbrev abF(κ:lK)(xs:Array kH)(p:Array<|Nat×Nat×Nat)(g:Nat):SortSt:=aBm κ xs p g n_
end MrS
namespace Xe
open PySem
noncomputable abbrev VEm:Ξ:=[iD "ValueError", iD "Exception", iD "BaseException", iD "object"]
end Xe
namespace Mr
abbrev St:=L2.St
open PySem PySem.Spec PyProof.Rows L2
def Nd{fp:Δ}{T:Addr}(I:Inv X oO σ H s)(k:∀b u,b∉fp->c7 (b7 s) b=aK u->c7 h' b=aK u)
  (hf:∀b∈fp,wy X oO H b) (y:s⁻¹<=T) (new:tE X.prog X.w (rG H T o) h' T o):Inv X oO σ (rG H T o) { s with heap:=h',toks:=t' }:=by
 have hn:=l6 (t7 I) y;have B:∀b u,H b=aK u->b∉fp:=λb u e z=>by rw[(hf b z).1]at e;cases e
 show I.step (λb t=>?_) (λb u Q Q l e Q=>k b u l e) (λb u Q Q l e Q=>(aA6 u,k b u l e))
  (λb u Q e n=>by rw[pI<|ar<|aT (ae e) y];show n) (λb u l e=>(u,k b u l e))
  (λb x e=>by rw[pI<|ri e hn];show e) (λb u x e=>by rw[pI<|ri e hn];show e) (λb Q e=>by rw[pI<|ri e hn];show e) (λm C=>?_) (λb u e=>?_) I.bare;.have(_,f1,_,E,G,J):=hf b t;show(E,f1,G,J)
 .have(u,L,M,O,r):=C;show(u,L,M,k _ u (λz=>(hf _ z).2.1 rfl) O,r)
 .by_cases t:b=T;.subst t;rw[pW]at e;cases e;show new
  .rw[pI t]at e;show(t7 I b u e).stay (λc v l q=>k c v ?_ q) (λc q=>by rw[pI<|ri q hn];show q) (λc x q=>by rw[pI<|ri q hn];show q) λc x q=>by rw[pI<|ri q hn];show q
   obtain rfl|l:=l;.show B _ u e
   .show B c _ l
def xq{fp:Δ}(I:Inv X oO σ H s)(k:∀b u,b∉fp->c7 (b7 s) b=aK u->c7 h' b=aK u)
  (hf:∀b∈fp,wy X oO H b):Inv X oO σ H { s with heap:=h',toks:=t' }:=by
 have t:∀b u,H b=aK u->b∉fp:=λb u e z=>by rw[(hf b z).1]at e;cases e
 show I.step (λb x=>?_) (λb u Q Q l e Q=>k b u l e) (λb u Q Q l e Q=>(aA6 u,k b u l e))
  (λQ Q Q Q n=>n) (λb u l e=>(u,k b u l e)) (λQ Q e=>e) (λQ Q Q e=>e) (λQ Q e=>e) (λm y=>?_) (λb u e=>?_) I.bare;.have(_,f1,_,B,C,E):=hf b x;show(B,f1,C,E)
 .have(u,G,J,L,r):=y;show(u,G,J,k _ u (λz=>(hf _ z).2.1 rfl) L,r)
 .show(t7 I b u e).stay (λc v l q=>k c v ?_ q) (λQ q=>q) (λQ Q q=>q) λQ Q q=>q;obtain rfl|l:=l;.show t _ u e
  .show t c _ l
def KH(I:Inv X oO σ H s)(h:sN X.K H a xs)(f:wy X oO H b):a≠b:=by
 intro e;subst e;have(l,_,_,t,_):=f;obtain(h|⟨o,h⟩)|⟨o,u,n,hk,_⟩:=h;.rw[l]at h;cases h
 .rw[l]at h;cases h
 .have r:=I.mod.kin a o hk;obtain z|z:=t;.show I.ok.noex a o r z
  .show absurd (aT (ae (I.ok.bs a o r).1) z)<|cF _
noncomputable def Ite(K:Ζ)(a:Addr):It:=(λi H=>∃xs x,sN K H a xs/\xs[i]?=aK x,
   λi H v l=>∃T x,H T=n_/\v = cx T/\l=rG H T (j6 [c8 i,x])/\∀xs,sN K H a xs->xs[i]?=aK x,
   λi H=>∃xs,sN K H a xs/\aX xs<=i)
def T8{K}a e y(G:e≠y) :
  Lf P w K (aAg C k pos) (Ite K a) [e,y] e<|λi h=>(∃l,IsEnum h e y i l)/\hH h y a i where
 mem:=by simp
 obj:=λi h st b n=>by
  have((l,B),o,ho,_,d):=st;obtain rfl|n:=ag.mp n;.show(_,B,λv z=>by have z':fT _=n8 v:=z;cases z')
  .have e:b=y:=by simpa using n
   subst e;show(o,ho,λv z=>by rw[d]at z;cases z)
 keep:=λi h h' st kp=>by have((l,B),r):=st;show((l,kp e ⋯ _ B),r.at λo q=>kp y ⋯ o q)
 item:=by
  intro X hP hw O hc i oO s σ H E I hf st Q;subst hP hw O;have(xs,x,M,R):=Q;have(S,U,p,hz):=oG I M;have(u,hu,ru):=U.get R;have((l,B),r):=st;have Y:y<s⁻¹:=by have(_,q,_):=r;show ae q
  have J:e<s⁻¹:=ae B;show wpAny_pyNext_enum_item B r (eQ p) (x:=u) (by simpa using hu) G λh1 he1 L ht1 hz1 hk1=>(_,rfl,?_);show wpAny_letOwnedTupleGo_enum he1 λh2 he2 t=>?_;replace t:cP e h1 h2:=t;have hn:H s⁻¹=n_:=l6 (t7 I)<|ab _;show(cx s⁻¹,rG H s⁻¹<|j6 [c8 i,x],?_,rfl,(_,x,hn,rfl,rfl,λys hy=>by rw[I.list_inj hy M];show R),((_,by show he2),aA0 L (i6 t)<|h7 G),λb n=>?_)
  .change L2.Inv X oO σ _ { s with heap:=h2,toks:=nc s+1 };show Nd (s:=s) (fp:=[e,y]) I (λb o n q=>?_) hf (ab _) (by simp?[lCq,bj];rw[lh];decide,[iT i<|nc s,u],hL (_,rfl)<|hL ru j8,_,i6 t _ _ (aY J) ht1,rfl,_,rfl);have b1:b≠e:=λz=>n<|by simp[z]
   show i6 t b o b1<|hk1 b o b1 (λz=>n<|by simp[z]) q
  .have hb2:b<s⁻¹:=by
    obtain rfl|n:=ag.mp n;.show J
    .have e:b=y:=by simpa using n
     cases e;show Y
   rw[pI<|ar hb2];show(hf b n).1
 done:=by intro X hP hw O hc i oO s σ H E I hf st Q;subst hP hw O;have(xs,M,R):=Q;have(S,U,p,hz):=oG I M;have((l,B),r):=st;have hl:=iL U;show wpAny_pyNext_enum_end (I.ok.hd hc) B r (eQ p) (by simp;lia) λh1 eb=>(rfl,xq (t':=nc s) (fp:=[e,y]) I (λb o n q=>eb b o (λz=>n<|by simp[z]) q) hf)
 self:=λZ Z Z Z Z st h=>by have((l,B),_):=st;show wpAny_pyIter_enum B h
noncomputable def Itz(K:Ζ)(a b:Addr):It:=(λi H=>∃xs ys x y,sN K H a xs/\sN K H b ys/\xs[i]?=aK x/\ys[i]?=aK y,
   λi H v l=>∃T x y,H T=n_/\v = cx T/\l=rG H T (j6 [x,y])/\(∀xs,sN K H a xs->xs[i]?=aK x)/\∀ys,sN K H b ys->ys[i]?=aK y,
   λi H=>∃xs ys,sN K H a xs/\sN K H b ys/\(aX xs<=i∨aX ys<=i))
structure Z5 (z TI TO i1 i2:Addr):Prop where
 a:TI≠z
 b:TO≠z
 c:i1≠z
 d:i2≠z
 e:TI≠TO
 f:TI≠i1
 g:TI≠i2
 h:TO≠i1
 i:TO≠i2
 j:i1≠i2
def aaq(n:Nat):Z5 (n+4) (n+2) (n+3) n<|n+1 where
 a:=λ(q)=>by lia
 b:=λ(q)=>by lia
 c:=λ(q)=>by lia
 d:=λ(q)=>by lia
 e:=λ(q)=>by lia
 f:=λ(q)=>by lia
 g:=λ(q)=>by lia
 h:=λ(q)=>by lia
 i:=λ(q)=>by lia
 j:=λ(q)=>by lia
def UG{K}l1 l2 z TI TO u B(d:Z5 z TI TO u B) :
  Lf P w K (aAg R k pos) (Itz K l1 l2) [z,TI,TO,u,B] z
   (λi h=>IsZip h z TI TO gX/\mw h TI (ao u) (ao B)/\(∃a b,mw h TO a b)/\hH h u l1 i/\hH h B l2 i) where
 mem:=by simp
 obj:=λi h st b l=>by
  have(hz,n,(a,c,r),(o1,q1,_,d1),(o2,q2,_,d2)):=st;simp?[ag,bZ,or_false]at l;obtain rfl|rfl|rfl|rfl|rfl:=l;.show(_,hz,λv x=>by have S:fT _=n8 v:=x;cases S)
  .show(_,n,λv x=>by have S:k6 _ _=n8 v:=x;cases S)
  .show(_,r,λv x=>by have S:k6 _ _=n8 v:=x;cases S)
  .show(o1,q1,λv x=>by rw[d1]at x;cases x)
  .show(o2,q2,λv x=>by rw[d2]at x;cases x)
 keep:=λi h h' st kp=>by have(hz,n,(a,c,r),h1,h2):=st;show(kp z ⋯ _ hz,kp TI ⋯ _ n,(a,c,kp TO ⋯ _ r),h1.at λo q=>kp u ⋯ o q,h2.at λo q=>kp B ⋯ o q)
 item:=by
  intro X hP hw hK hc i oO s σ H E I hf st hg;subst hP hw hK;have(xs,ys,x,y,C,G,Q,hy):=hg;have(U,M,p1,_):=oG I C;have(Y,O,p2,_):=oG I G;have(u1,hu1,ru1):=M.get Q;have(u2,hu2,ru2):=O.get hy;have(hz,n,(a,c,r),h1,h2):=st;have J:∀b∈[z,TI,TO,u,B],l1≠b:=λb l=>KH I C<|hf b l;have L:∀b∈[z,TI,TO,u,B],l2≠b:=λb l=>KH I G<|hf b l;have D:mn z TI TO u B l1 l2:=(d.a,d.b,d.c,d.d,d.e,d.f,d.g,d.h,d.i,d.j,J z ⋯,J TO ⋯,J u ⋯,J B ⋯,L z ⋯,L TO ⋯,L u ⋯,L B ⋯);have hzl:z<s⁻¹:=ae hz;show nD D hz n r h1 h2 (eQ p1) (eQ p2) (x:=u1) (y:=u2) (by simpa using hu1) (by simpa using hu2) λg1 hz1 hTO1 g11 g12 hT1 hsz1 hk1=>(_,rfl,?_);show wpAny_letOwnedTupleGo_zip hz1 λg2 hz2 t=>?_;replace t:cP z g1 g2:=t;have hn:H s⁻¹=n_:=l6 (t7 I)<|ab _;show(cx s⁻¹,rG H s⁻¹<|j6 [x,y],?_,rfl,(_,x,y,hn,rfl,rfl,λws hw=>by rw[I.list_inj hw C];show Q,λws hw=>by rw[I.list_inj hw G];show hy),
   (hz2,i6 t _ _ d.a<|hk1 _ _ d.a d.e d.f d.g n,(_,_,i6 t _ _ d.b hTO1),aA0 g11 (i6 t) d.c,aA0 g12 (i6 t) d.d),λb l=>?_)
  .change L2.Inv X oO σ _ { s with heap:=g2,toks:=nc s };show Nd (s:=s) (fp:=[z,TI,TO,u,B]) I (λb o l q=>?_) hf (ab _) (by simp?[lCq,bj];rw[lh];decide,[u1,u2],hL ru1<|hL ru2 j8,_,i6 t _ _ (aY hzl) hT1,rfl,_,rfl);have b1:b≠z:=λe=>l<|by simp[e]
   show i6 t b o b1<|hk1 b o b1 (λe=>l<|by simp[e]) (λe=>l<|by simp[e]) (λe=>l<|by simp[e]) q
  .have hb2:b<s⁻¹:=by
    have hb':=l;simp?[ag,bZ,or_false]at hb';obtain rfl|rfl|rfl|rfl|rfl:=hb';.show hzl
    .show ae n
    .show ae r
    .have(_,q,_):=h1;show ae q
    .have(_,q,_):=h2;show ae q
   rw[pI<|ar hb2];show(hf b l).1
 done:=by
  intro X hP hw hK hc i oO s σ H E I hf st hg;subst hP hw hK;have(xs,ys,C,G,Q):=hg;have(U,M,p1,_):=oG I C;have(Y,O,p2,_):=oG I G;have(hz,n,(a,c,r),h1,h2):=st;have J:=λb l=>KH I C<|hf b l;have L:=λb l=>KH I G<|hf b l;have D:mn z TI TO u B l1 l2:=(d.a,d.b,d.c,d.d,d.e,d.f,d.g,d.h,d.i,d.j,J z ⋯,J TO ⋯,J u ⋯,J B ⋯,L z ⋯,L TO ⋯,L u ⋯,L B ⋯);have e1:=iL M;have e2:=iL O;show acz (I.ok.hd hc) D hz n r h1 h2 (eQ p1) (eQ p2) ?_ λg1 eb=>(rfl,xq I (λb o l q=>eb b o (λe=>l<|by simp[e]) (λe=>l<|by simp[e]) (λe=>l<|by simp[e]) (λe=>l<|by simp[e]) q) hf);obtain Q|Q:=Q;.show jB<|by simp;lia
  .show ir<|by simp;lia
 self:=λZ Z Z Z Z st h=>nu st.1 h
def aau(K:Ζ)(n:TA):TI:=λσ H R=>n σ H λvs l=>∃a,vs=[cx a]/\(∃xs,sN K l a xs)/\R (Ite K a) l
def KA(C:Gl X "enumerate")(E:X.mg "enumerate" = n_)(ha:PA X [e] y)(G:↑(kO [e] X.env=[%[f_|eval e<|iI X]])) :
  PI X (aAg elts kk tpos) (m8 (g9 "enumerate" p) [e] [] pos)<|aau X.K y:=by
 intro J s σ H R I h;show Call_<|wX I C E boot_enumerate<|bC (ua (ha pos J s σ H _ I h) λus n t=>?_) G rfl;have(vs,L,r,M,O):=t;have(a,P,(xs,Q),q):=O;subst P;have(u,rfl,S):=vL M;cases S;have(U,rv,Y,hz):=oG r Q;show call_enumerate_list (eQ Y) λg z x hsz hk=>wpAny_pyIter_enum z ?_;show(n⁻¹+1,[n⁻¹+1,n⁻¹],_,_,L,rfl,r.kept hk,T8 a _ _<|jE _,((_,z),x),λb B=>?_,q);have l:n⁻¹<=b:=by
  simp?[ag,bZ,or_false]at B;obtain rfl|rfl:=B;.show bI _
  .show ab _
 show r.fpOk l<|l6 (t7 r) l
def aeL(K:Ζ)(n:TA):TI:=λσ H R=>n σ H λvs l=>∃a b,vs=[cx a,cx b]/\(∃xs,sN K l a xs)/\(∃ys,sN K l b ys)/\R (Itz K a b) l
def acS(M:Gl X "zip")(O:X.mg "zip" = n_)(ha:PA X [e,f] C)(P:↑(kO [e,f] X.env=[%[f_|eval e<|iI X],%[f_|eval f<|iI X]]))(n:↑(kO [f] X.env=[%[f_|eval f<|iI X]])) :
  PI X (aAg elts kk tpos) (m8 (g9 "zip" p) [e,f] [] pos)<|aeL X.K C:=by
 intro Q s σ H R I h;show Call_ (wX I M O boot_zip<|bC (ua (ha pos Q s σ H _ I h) λus l o_=>?_) (by rw[P,n])<|by rw[n];rfl);have(vs,S,r,U,Y):=o_;have(a,b,e1,(xs,x),(ys,y),q):=Y;subst e1;have(u,v,rfl,ru,rv):=Jk U;cases ru;cases rv;have(E,_,p1,_):=oG r x;have(G,_,p2,_):=oG r y;show call_zip_2 (eQ p1) (eQ p2) λg J z B h1 h2 hsz hk=>nu J ?_;show(l⁻¹+4,[l⁻¹+4,l⁻¹+2,l⁻¹+3,l⁻¹,l⁻¹+1],_,_,S,rfl,r.kept hk,
  UG a b _ _ _ _ _<|aaq l⁻¹,(J,z,(_,_,B),h1,h2),λc L=>?_,q);have t:l⁻¹<=c:=by
  simp?[ag,bZ,or_false]at L;obtain rfl|rfl|rfl|rfl|rfl:=L;.show dh _ _
  .show dh _ _
  .show dh _ _
  .show ab _
  .show dh _ _
 show r.fpOk t<|l6 (t7 r) t
def Xf{K}{tb:TS}{D:BD}(l:Nat->St->Hp->Prop)(h0:l 0 σ H)(hl:∀i σ H,i<=aX xs->l i σ H->sN K H a xs)
  (C:∀i x σ H T,xs[i]?=aK x->l i σ H->H T=n_->tb { D with nx:=l (i+1),ct:=l (i+1),bk:=D.nx } (i8 (i8 σ u<|aK<|c8 i) z<|aK x) (rG H T<|j6 [c8 i,x])) (hd:∀σ H,l (aX xs) σ H->D.nx σ H) :
  ∃W:Nat->Nat->St->Hp->Prop,(∃m,W 0 m σ H)/\∀i m σ H,W i m σ H ->
   ((Ite K a).stop i H/\D.nx σ H)∨((Ite K a).go i H/\∃N:St->Hp->Prop,(∀n r,N n r->∃B,B<m/\W (i+1) B n r)/\∀x r,(Ite K a).yld i H x r->OW K 2 (Bg (uv u)<|Bg (uv z) OF) x σ r λt E=>tb { D with nx:=N,ct:=N,bk:=D.nx } t E):=by
 show(λi m σ H=>m=aX xs-i/\i<=aX xs/\l i σ H,(aX xs,by simp,aH _,h0),?_);rintro i m σ H ⟨rfl,G,p⟩;have q:=hl i σ H G p;by_cases s:i<aX xs;.show ir ((xs,xs[i],q,by simp[s]),l<|i+1,λn r I=>(aX xs-(i+1),by omega,rfl,s,I),λv r y=>?_);have(T,x,J,rfl,rfl,L):=y;show(T,_,rfl,o8 pW,rfl,_,_,rfl,_,_,rfl,rfl,C i x σ H T (L xs q) p J)
 .have e:i=aX xs:=by rfl'
  subst e;show jB ((xs,q,ab _),hd σ H p)
def Ze{K}{tb:TS}{D:BD}(l:Nat->St->Hp->Prop)(h0:l 0 σ H)(t:aX xs=aX ys)
  (hl:∀i σ H,i<=aX xs->l i σ H->sN K H a xs/\sN K H b ys)
  (I:∀i x y σ H T,xs[i]?=aK x->ys[i]?=aK y->l i σ H->H T=n_->tb { D with nx:=l (i+1),ct:=l (i+1),bk:=D.nx } (i8 (i8 σ C<|aK x) E<|aK y) (rG H T<|j6 [x,y])) (hd:∀σ H,l (aX xs) σ H->D.nx σ H) :
  ∃W:Nat->Nat->St->Hp->Prop,(∃m,W 0 m σ H)/\∀i m σ H,W i m σ H ->
   ((Itz K a b).stop i H/\D.nx σ H)∨((Itz K a b).go i H/\∃N:St->Hp->Prop,(∀n r,N n r->∃G,G<m/\W (i+1) G n r)/\∀x r,(Itz K a b).yld i H x r->OW K 2 (Bg (uv C)<|Bg (uv E) OF) x σ r λu J=>tb { D with nx:=N,ct:=N,bk:=D.nx } u J):=by
 show(λi m σ H=>m=aX xs-i/\i<=aX xs/\l i σ H,(aX xs,by simp,aH _,h0),?_);rintro i m σ H ⟨rfl,L,p⟩;have(z,B):=hl i σ H L p;by_cases s:i<aX xs;.show ir ((xs,ys,xs[i],ys[i],z,B,by simp[s],by simp[t ▸ s]),l<|i+1,λn r M=>(aX xs-(i+1),by lia,rfl,s,M),λv r y=>?_);have(T,x,y,O,rfl,rfl,P,Q):=y;show(T,_,rfl,o8 pW,rfl,_,_,rfl,_,_,rfl,rfl,I i x y σ H T (P xs z) (Q ys B) p O)
 .have e:i=aX xs:=by rfl'
  subst e;show jB ((xs,ys,z,B,jB<|ab _),hd σ H p)
def Bs{σ:St}{ns:Ϝ}(I:Inv X n σ H s)(h:sN X.K H a<|ns.map c8) :
  ∃vs:Ξ,pj (b7 s) a (b9 vs)/\lI vs ns/\aX ns<=kK:=by have(l,r,p,z):=oG I h;rw[lMq]at z;show(l,eQ p,yJ r,z)
def S8(E:X.calm=t_):uM X (kj "min")<|λxs H Q=>∃(a:Addr) (ns:Ϝ),xs=[cx a]/\sN X.K H a (ns.map c8)/\0<aX ns/\∀M,M∈ns->(∀x,x∈ns->M<=x)->Q (c8 M) H:=by
 intro O s σ H xs P Q I r h;have(a,ns,rfl,hS,n,q):=h;have(u,rfl,G):=vL r;cases G;have(R,hl,z,_):=Bs I hS;have(xs,e):=z.allInts.items;have l:ns=xs.toList.map (·.1):=by rw[←z.numsOf,←nums_intItems,←e]
 have y:0<xs.size:=by have B:=n;rw[l,lMq]at B;show B
 rw[e]at hl;show min_intList (I.ok.hd E) hl y λv S U J hk=>?_;have(t,rfl):=intItems_at J;have(h1,h2):=argBest_lt (numAt xs)<|xs.size-1;show(c8 _,H,I.kept hk,(t,rfl),q _ ?_ λx C=>?_);.rw[l,numAt_eq];show aB3<|by rw[lMq,dJ];lia
 .rw[l]at C;have(j,L,rfl):=aB4 C;rw[lMq,dJ]at L;rw[←numAt_eq];show h2 j ∅
def Vv(K:Ζ):V->List V->Hp->VK->Prop:=λx vs H Q=>∃(a:Addr) (ns:Ϝ) (k:Int),x = cx a/\vs=[c8 k]/\sN K H a (ns.map c8)/\k∈ns/\Q (c8 (ns.idxOf k:Nat)) H
def VB:MtR X "list.index"<|Vv X.K:=by
 intro oO s σ H x xs v us Q I P r h;have(a,L,k,rfl,rfl,hS,hk,q):=h;cases P;have(u,rfl,t,rfl):=vL r;have(l,R,(o,n,M,S,C,hd),U):=oG I hS;have B:=yJ R;have(cls,dd,O,Y):=o;subst S C hd;have z:=G1 B;have E:=e8 eE hk;have hs:=lh;simp?[lMq]at U;show mv iG (_,M,rfl) PySem.F.entry_list_index (PySem.F.args_list_index_2 _ _)
  (SeqAt.list_indexAt a (b9 l) n n_ Y (iT k t) (isInt k) (L.idxOf k) (by simpa[z]using E) ∅ ?_ ?_) (M,λy hy=>(eq_isInt k t B y<|by simpa using hy).at _ _,?_);.change isInt k l[L.idxOf k]=t_;rw[isInt_at k B _ (by omega) E];simpa using ij E
 .intro j G J;change isInt k l[j]=f_;rw[isInt_at k B j (by show G) ∅];show ne_of_lt_idxOf J _
 .show(c8 _,H,I.tok _,(_,rfl),q)
def aaV(K:Ζ)(x:V)(H:Hp)(T:String)(b:Bool):Prop:=match x with
 | c8 _=>(T = "int" /\ b=t_)∨(T = "bool" /\ b=f_)
 | lR _=>(T = "bool" /\ b=t_)∨(T = "int" /\ b=t_)
 | .str _=>T = "str" /\ b=t_
 | cx p=>(T = "list" /\ b=t_/\∃xs,sN K H p xs)∨(T = "dict" /\ b=t_/\∃kvs,H p=aK (nB kvs))∨(T = "tuple" /\ b=t_/\∃xs,zd K H p xs)
 |_=>False
def Dx:uM X (kj "isinstance")<|λxs H Q=>∃x T b,xs=[x,.ty T]/\aaV X.K x H T b/\Q (lR b) H:=by intro z s σ H xs O Q I r h;have(x,T,b,rfl,e,q):=h;have(u,v,rfl,l,B):=Jk r;cases B;cases x with
 |int i=>
  have(t,rfl):=l;obtain⟨rfl,rfl⟩|⟨rfl,rfl⟩:=e;.show kW (mC (Tx:= "int") aC1 F.sub_int_int) ((show j7 s (iT i t) "int" from rfl),(lR t_,H,I,rfl,q))
  .show kW (mO (by trivial) aBn F.sub_int_bool)<|show EP X z σ Q (eF f_) { s with toks:=nc s+1 } from (lR f_,H,I.tok _,rfl,q)
 |bl i=>
  cases l;obtain⟨rfl,rfl⟩|⟨rfl,rfl⟩:=e;.show kW (mC (Tx:= "bool") aBn F.sub_bool_bool) ((show j7 s (eF i) "bool" from rfl),(lR t_,H,I,rfl,q))
  .show kW (mC (Tx:= "bool") aC1 F.sub_bool_int) ((show j7 s (eF i) "bool" from rfl),(lR t_,H,I,rfl,q))
 |str i=>have(t,rfl):=l;have(rfl,rfl):=e;show kW (mC (Tx:= "str") aC2 F.sub_str_str) ((show j7 s (BI i t) "str" from rfl),(lR t_,H,I,rfl,q))
 |ref p=>
  cases l;obtain⟨rfl,rfl,xs,hS⟩|⟨rfl,rfl,n,C⟩|⟨rfl,rfl,xs,hS⟩:=e;.have(y,E,G,J):=oG I hS;show kW (mC o9<|by kernel_rfl) (G.isList.typeIs,(lR t_,H,I,rfl,q))
  .have ty:=(abQ I<|jB (n,jB C)).1;show kW (mC F.isi_meta_dict<|by kernel_rfl) (ty,(lR t_,H,I,rfl,q))
  .have(y,E,(o,L,M,_),J):=I.tuple hS;show kW (mC n7<|by kernel_rfl) ((o,L,M),(lR t_,H,I,rfl,q))
 |_=>show(e).elim
end Mr
namespace Mr
open PySem L2
structure xP (K:Ζ)(mg:Str->Υ)(x:Str)(st:Stmt)(ps:List Str)(f:Addr)(fd:lH):Prop where
 F:Yu K x x st f fd
 m:mg x=aK (.ref f)
 b:xH K fd ps []
def vR(h:H p=n_):qk H<|rG H p o:=λb u e=>by rw[pI<|ri e h];show e
variable {K:Ζ}{mg:Str->Υ}
structure At (K:Ζ)(x:Str)(st:Stmt)(f:Addr)(fd:lH):Prop where
 a:W.nsIn K kN x=aK (aK<|.ref f)
 F:Yu K x x st f fd
section
variable {kV:Value}{osl:Array Υ}
def aao(a:md K kN x=aK (aK<|ao f))(l:K.lookup f=aK (oc,od,.func<|wh x x (ye st) (vF st) (oX st) gX kV doc pm an zg ct,osl))
  (c:aAv K zg x=t_) (k:aAu K (ao f)=t_):At K x st f<|wh x x (ye st) (vF st) (oX st) gX kV doc pm an zg ct:=(a,PM l c k)
end
abbrev BA(x q:Str)(st:Stmt)(ps:List Str)(us:Ξ):Prop:=∀(kV l pm:Value) (n:Option Addr) (r ct:Value),adE (wh x q (ye st) (vF st) (oX st) gX kV l pm n r ct) (us,[])=pure (ph ps us)
section
variable (F:Yu K x q st f fd)
include F
def b1(h:∀u,BA x q st [a] [u]:=by show λQ Q Q Q Q Q Q=>rfl):xH K fd [a] []:=F.binds λQ Q Q Q Q Q n hl=>by obtain - | ⟨u, - | ⟨v,l⟩⟩:=n <;> cases hl;apply h
def b2(h:∀u v,BA x q st [a,b] [u,v]:=by show λQ Q Q Q Q Q Q Q=>rfl):xH K fd [a,b] []:=F.binds λQ Q Q Q Q Q n hl=>by obtain - | ⟨u, - | ⟨v, - | ⟨w,l⟩⟩⟩:=n <;> cases hl;apply h
def b3(h:∀u v w,BA x q st [a,b,c] [u,v,w]:=by show λQ Q Q Q Q Q Q Q Q=>rfl):xH K fd [a,b,c] []:=F.binds λQ Q Q Q Q Q n hl=>by obtain - | ⟨u, - | ⟨v, - | ⟨w, - | ⟨y,l⟩⟩⟩⟩:=n <;> cases hl;apply h
def b4(h:∀u v w y,BA x q st [a,b,c,d] [u,v,w,y]:=by show λQ Q Q Q Q Q Q Q Q Q=>rfl):xH K fd [a,b,c,d] []:=F.binds λQ Q Q Q Q Q n hl=>by obtain - | ⟨u, - | ⟨v, - | ⟨w, - | ⟨y, - | ⟨z,l⟩⟩⟩⟩⟩:=n <;> cases hl;apply h
end
def ze(X:K.In h)(G:h.Ns kN mg)(a:At K x st f fd)(b:xH K fd ps []):xP K mg x st ps f fd:=(a.F,W.mg_of X G a.a,b)
end Mr
namespace Mr
open PySem PySem.Spec PyProof.Rows L2
def MY(I:Nat->Shared->Prop)
  (turn:∀n s,I n s->kE (kG prog w) A (lZ U) (λr t=>match r with
   |n_=>R (T3 aB0) t
   |aK v=>kE (kG prog w) A (om l U v) (λZ y=>kE (kG prog w) A (acj l env v) (λZ B=>kE (kG prog w) A (forIn L t_ λc r=>if r=t_ then do let ok ←isTrue c env (eval c env);pure (m6 ok)else pure<|m6 r) (λok u=>if ok=t_ then kE (kG prog w) A (eval J env) (λx C=>kE (kG prog w) A (call (kj "list.append") [M,x]) (λZ E=>∃m,m<n/\I m E) (λZ Z=>False) C) (λZ Z=>False) u
      else ∃m,m<n/\I m u) (λZ Z=>False) B) (λZ Z=>False) y) (λZ Z=>False) t) (λZ Z=>False) s)
  n (h:I n s):mq (kG prog w) A (.compLoop (pF J [(l,iter,L,0)] scope pos) 0 U M env) R s:=by show codeAny_loop rfl I (λn s hI=>?_) n h;show wpAny_noted ?_;show kC<|wpAny_standAt<|kC<|lj (turn n s hI) (λr t G=>?_) λZ Z z=>hD z;cases r with
 |none=>show kF G
 |some v=>show kC<|lj G (λZ y O=>?_) λZ Z z=>hD z;show kC<|lj O (λZ B P=>?_) λZ Z z=>hD z;show kC<|lj P (λok u H=>?_) λZ Z z=>hD z;cases ok with
  |false=>show kF (rfl,H)
  |true=>show kC<|kC<|lj H (λx C Q=>kC<|lj Q (λZ E S=>kF<|kF (rfl,S)) λZ Z z=>hD z) λZ Z z=>hD z
noncomputable abbrev vv(X:Cx)(scope:lX)(cl:List<|Str×Addr)(N:List Str)(C:Addr)(s:Shared)(H:Hp)(fp:Δ):Cx where
 prog:=eT X
 w:=X.w
 K:=X.K
 mg:=X.mg
 base:=X.base
 A:=X.A
 N:=N
 s₀:=s
 H₀:=H
 env:=compEnvC scope cl C<|iI X
 outer:=we X
 stack:=we X
 ex:=fp
 fn:=λQ=>f_
 calm:=X.calm
 pn:=[]
 xe:=λQ Q=>False
def PF(X:Cx)(l:List Expr)(t:TT):Prop:=∀n s (σ:St) H Q,Inv X n σ H s->t σ H Q ->
  kE (kG X.prog X.w) X.A (forIn l t_ λc r=>if r=t_ then do let ok ←isTrue c X.env (eval c<|iI X);pure (m6 ok)else pure<|m6 r) (TP X n σ Q) X.xe s
def ae4:TT:=λZ H Q=>Q t_ H
def sZ:PF X [] ae4:=λQ Q Q H Q I h=>wpAny_tests_nil (H,I,h)
def U5(h:PT X c t):PF X [c] t:=λl s σ H Q I q=>wpAny_tests_one<|h l s σ H Q I q
structure sI (X:Cx)(scope:lX)(cl:List<|Str×Addr)(x:Str)(N:List Str)(fr:Θ):Prop where
 names:N.Nodup
 own:N[0]?=aK x
 len:N.length=fr.length+1
 sub:∀y c,cl.lookup y=aK c->X.env.cells.lookup y=aK c
 has:∀y,((mN scope X.env).names.lookup y=aK .cell∨(mN scope X.env).names.lookup y=aK .free)->∃c,cl.lookup y=aK c
 get:∀(k j:Nat) (y:Str),fr[k]?=aK j->N[k+1]?=aK y->X.N[j]?=aK y/\X.env.scope.names.lookup y=aK .cell/\(mN scope X.env).names.lookup y=aK .cell
structure VC (X:Cx)(scope:lX)(cl:List<|Str×Addr)(q:Nat)(N:List Str)(fr:Θ):Prop where
 len:N.length=fr.length+q
 sub:∀y c,cl.lookup y=aK c->X.env.cells.lookup y=aK c
 has:∀y,((mN scope X.env).names.lookup y=aK .cell∨(mN scope X.env).names.lookup y=aK .free)->∃c,cl.lookup y=aK c
 get:∀(k j:Nat) (y:Str),fr[k]?=aK j->N[k+q]?=aK y->X.N[j]?=aK y/\X.env.scope.names.lookup y=aK .cell/\(mN scope X.env).names.lookup y=aK .cell
def sI.g(h:sI X scope cl x N fr):VC X scope cl 1 N fr:=(h.len,h.sub,h.has,h.get)
def sI.none(h:∀p∈hZ scope,p.2 ≠ o6/\p.2 ≠ p4):sI X scope [] x [x] [] where
 names:=by simp
 own:=rfl
 len:=rfl
 sub:=λy c e=>by cases e
 has:=λy e=>by
  exfalso;have key:∀p∈hZ (mN scope<|iI X),p.2 ≠ o6/\p.2 ≠ p4:=by
   intro p l;have(q,r,rfl):=mMq.mp l;have(n,k):=q;have(h1,h2):=h _ r;have hk:(k == p4)=f_:=by simpa using h2
   simp?[hk,Bool.false_and];show(h1,h2)
  obtain e|e:=e;.show(key _<|eL e).1 rfl
  .show(key _<|eL e).2 rfl
 get:=λk j y e Q=>by cases e
noncomputable def slots(σ:St)(fr:Θ):St:=fr.map λj=>rg<|σ[j]?
def JC(z:TI)(fr:Θ)(B:TT)(te:TE):TE:=λσ H Q=>z σ H λJ r=>∀l,r l=n_->∃W:Nat->Nat->Hp->Prop,(∃m,W 0 m<|rG r l<|et [])/\∀i m H,W i m H ->
 (J.stop i H/\Q (cx l) H) ∨
 (J.go i H/\∃N:Hp->Prop,(∀n,N n->∃s,s<m/\W (i+1) s n)/\∀x n,J.yld i H x n->B (aK x::slots σ fr) n λb t=>if b=t_ then te (aK x::slots σ fr) t λy u=>∃ys,u l=aK (et ys)/\aX ys<kK/\N (rG u l<|et<|ys++[y])else N t)
def MJ{own:St->Prop}{E:Ψ}{RR:Value->Addr->nV->Shared->Prop}{Q:VK}
  (hc:X.calm=t_) (hcell:∀y∈hZ scope,y.2 ≠ o6) (hkind:scope.kind = pk) (hF:VC X scope cl q N fr) (pg:∀C s H fp,PG (vv X scope cl N C s H fp) tg gq) (hw:∀σ2,own σ2->∃ws:St,aX ws=q/\σ2=ws++slots σ fr)
  (hf:∀C s H fp,PF (vv X scope cl N C s H fp) ifs tf) (he:∀C s H fp,PE (vv X scope cl N C s H fp) elt te)
  (I:Inv X oO σ H s) (T:Lf X.prog X.w X.K tg J fp it tn) (st:tn 0<|b7 s) (P:∀b∈fp,wy X oO H b)
  (h:∀M,H M=n_->∃W:Nat->Nat->Hp->Prop,(∃m,W 0 m<|rG H M<|et [])/\∀i m H,W i m H ->
   (J.stop i H/\Q (cx M) H) ∨
   (J.go i H/\∃N:Hp->Prop,(∀S,N S->∃m',m'<m/\W (i+1) m' S)/\∀x S,J.yld i H x S->∀vs:St,aX vs=q->gq x (vs++slots σ fr) S λσ2 H1=>own σ2/\tf σ2 H1 λb H2=>if b=t_ then te σ2 H2 λy H3=>∃ys,H3 M=aK (et ys)/\aX ys<kK/\N (rG H3 M<|et<|ys++[y])else N H2))
  (fin:∀M C s' Hf m,Inv X oO σ Hf s'->s'.heap.Ns C m->wy X oO Hf C->Q (cx M) Hf->RR (ao M) C (T3 aB0) s') :
  kE (kG X.prog X.w) X.A (newList []) (λM U=>kE (kG X.prog X.w) X.A (newFunctionEnv scope X.env.globals cl [] X.env.qual n_ gX<|aK<|iI X) (λcenv s₄=>mq (kG X.prog X.w) X.A (.compStart (pF elt [(tg,iter,ifs,0)] scope pos) 0 (ao it) M { cenv with scope:=mN scope<|iI X }) (RR M<|n6 cenv) s₄) E U) E s:=by
 show wpAny_newObj_type<|acJ hcell (by intro y hy;simp at hy) (λO R L=>?_) hkind;dsimp only at R L ⊢;generalize hG:ig (b7 s) { cls:=iD "list", dict:=n_,data:=k6<|b9 ([]:Ξ) }=G at R L ⊢;have hC:G.objs.size=s⁻¹+1:=by rw[←hG,hW]
 have hCle:s⁻¹<=G.objs.size:=by rw[hC];show bI _
 have hDC:s⁻¹≠G.objs.size:=by rw[hC];show ar<|eG _
 have below:∀b,b<s⁻¹->b≠G.objs.size:=λb t=>by rw[hC];show ar<|bS t
 have old:∀b o,c7 (b7 s) b=aK o->c7 O b=aK o:=λb o e=>i6 L b o (below b<|ae e)<|aa _<|hG ▸ aa _ e;have hacc:c7 O s⁻¹=aK { cls:=iD "list", data:=k6<|b9 ([]:Ξ) }:=i6 L _ _ hDC<|aa _<|hG ▸ aA _ rfl;have hn:H s⁻¹=n_:=l6 (t7 I)<|ab _;have hnC:H G.objs.size=n_:=l6 (t7 I) hCle;have fpl:∀b∈fp,b<s⁻¹:=λb t=>by have(o,q,_):=T.obj 0 _ st b t;show ae q
 have(W,(m0,w0),turn):=h _ hn;have ok':(vv X scope cl N G.objs.size s H fp).Ok:=by
  show(I.ok.mod,by change(mN scope<|iI X).kind = pk;show hkind,I.ok.glob,I.ok.blt,hCle,λy z c h1 h2=>I.ok.inj y z c (hF.sub y c h1)<|hF.sub z c h2,hF.has,λZ Z z Z=>(by cases z),I.ok.hd,I.ok.frames,jB rfl,
   λb t=>(below b<|fpl b t,λy c e=>(P b t).2.2.2.2.1 y c<|hF.sub y c e),λb o e=>((I.bs b o e).1,(I.bs b o e).2),bH I.ok.bsz I.sz,λb o e t=>?_,λb t z=>?_,I.stack,I.stkFree,I.tb)
  .obtain q|q:=(P b t).2.2.2.1;.show I.ok.noex b o e q
   .show absurd (aT (ae (I.ok.bs b o e).1) q)<|cF _
  .obtain q|q:=ag.mp<|I.stkSub b z;.show(P b t).2.1 q
   .show(P b t).2.2.1 q
 have I0:Inv (vv X scope cl N G.objs.size s H fp) [] (aF q n_++slots σ fr) (rG H s⁻¹<|et []) { s with heap:=O,toks:=nc s+aX ([]:List<|Str×Value) }:=by
  have hok1:Dw X.prog X.w (rG H s⁻¹<|et []) O:=I.hok.laid old (ab _) (aH _,[],0,j8,hacc);show(ok',rfl,I.bare,Un.laid old (ab _) hn,(_,R,λk y v e1 e2 e3=>?_),λy c e=>?_,?_,λy c e=>?_,λp hp=>absurd (show p∈([]:Φ)from hp) ⋯,hok1,?_)
  .by_cases kq:k<q;.have e2:(aF q n_++slots σ fr)[k]?=aK (aK v):=e2;rw[gZq<|by rw[bz];show kq,cX,qz kq]at e2;cases e2
   .obtain⟨k,rfl⟩:∃j,k=j+q:=(k-q,by lia);have Y:(aF q n_++slots σ fr)[k+q]?=aK (aK v):=e2;rw[gYq<|by rw[bz];rfl',bz,Nat.add_sub_cancel]at Y;unfold slots at Y;rw[gMq]at Y;cases ej:fr[k]? with
    |none=>rw[ej]at Y;cases Y
    |some j=>
     rw[ej]at Y;have e2j:rg (σ[j]?)=aK v:=aK.inj Y;have e2s:σ[j]?=aK (aK v):=by cases q:σ[j]? with
      |none=>rw[q]at e2j;cases e2j
      |some z=>rw[q]at e2j;show congrArg aK e2j
     have(g1,g2,g3):=hF.get k j y ej e1;have(m,_,hl):=I.loc;have(u,r,l):=hl j y v g1 e2s<|ir<|jB g2;show(u,r,ir (jB g3,?_));have(c,e):=hF.has y<|jB g3;have e':=hF.sub y c e;obtain⟨l1,_⟩|⟨_,c',ec,hcell'⟩:=l;.have l1':X.env.scope.names.lookup y=aK kU:=l1;rw[g2]at l1';cases l1'
     .rw[e']at ec;cases ec;have(o,ho,hd):=hcell';show(c,e,o,old c o ho,hd)
  .have(v,o,ho,hd):=I.cell y c<|hF.sub y c e;show(v,o,old c o ho,hd)
  .change rG H s⁻¹ (et []) G.objs.size=n_;rw[pI<|h7 hDC];show hnC
  .have(v,o,ho,hd):=I.cell y c<|hF.sub y c e;rw[pI<|ar<|ae ho];show I.freeC y c<|hF.sub y c e
  .change(aX<|aF q n_++slots σ fr)=aX N;unfold slots;simp?[hF.len,lAq,bz,lMq,gc]
 have Zm:tn 0 O:=T.keep 0 _ _ st λb Z o e=>old b o e;have nf0:∀b∈fp,rG H s⁻¹ (et []) b=n_:=λb t=>by rw[pI<|ar<|fpl b t];show(P b t).1
 have stat:∀{S:Hp},(∀b∈fp,S b=n_)->∀b∈fp,wy (vv X scope cl N G.objs.size s H fp) [] S b:=λhn' b t=>(hn' b t,below b<|fpl b t,ok'.exfs b t,jB t,λy c e=>(ok'.exf b t).2 y c e,λp hp=>absurd (show p∈([]:Φ)from hp) ⋯);have loop:∀U:Shared,U={ s with heap:=O,toks:=nc s+aX ([]:List<|Str×Value) } ->
   mq (kG X.prog X.w) X.A (.compLoop (pF elt [(tg,iter,ifs,0)] scope pos) 0 (ao it) (ao s⁻¹)<|compEnvC scope cl G.objs.size<|iI X) (RR (ao s⁻¹) G.objs.size) U:=by
  rintro U rfl;show MY (λn s'=>∃i vs S,aX vs=q/\Inv (vv X scope cl N G.objs.size s H fp) [] (vs++slots σ fr) S s'/\tn i s'.heap/\(∀b∈fp,S b=n_)/\W i n S) ?_ m0 (0,_,_,bz,I0,Zm,nf0,w0);rintro n s4 ⟨i,vs,H4,lv,I4,st4,nf4,w4⟩;obtain⟨stop,qq⟩|⟨go,Nx,hNx,step⟩:=turn i n H4 w4;.show ua (T.done (vv X scope cl N G.objs.size s H fp) rfl rfl rfl hc i [] s4 (vs++slots σ fr) H4 (λZ Z=>False) I4 (stat nf4) st4 stop) λr s5 B=>?_;have(hr,I5):=B;subst hr;have(m,hm,_):=I5.loc;have I6:Inv X oO σ H4 s5:=I.call' (ch:=fp) I5.os I5.base I5.hok I5.bare λb t=>((P b t).2.2.2.1,(P b t).2.1,(P b t).2.2.2.2.1,(P b t).2.2.2.2.2);show fin _ _ s5 H4 m I6 hm (I.fpOk hCle I5.free) qq
  .show ua (T.item (vv X scope cl N G.objs.size s H fp) rfl rfl rfl hc i [] s4 (vs++slots σ fr) H4 (λZ Z=>False) I4 (stat nf4) st4 go) λr s5 B=>?_;have(u,hr,h5):=B;subst hr;show ua h5 λZ s6 B=>?_;have(y,H6,I6,r6,y6,st6,nf6):=B;have I6':=I6.pinned (stat nf6)<|T.obj _ _ st6;show ua (pg _ _ _ _ _ s6 (vs++slots σ fr) H6 y u _ I6' r6<|step y _ y6 vs lv) λZ s7 B=>?_;have(σ7,H7,I7,o7,q7):=B;have(ws,lw,e7):=hw _ o7;subst e7;show ua (hf _ _ _ _ _ s7 _ _ _ I7 q7) λb s8 B=>?_;have(H8,I8,q8):=B;have again:∀{s9:Shared}{H9:Hp},Inv (vv X scope cl N G.objs.size s H fp) ([]++HD fp s6.heap) (ws++slots σ fr) H9 s9->Nx H9->∃m,m<n/\∃i vs S,aX vs=q/\Inv (vv X scope cl N G.objs.size s H fp) [] (vs++slots σ fr) S s9/\tn i s9.heap/\(∀b∈fp,S b=n_)/\W i m S:=λ{s9 H9} I9 n9=>by have(m',hm,w9):=hNx H9 n9;show(m',hm,i+1,ws,H9,lw,I9.unpinned,T.keep _ _ _ st6 λb t o e=>(I9.pin %[b|o]<|ay _<|ay _<|AI t e).1,λb t=>?_,w9);have(o,e,d):=T.obj _ _ st6 b t;show(I9.pin %[b|o]<|ay _<|ay _<|AI t e).2.1
   cases b with
   |false=>show again I8 q8
   |true=>show ua (he _ _ _ _ _ s8 _ _ _ I8 q8) λz s9 B=>?_;have(zv,H9,I9,r9,ys,a9,l9,n9):=B;show ua (rA _ s9 _ H9 (cx s⁻¹) [zv] (ao s⁻¹) [z] (λZ S=>S=rG H9 s⁻¹ (et<|ys++[zv])) I9 rfl (hL r9 j8) (_,ys,zv,rfl,rfl,a9,l9,rfl)) λZ s10 B=>?_;have(_,H10,I10,_,e10):=B;subst e10;show again I10 n9
 show codeAny_compStart_list (loop _ rfl)<|T.self X.A 0 _ _ _ Zm<|loop _ rfl
def Hv{σ:St}{E:Ψ}{RR:Value->Addr->nV->Shared->Prop}{Q:VK}
  (hc:X.calm=t_) (r:∀y∈hZ scope,y.2 ≠ o6) (t:scope.kind = pk) (U:scope.names.lookup x=aK kU) (M:sI X scope cl x N fr)
  (hf:∀C s H fp,PF (vv X scope cl N C s H fp) ifs tf) (he:∀C s H fp,PE (vv X scope cl N C s H fp) elt te)
  (I:Inv X L σ H s) (T:Lf X.prog X.w X.K (g9 x px) J fp S tn) (st:tn 0<|b7 s) (O:∀b∈fp,wy X L H b)
  (h:∀l,H l=n_->∃W:Nat->Nat->Hp->Prop,(∃m,W 0 m<|rG H l<|et [])/\∀i m H,W i m H ->
   (J.stop i H/\Q (cx l) H) ∨
   (J.go i H/\∃N:Hp->Prop,(∀u,N u->∃Y,Y<m/\W (i+1) Y u)/\∀x u,J.yld i H x u->tf (aK x::slots σ fr) u λb H2=>if b=t_ then te (aK x::slots σ fr) H2 λy H3=>∃ys,H3 l=aK (et ys)/\aX ys<kK/\N (rG H3 l<|et<|ys++[y])else N H2))
  (fin:∀l C P R m,Inv X L σ R P->P.heap.Ns C m->wy X L R C->Q (cx l) R->RR (ao l) C (T3 aB0) P) :
  kE (kG X.prog X.w) X.A (newList []) (λl z=>kE (kG X.prog X.w) X.A (newFunctionEnv scope X.env.globals cl [] X.env.qual n_ gX<|aK<|iI X) (λn B=>mq (kG X.prog X.w) X.A (.compStart (pF elt [(g9 x px,iter,ifs,0)] scope pos) 0 (ao S) l { n with scope:=mN scope<|iI X }) (RR l<|n6 n) B) E z) E s:=by
 show MJ (own:=λG=>∃a,G=a::slots σ fr) hc r t M.g (λC s H fp=>KN M.names M.own (jB<|adf U)<|ir<|adf U) (λG e=>?_) hf he I T st O (λl ha=>?_) fin;.have(a,rfl):=e;show([a],rfl,rfl)
 .have(W,w0,turn):=h l ha;show(W,w0,λi m H w=>(turn i m H w).imp id λo_=>?_);have(go,N,hN,stp):=o_;show(go,N,hN,λx u y vs lv=>?_);match vs,lv with
  | [v],_=>show((aK x,rfl),stp x u y)
def sM(E:X.calm=t_)(r:adl scope X.env=pure cl)(t:∀y∈hZ scope,y.2 ≠ o6)(l:scope.kind = pk)(n:∀y∈hZ scope,y.2 = kU->scope.names.lookup y.1=aK kU)
  (G:scope.names.lookup x=aK kU) (L:sI X scope cl x N fr) (M:PI X (g9 x px) iter B) (hf:∀C s H fp,PF (vv X scope cl N C s H fp) ifs tf) (O:∀C s H fp,PE (vv X scope cl N C s H fp) elt te)
  (P:∀x,nW iter X.env x=pure x:=by intro _;rfl):PE X (pF elt [(g9 x px,iter,ifs,0)] scope pos)<|JC B fr tf te:=by intro R s σ H Q I h;show oh rfl P r l n<|ua (M R s σ H _ I h) λv s1 h1=>ua h1 λS s2 h2=>?_;have(it,fp,tn,J,H2,e,U,T,LJ,f2,Y):=h2;subst e;show Hv E t l G L hf O U T LJ f2 Y ?_;intro z C s' Hf m I' hm u q;show(m,hm,λh' sb=>(cx z,Hf,?_,rfl,q));show I'.turned (λb o hb e=>eI (sb.2 b hb) e) u.1 u.2.1 u.2.2.2.1 u.2.2.2.2.1 u.2.2.2.2.2
def Cr(hc:X.calm=t_)(hN:c9 X.N)(R:X.N[i]?=aK y)(hy:Loc X.env.scope y)(E:adl scope X.env=pure cl)(G:∀y∈hZ scope,y.2 ≠ o6)(l:scope.kind = pk)
  (n:∀y∈hZ scope,y.2 = kU->scope.names.lookup y.1=aK kU)
  (hx:scope.names.lookup x=aK kU) (hF:sI X scope cl x N fr) (hi:PI X (g9 x px) iter wi) (hf:∀C s H fp,PF (vv X scope cl N C s H fp) ifs tf) (he:∀C s H fp,PE (vv X scope cl N C s H fp) elt te)
  (S:↑(oz (pF elt [(g9 x px,iter,ifs,0)] scope pos) (aK<|g9 y py) B.line X.env=pure t_)) (hs:∀x,nW iter X.env x=pure x:=by intro _;rfl)
  (U:↥(X.fn y=t_∨X.env.scope.names.lookup y=aK kU)) :
  PS X (aAh [g9 y py] (pF elt [(g9 x px,iter,ifs,0)] scope pos) B)<|Hk (JC wi fr tf te)<|uv i:=by
 intro O s σ H D I h;rw[exec_Assign_Name_used _ _ _ _ S];show kC<|wpAny_standAt<|kC ?_;change kE _ X.A (do let _ ←comprehension (pF elt [(g9 x px,iter,ifs,0)] scope pos) scope X.env _ (newList []) f_ (eval iter<|iI X) (aK<|acj (g9 y py)<|iI X)) _ _ s;show kC (lj (oh (use:=aK<|acj (g9 y py)<|iI X) (Q:=λZ L=>SP X O D aB0 L) rfl hs E l n
  (ua (hi O s σ H _ I h) λv s1 h1=>ua h1 λitv s2 h2=>?_)) (λZ L hq=>kF<|kF hq) λZ Z e=>e);have(it,fp,tn,J,H2,e,P,T,LJ,f2,Y):=h2;subst e;show Hv (RR:=λt C=>compPost (kG X.prog X.w) X.A X.xe (aK<|acj (g9 y py)<|iI X) (λZ L=>SP X O D aB0 L) t C) (Q:=λv H'=>D.nx (i8 σ i<|aK v) H') hc G l hx hF hf he P T LJ f2 Y ?_;intro t C L Hf m I' hm M q;have(o,es,ep,ho,hd,r):=id hm;have I1:Inv X (O++[%[C|o]]) σ Hf L:=I'.pins_of λp hp=>(mAq.mp hp).elim (λz=>I'.pin p<|ay _ z) λz=>by
  have e:p=%[C|o]:=by simpa using z
  subst e;show(ho,M.1,M.2.1,M.2.2.1,λv z=>by rw[hd]at z;cases z)
 show ua (KN (X:=X) (i:=i) (pos:=py) hN R hy U _ L σ Hf (cx t) (ao t) _ I1 rfl q) λZ s2 hz1=>?_;have(σ2,H2,P,Y):=hz1;have pC:=P.pin %[C|o]<|ay _<|ay _ ⋯;show(m,(o,es,ep,pC.1,hd,r),λh' sb=>(σ2,H2,?_,Y));show P.unpinned.turned (t':=nc s2) (λb u hb e=>eI (sb.2 b hb) e) pC.2.1 M.2.1 M.2.2.2.1 M.2.2.2.2.1 M.2.2.2.2.2
end Mr
open Mr.sI renaming none->p8
namespace MrS
open PySem PyProof.Rows
noncomputable abbrev xx(h:Heap)(a:Addr)(vs:Ξ):Heap:=ig (ig (fi h a<|cS λQ=>#[])<|kL "tuple" (b9 vs) 0)<|kL "list" #[] 0
def QD{xs:Ω}vs(t:c7 h a=aK (kL "list" xs n)):∃l,c7 (xx h a vs) a=aK (kL "list" #[] l):=by have ha:a<h.objs.size:=ae t;obtain⟨l,r⟩:∃l,c7 (fi h a<|cS λQ=>#[]) a=aK (kL "list" #[] l):=(_,lO t<|λQ=>#[]);show(l,?_);rw[ee _ _ _<|by rw[mR,cg];show ar<|bS ha,ee _ _ _<|by rw[cg];show ar ha];show r
def Q2{h:Heap}{xs:Ω}(ys:Ω)(l:c7 h a=aK (kL "list" xs n)):∃r,c7 (fi h a<|cS λQ=>ys) a=aK (kL "list" ys r):=(_,lO l<|λQ=>ys)
def zw{vs:Ξ}(h:x∈mI vs):x.1∈vs/\x.2=x.1:=by
 have(i,n,e):=Array.mem_iff_getElem.mp h;have l:i<aX vs:=by rw[mY]at n;show n
 have:x=%[vs[i]|vs[i]]:=by rw[←e];simp[mI]
 rw[this];show(gRq l,rfl)
def Fp{vs:Ξ}(r:jS xs<|mI vs)(u:Fo lt xs 0 (mI vs).size) :
  dg (xs.map (·.2)).toList vs/\(xs.map (·.2)).toList.Pairwise (λx y=>lt %[y|y] %[x|x]=f_):=by
 constructor
 .have:=r.toList.map (·.2);have e:(mI vs).toList.map (·.2)=vs:=by
   have:km (mI vs)=ph vs vs:=by simp[mI]
   rw[this];apply gA;.simp
   .intro i h1 h2;simp
  rw[e]at this;rw[jF];show this
 .rw[bF];intro i j B C t;have n:i<xs.size:=by simpa using B
  have l:j<xs.size:=by simpa using C
  have z:=u i j xs[i] xs[j] (aH _) (bQ t) (by rw[←r.size_eq];show l) (by simp[n])<|by simp[l]
  have m1:=zw<|r.mem_iff.mp<|ju n;have m2:=zw<|r.mem_iff.mp<|ju l;have G:xs[i]=%[xs[i].2|xs[i].2]:=iO m1.2.symm rfl;have H:xs[j]=%[xs[j].2|xs[j].2]:=iO m2.2.symm rfl;rw[G,H]at z;simpa using z
end MrS
namespace HT
open PySem PyProof.Rows
section
open PySem.SeqAt
open PySem.AutoSeq1 (wpAny_loadPart')
open PySem.MeetsSeq PySem.MeetsSeq2 PySem.MeetsSeq3 PySem.SeqRoads2
def ND{vs:Ξ}{ns:Ϝ}(h:lI vs ns):∀{i}l,∃z t,vs[i] = iT z t/\ns.drop i=z::ns.drop (i+1):=by induction h with
 |nil=>intro i l;show absurd l<|bR _
 |cons a t _ n=>intro i l;cases i with
  |zero=>show(a,t,rfl,rfl)
  |succ i=>show n (i:=i)<|by simpa using l
def KR l b(z r:Ω)n X dd J(sl L:Array Υ)(ns ms:Ϝ)(Q:lI (km z) ns)(S:lI (km r) ms)k :
  ∀i:Nat,min z.size r.size-i=k->i<=z.size->i<=r.size->Meets (Builtin.«list.__eq__.loop» ([ao l,ao b,oj i,oj 0],[]))
   (λZ R s=>c7 (b7 s) l=aK { cls:=iD "list", dict:=dd,data:=k6 z n,slots:=sl }/\c7 (b7 s) b=aK { cls:=iD "list", dict:=J,data:=k6 r X,slots:=L } /\
    R (T3<|pG<|eF<|rM (ns.drop i)<|ms.drop i) s):=by
 have z1:aX ns=z.size:=by rw[←G1 Q];simp
 have z2:aX ms=r.size:=by rw[←G1 S];simp
 induction k with
 |zero=>
  intro i hk h1 h2 prog w A R s h;have(M,g,d,O,os):=s;have(hl,H,h):=h;wp_walk using wpAny_loadPart' hl,wpAny_loadPart' H;have fin:rM (ns.drop i) (ms.drop i)=decide (z.size<r.size):=by
   by_cases c:i=z.size
   .have Y:ns.drop i=[]:=bU ∅;rw[Y];by_cases U:i<r.size;.rw[aC (by lia:i<ms.length),Bq];show(d7 ∅).symm
    .rw[bU (by lia:ms.length<=i),CP];show(d8 ∅).symm
   .have U:i=r.size:=by lia
    rw[aC (by lia:i<ns.length),bU (by lia:ms.length<=i),BY];show(d8 ∅).symm
  rw[fin]at h;by_cases c:i=z.size
  .have B:z[jz ((i:Nat):Int)]?=n_:=by simp;lia
   rw[B];wp_walk using wpAny_loadPart' hl,wpAny_loadPart' H;show h
  .have U:i=r.size:=by lia
   have B:z[jz ((i:Nat):Int)]?=aK (z[i]'∅):=by simp
   have C:r[jz ((i:Nat):Int)]?=n_:=by simp;lia
   rw[B,C];wp_walk using wpAny_loadPart' hl,wpAny_loadPart' H;show h
 |succ k ih=>
  intro i hk h1 h2 prog w A R s h;have(M,g,d,O,os):=s;have(hl,H,h):=h;wp_walk using wpAny_loadPart' hl,wpAny_loadPart' H;have I:i<z.size:=by lia
  have E:i<r.size:=by lia
  have(x,t,ex,dx):=ND Q (i:=i)<|by simpa using I
  have(y,u,ey,dy):=ND S (i:=i)<|by simpa using E
  have B:z[jz ((i:Nat):Int)]?=aK (iT x t):=by rw[←ex];simp[I]
  have C:r[jz ((i:Nat):Int)]?=aK (iT y u):=by rw[←ey];simp[E]
  have hc:((i:Int)+1)=((i+1:Nat):Int):=by push_cast;rfl
  rw[dx,dy,xn]at h;rw[B,C];have(e,he,G):=M0 A.in1 (M,g,d,O,os) x t y u;show kC<|he prog w _ _ ?_;cases e with
  |true=>rw[qz<|G.mp rfl]at h;wp_walk;rw[hc];show(lD plain_eq_loop _,kY entry_eq_loop<|by rw[eo plain_eq_loop _];show ih (i+1) ∅ ∅ ∅ prog w A R _ (hl,H,h))
  |false=>rw[qE<|λq=>absurd (e8 G q) aZ]at h;have P:=M6 A.in1 (M,g,d,O,os) x t y u prog w;wp_walk using wpAny_loadPart' hl,wpAny_loadPart' H;rw[B,C];wp_walk using P;show h
def Kx l b(t r:Ω)n y dd u(sl x:Array Υ)(ns ms:Ϝ)(B:lI (km t) ns)(C:lI (km r) ms) :
  Meets (Builtin.«list.__lt__» ([ao l,ao b],[]))
   (λQ R s=>c7 (b7 s) l=aK { cls:=iD "list", dict:=dd,data:=k6 t n,slots:=sl }/\c7 (b7 s) b=aK { cls:=iD "list", dict:=u,data:=k6 r y,slots:=x } /\
    R (T3<|pG<|eF<|rM ns ms) s):=by intro prog w A R s h;have(E,g,d,G,os):=s;have(hl,z,h):=h;have H:=CV;wp_walk using wpAny_loadPart' hl,wpAny_loadPart' z;show(lD plain_eq_loop _,kY entry_eq_loop<|by rw[eo plain_eq_loop _];show KR l b t r n y dd u sl x ns ms B C _ 0 rfl (aH _) (aH _) prog w A R _ (hl,z,h))
end
end HT
namespace MrS
open PySem PyProof.Rows
section
variable {E:Ψ}
noncomputable def ltx(lt:kH->kH->Bool)(ix:kH->Nat)(x y:kH):Bool:=lt x y || (!lt y x && decide (ix x<ix y))
def uc:ltx lt ix x y=f_↔lt x y=f_/\(lt y x=t_∨ix y<=ix x):=by unfold ltx;cases h1:lt x y <;> cases h2:lt y x <;> simp
structure Od (P:kH->Prop)(lt:kH->kH->Bool):Prop where
 refl:∀x,P x->lt x x=f_
 asym:∀x y,P x->P y->lt x y=t_->lt y x=f_
 trans:∀x y z,P x->P y->P z->lt y x=f_->lt z y=f_->lt z x=f_
def Eu.od(C:Eu prog w A s κ P lt):Od P lt:=(λx=>C.refl,C.asym,C.trans)
def Od.ltx(C:Od P lt)ix:Od P<|ltx lt ix:=by
 show(λx l=>uc.mpr (C.refl x l,.inr<|ab _),λx y l py h=>?_,λx y z l py r h1 h2=>?_)
 .unfold MrS.ltx at h;rw[jO,iE,gg,decide_eq_true_iff]at h;obtain h|⟨h1,h2⟩:=h;.show uc.mpr (C.asym x y l py h,.inl h)
  .show uc.mpr (h1,.inr<|bQ h2)
 .have(t,n):=uc.mp h1;have(b1,b2):=uc.mp h2;have B:=C.trans x y z l py r t b1;show uc.mpr (B,?_);cases u:lt x z with
  |true=>show .inl rfl
  |false=>
   show .inr ?_;have G:lt x y=f_:=C.trans y z x py r l b1 u;have H:lt y z=f_:=C.trans z x y r l py u t;rw[G]at n;rw[H]at b2;obtain n|n:=n;.cases n
   .obtain b2|b2:=b2;.cases b2
    .show bH n b2
def OB(h:Fo (ltx lt ix) xs i j):Fo lt xs i j:=λp q x y a b c ex l=>(uc.mp<|h p q x y a b c ex l).1
def Pf(lt:kH->kH->Bool)(ix:kH->Nat)(xs:Array kH)(lo k:Nat):Prop:=∀j r x y,j<r->k<=r->xs[lo+j]?=aK x->xs[lo+r]?=aK y->lt x y=f_->lt y x=f_->ix x<=ix y
def abE{lo}(hz:lo+k<xs.size)(hl:l<=k)(h:Pf lt ix xs lo k):Pf lt ix (abx xs (lo+k)<|k-l) lo<|k+1:=by
 have z:xs[lo+k]?=aK (xs[lo+k]'hz):=bA hz;have g:∀p,(abx xs (lo+k)<|k-l)[p]?=if p=lo+l then aK (xs[lo+k]'hz)else if lo+l<p/\p<=lo+k then xs[p-1]? else xs[p]?:=λp=>by rw[oq hz (k-l) (by ac_nf) p,show lo+k-(k-l)=lo+l by lia,z]
 intro j r x y C hr ex n t u;rw[g,qE ∅,qE ∅]at n;rw[g]at ex;by_cases c:lo+j=lo+l;.rw[qz c]at ex;cases ex;show h k r _ y (by rfl') ∅ z n t u
 .rw[qE c]at ex;by_cases B:lo+l<lo+j/\lo+j<=lo+k;.rw[qz B]at ex;show h (j-1) r x y ∅ ∅ (by rw[show lo+(j-1)=lo+j-1 by lia];show ex) n t u
  .rw[qE B]at ex;show h j r x y C ∅ ex n t u
def Pf.above{lo}(h:Pf lt ix xs lo k)(h1:j<r)(h2:k<=r)(ex:xs[lo+j]?=aK x)(l:xs[lo+r]?=aK y)(e:lt y x=f_):ltx lt ix y x=f_:=by show e8 uc (e,?_);cases q:lt x y with
 |true=>show jB rfl
 |false=>show ir<|h j r x y h1 h2 ex l q e
def Xo(C:Od P lt)(H:∀x,x∈xs->P x){lo}(hz:lo+k<xs.size)(hl:l<=k)(G:Fo lt xs lo<|lo+k)(I:xs[lo+k]?=aK x)
  (h1:∀j y,j<l->xs[lo+j]?=aK y->lt x y=f_) (h2:∀j y,l<=j->j<k->xs[lo+j]?=aK y->lt x y=t_):Fo lt (abx xs (lo+k)<|k-l) lo<|lo+(k+1):=by
 have J:=H _<|aQq I;have g:∀p,(abx xs (lo+k)<|k-l)[p]?=if p=lo+l then aK x else if lo+l<p/\p<=lo+k then xs[p-1]? else xs[p]?:=λp=>by rw[oq hz (k-l) (by ac_nf) p,show lo+k-(k-l)=lo+l by lia,I]
 intro p q u v L O Q r n;rw[g]at r n;by_cases M:p=lo+l
 .rw[qz M]at r;cases r;by_cases t:q=lo+l;.rw[qz t]at n;cases n;show C.refl _ J
  .rw[qE t,qz (by lia,by lia)]at n;have pv:=H _<|aQq n;show C.asym _ _ J pv<|h2 (q-1-lo) v ∅ ∅<|by rw[show lo+(q-1-lo)=q-1 by lia];show n
 .rw[qE M]at r;by_cases z:lo+l<p/\p<=lo+k;.rw[qz z]at r;rw[qE ∅,qz (by lia,by lia)]at n;show G (p-1) (q-1) _ _ ∅ ∅ ∅ r n
  .rw[qE z]at r;by_cases t:q=lo+l;.rw[qz t]at n;cases n;show h1 (p-lo) u ∅<|by rw[show lo+(p-lo)=p by rfl'];show r
   .rw[qE t]at n;by_cases B:lo+l<q/\q<=lo+k;.rw[qz B]at n;show G p (q-1) _ _ L ∅ ∅ r n
    .rw[qE B]at n;show G p q _ _ L O ∅ r n
def Me(C:Eu prog w A s κ P lt){lo}{st}(hp:∀x,x∈kP st->P x)(hk:kindOf st=κ)(h1:1<=ok)(h2:ok<=n)(hz:lo+n<=(kP st).size)(hs:Fo (ltx lt ix) (kP st) lo<|lo+ok)(hf:Pf lt ix (kP st) lo ok)
  (h:∀xs,Ew (kP st) xs lo (lo+n)->Fo (ltx lt ix) xs lo (lo+n)->Pf lt ix xs lo n->Q t_ (mj st xs)):wpS (kG prog w) A E s (binarySort' lo n ok) Q st:=by
 rw[binarySort'_eq];dsimp only;rw[Nat.max_eq_left h1];show kQ (nv (mX (I:=λk c u=>∃t,c=%[n_|()]/\u=mj st t/\Ew (kP st) t lo (lo+n)/\Fo (ltx lt ix) t lo (lo+k)/\Pf lt ix t lo k/\k<=n)
  (Q:=λc u=>∃t,c=%[n_|()]/\u=mj st t/\Ew (kP st) t lo (lo+n)/\Fo (ltx lt ix) t lo (lo+n)/\Pf lt ix t lo n) ?step ?fin (kP st,rfl,rfl,Ew.refl _ _ _,hs,hf,h2)) ?post);case fin=>
  rintro c u ⟨t,rfl,rfl,b1,G,f1,q⟩;have e:max ok n=n:=by ac_nf
  rw[e]at G f1;show(t,rfl,rfl,b1,G,f1)
 case post=>rintro c u ⟨t,rfl,rfl,b1,G,f1⟩;show lN<|h t b1 G f1
 case step=>
  rintro k c u hk1 M ⟨t,rfl,rfl,b1,U,f1,q⟩;have G:Fo lt t lo<|lo+k:=OB U;have z:=b1.mem hp;have hsz:=b1.size;have ex:t[lo+k]?=aK (t[lo+k]'∅):=bA ∅;have R:=z _<|aQq ex;show kQ (nv (mX (I:=λi c u=>∃l r,c=%[n_|%[l|r]]/\u=mj st t/\l<=r/\r<=k/\(∀j y,j<l->t[lo+j]?=aK y->lt (t[lo+k]'∅) y=f_)/\(∀j y,r<=j->j<k->t[lo+j]?=aK y->lt (t[lo+k]'∅) y=t_)/\(r-l)+i<=k)
   (Q:=λc u=>∃l r,c=%[n_|%[l|r]]/\u=mj st t/\l=r/\r<=k/\(∀j y,j<l->t[lo+j]?=aK y->lt (t[lo+k]'∅) y=f_)/\(∀j y,r<=j->j<k->t[lo+j]?=aK y->lt (t[lo+k]'∅) y=t_))
   ?step1 ?fin1 (0,k,rfl,rfl,aH _,ab _,λj y hj=>absurd hj<|bR _,λj y H g2=>absurd g2 ∅,by rfl')) ?post1);case fin1=>rintro c u ⟨l,r,rfl,rfl,a1,B,J,L,a5⟩;show(l,r,rfl,rfl,by lia,B,J,L)
  case step1=>
   rintro i c u _ hi ⟨l,r,rfl,rfl,a1,B,J,L,a5⟩;dsimp only;by_cases X:l ≥ r;.rw[qz X];show lN (l,r,rfl,rfl,by rfl',B,J,L)
   rw[qE X];have em:t[lo+(l+r) / 2]?=aK (t[lo+(l+r) / 2]'∅):=bA ∅;have pm:=z _<|aQq em;show kQ<|C.at (st:=mj st t) ex em R pm hk ?_;cases e:lt (t[lo+k]'∅)<|t[lo+(l+r) / 2]'∅with
   |true=>dsimp only;rw[qz rfl];show lN (l,_,rfl,rfl,by lia,by lia,J,λj y H g2 O=>?_,by lia);have py:=z _<|aQq O;cases e':lt (t[lo+k]'∅) y with
    |true=>rfl
    |false=>have q1:=G (lo+(l+r) / 2) (lo+j) _ _ (by rfl') (by ac_nf) (by ac_nf) em O;have Y:=C.trans _ _ _ pm py R q1 e';rw[e]at Y;cases Y
   |false=>dsimp only;rw[qE ⋯];show lN (_,r,rfl,rfl,by lia,B,λj y H O=>?_,L,by lia);have py:=z _<|aQq O;show C.trans _ _ _ py pm R (G (lo+j) (lo+(l+r) / 2) _ _ (by rfl') ∅ ∅ O em) e
  case post1=>
   rintro c u ⟨l,r,rfl,rfl,rfl,B,J,L⟩;dsimp only;show kQ<|Ws<|lN ?_;have e:lo+k-(lo+l)=k-l:=by lia
   change ∃S,_/\mj st (abx t (lo+k)<|lo+k-(lo+l))=mj st S/\_;rw[e];show(_,rfl,rfl,b1.trans<|PP ∅ B M,Xo (C.od.ltx ix) z ∅ B U ex (λj y H g2=>f1.above (j:=j) (r:=k) ∅ (ab _) g2 ex<|J j y H g2)<|λj y H g2 g3=>?_,abE ∅ B f1,M);.unfold ltx;rw[L j y H g2 g3];rfl
end
section
variable {E:Ψ}
def Od.lower(C:Od P lt)(l:P x)(py:P y)(n:P z)(h:lt x y=t_)(h2:lt z y=f_):lt x z=t_:=by cases e:lt x z with
 |true=>rfl
 |false=>rw[C.trans y z x py n l h2 e]at h;cases h
def Pf.keep{lo}(h:Pf lt ix xs lo k)(b:Ew xs ys lo<|lo+k)(hz:lo+k<=xs.size)(u:∀p y,lo<=p->p<lo+k->ys[p]?=aK y->∃q,lo<=q/\q<lo+k/\xs[q]?=aK y):Pf lt ix ys lo k:=by
 intro j r x y z hr ex l n t;rw[b.out _<|ir<|by ac_nf]at l;by_cases c:j<k;.have(q,C,G,B):=u (lo+j) x (by rfl') (by ac_nf) ex;show h (q-lo) r x y ∅ hr (by rw[show lo+(q-lo)=q by rfl'];show B) l n t
 .rw[b.out _<|ir ∅]at ex;show h j r x y z hr ex l n t
def B8{lo}(h:Pf lt ix xs lo k)(h1:lo<=i)(h2:j<=lo+k)(hz:lo+k<=xs.size):Pf lt ix (nL xs i j<|(j-i) / 2) lo k:=by
 show h.keep (yA ∅ h1 h2) hz λp y l n e=>?_;rw[kZ ∅]at e;by_cases c:i<=p/\p<j;.rw[qz c]at e;show(_,by lia,by lia,e)
 .rw[qE c]at e;show(p,l,n,e)
def Pf.up{lo}(h:Pf lt ix xs lo k):Pf lt ix xs lo<|k+1:=λj r x y a b=>h j r x y a<|by rfl'
def Vb(C:Od P lt)(n:∀x,x∈xs->P x)lo:Fo lt xs lo<|lo+1:=by
 intro p q x y h1 h2 r ex l;have e:p=q:=by lia
 subst e;rw[ex]at l;cases l;show C.refl _<|n _<|aQq ex
def SN(C:Od P lt)(r:∀x,x∈xs->P x){lo}(h:Fo lt xs lo<|lo+(n+1))(t:∀x y,xs[lo+(n+1)]?=aK x->xs[lo+n]?=aK y->lt x y=f_)(hz:lo+(n+1)<xs.size):Fo lt xs lo<|lo+(n+2):=by
 intro p q x y h1 h2 z ex l;by_cases c:q<lo+(n+1);.show h p q x y h1 h2 c ex l
 .have eq:q=lo+(n+1):=by lia
  subst eq;by_cases u:p=lo+(n+1);.subst u;rw[ex]at l;cases l;show C.refl _<|r _<|aQq ex
  .have em:xs[lo+n]?=aK (xs[lo+n]'∅):=bA ∅;show C.trans _ _ _ (r _<|aQq ex) (r _<|aQq em) (r _<|aQq l) (h p (lo+n) _ _ h1 ∅ (by rfl') ex em)<|t _ _ l em
def JR(C:Eu prog w A s κ P lt){lo}{st}(L:∀x,x∈kP st->P x)(hk:kindOf st=κ)(ha:1<=a)(z:a<=l)(hz:lo+l<=(kP st).size)(R:Fo (ltx lt ix) (kP st) lo<|lo+a)(hf:Pf lt ix (kP st) lo a) :
  wpS (kG prog w) A E s (forIn [a:l] (%[n_|a]:Option (Option Nat)×Nat) λZ s=>crA lo s.2)
   (λc t=>∃n,c=%[n_|n]/\t=st/\a<=n/\n<=l/\Fo (ltx lt ix) (kP st) lo (lo+n)/\Pf lt ix (kP st) lo n/\(n=l∨∃x y,(kP st)[lo+n]?=aK x/\(kP st)[lo+n-1]?=aK y/\lt x y=t_)) st:=by
 show mX (I:=λi c t=>c=%[n_|i]/\t=st/\a<=i/\i<=l/\Fo (ltx lt ix) (kP st) lo (lo+i)/\Pf lt ix (kP st) lo i) ?step ?fin (rfl,rfl,ab _,z,R,hf);case step=>rintro i c t h1 h2 ⟨rfl,rfl,H,M,B,u⟩;obtain⟨k,rfl⟩:∃k,i=k+1:=(i-1,by lia);have ex:(kP t)[lo+(k+1)]?=aK ((kP t)[lo+(k+1)]'∅):=bA ∅;have J:(kP t)[lo+(k+1)-1]?=aK ((kP t)[lo+k]'∅):=bA ∅;show kQ<|C.at ex J (L _<|aQq ex) (L _<|aQq J) hk ?_;cases e:lt ((kP t)[lo+(k+1)]'∅)<|(kP t)[lo+k]'∅with
  |true=>show lN (_,rfl,rfl,H,M,B,u,ir (_,_,ex,J,e))
  |false=>show lN (rfl,rfl,by rfl',h2,SN (C.od.ltx ix) L B (λx y O Q=>?_) ∅,u.up);have G:(kP t)[lo+(k+1)-1]?=aK y:=Q;show u.above (j:=k) (r:=k+1) (by rfl') (ab _) Q O ?_;rw[ex]at O;rw[J]at G;cases O;cases G;show e
 case fin=>rintro c t ⟨rfl,rfl,H,M,B,u⟩;have e:max a l=l:=Nat.max_eq_right z;rw[e]at H M B u ⊢;show(l,rfl,rfl,H,ab _,B,u,jB rfl)
structure CS (lt:kH->kH->Bool)(ix:kH->Nat)(as:Array kH)(lo i q:Nat)(ys:Array kH):Prop where
 c:CR lt as lo i q ys
 d1:PX (ltx lt ix) ys lo<|lo+i-(q+1)
 cr:∀p r x y,lo<=p->p<lo+i-(q+1)->lo+i-(q+1)<=r->r<lo+i->ys[p]?=aK x->ys[r]?=aK y->lt y x=t_
 ob:∀r r' y y',lo+i-(q+1)<=r->r<=r'->r'<lo+i->ys[r]?=aK y->ys[r']?=aK y'->ix y<=ix y'
 pf:Pf lt ix ys lo i
def CS.rev(C:Od P lt){lo}(n:∀x,x∈ys->P x)(hz:lo+i<=ys.size)(g:CS lt ix as lo i q ys):PX (ltx lt ix) (nL ys (lo+i-(q+1)) (lo+i)<|(lo+i-(lo+i-(q+1))) / 2) lo<|lo+i:=by
 have G:=g.c.p;intro p r x y h1 h2 z ex l;rw[kZ<|by rfl']at ex l;by_cases u:lo+i-(q+1)<=p/\p<lo+i;.rw[qz u]at ex;rw[qz (by lia,z)]at l;show e8 uc (g.c.e _ _ _ _ ∅ ∅ ∅ ∅ ex l,ir<|g.ob _ _ y x ∅ ∅ ∅ l ex)
 .rw[qE u]at ex;have B:=n _<|aQq ex;by_cases cr:lo+i-(q+1)<=r/\r<lo+i;.rw[qz cr]at l;have py:=n _<|aQq l;have t:=g.cr p _ x y h1 ∅ ∅ ∅ ex l;show e8 uc (C.asym _ _ py B t,jB t)
  .rw[qE cr]at l;show g.d1 p r x y h1 h2 ∅ ex l
def CS.all(C:Od P lt){lo}(n:∀x,x∈ys->P x)(g:CS lt ix as lo i 0 ys):PX (ltx lt ix) ys lo<|lo+i:=by
 have G:=g.c.p;intro p r x y h1 h2 z ex l;have u:=n _<|aQq ex;have py:=n _<|aQq l;by_cases c:r<lo+i-(0+1);.show g.d1 p r x y h1 h2 c ex l
 .by_cases B:p=r;.subst B;rw[ex]at l;cases l;show(C.ltx ix).refl _ u
  .have t:=g.cr p r x y h1 ∅ (by rfl') z ex l;show e8 uc (C.asym _ _ py u t,jB t)
def NC{C:Eu prog w A s κ P lt}{lo}(r:P u)(py:P v)(l:∀x,x∈ys->P x)(g2:PX lt ys lo<|lo+(k+1))(ex:ys[lo+(k+1)]?=aK u)(t:ys[lo+(k+1)-1]?=aK v)(e:lt u v=t_):∀p x,lo<=p->p<lo+(k+1)->ys[p]?=aK x->lt u x=t_:=λp x y z n=>C.od.lower r py (l _<|aQq n) e<|g2 p (lo+(k+1)-1) _ _ y (by rfl') (by rfl') n t
def YQ(C:Eu prog w A s κ P lt){lo}{st}(hp:∀x,x∈kP st->P x)(hk:kindOf st=κ)(hz:lo+B<=(kP st).size)(hi:k+1<B)(z:CS lt ix (kP st) lo (k+1) l ys) :
  wpS (kG prog w) A E s (crB lo (k+1) l) (λr LJ=>∃m q zs,LJ=mj st zs/\m<=B/\CS lt ix (kP st) lo m q zs/\(r = .done %[n_|%[m|q]]∨r = m6 %[n_|%[m|q]]/\m=k+1+1))<|mj st ys:=by have g:=z.c;have X:=g.b;have g2:=g.d;have R:=g.e;have g4:=g.p;have n:=X.mem hp;have hsz:=X.size;have ex:ys[lo+(k+1)]?=aK (ys[lo+(k+1)]'∅):=bA ∅;have G:ys[lo+(k+1)-1]?=aK (ys[lo+k]'∅):=bA ∅;have H:=n _<|aQq ex;have py:=n _<|aQq G;have Y:lt (ys[lo+k]'∅) (ys[lo+(k+1)]'∅)=f_->PX lt ys lo (lo+(k+1+1)):=λe=>Mi C n g2 (λx y hx hy=>by have hy':ys[lo+(k+1)-1]?=aK y:=hy;rw[ex]at hx;rw[G]at hy';cases hx;cases hy';show e) ∅;show kQ<|C.at (st:=mj st ys) ex G H py hk ?_;cases e:lt (ys[lo+(k+1)]'∅)<|ys[lo+k]'∅with
 |true=>
  have g2':=Y<|C.asym _ _ H py e;dsimp only;rw[qz rfl];by_cases cn:l>0
  .rw[qz cn];show kQ<|Gm<|lN ?_;have bt:Ew (kP st) (nL ys (lo+(k+1)-(l+1)) (lo+(k+1))<|(lo+(k+1)-(lo+(k+1)-(l+1))) / 2) lo<|lo+(k+1):=X.trans<|yA ∅ ∅<|ab _;have L:=NC (C:=C) H py n g2 ex G e;have M:∀p,p<lo∨lo+(k+1)<=p->(nL ys (lo+(k+1)-(l+1)) (lo+(k+1))<|(lo+(k+1)-(lo+(k+1)-(l+1))) / 2)[p]?=ys[p]?:=λp hp=>by rw[kZ ∅,qE ∅]
   show(_,0,_,rfl,hi,((bt.mono ∅,GB ∅ ∅ ∅ R g2',Gi C (bt.mem hp) ∅,by lia),?_,?_,?_,(B8 z.pf ∅ (by rfl') ∅).up),ir (rfl,rfl));.have d:=z.rev C.od n ∅;rw[show lo+(k+1+1)-(0+1)=lo+(k+1) by lia];show d
   .intro p r x y S p2 r1 U I u;rw[M r ∅,show r=lo+(k+1) by lia,ex]at u;cases u;rw[kZ ∅]at I;by_cases c:lo+(k+1)-(l+1)<=p/\p<lo+(k+1);.rw[qz c]at I;show L _ x ∅ ∅ I
    .rw[qE c]at I;show L p x S ∅ I
   .intro r O y y' r1 U r3 u J;rw[show O=r by lia,u]at J;cases J;show ab _
  .rw[qE cn];have L:=NC (C:=C) H py n g2 ex G e;have n0:l=0:=by lia
   subst n0;show lN (_,0,ys,rfl,hi,((X.mono ∅,g2',Gi C n ∅,by lia),?_,?_,?_,z.pf.up),ir (rfl,rfl));.have d:=z.all C.od n;rw[show lo+(k+1+1)-(0+1)=lo+(k+1) by lia];show d
   .intro p r x y S p2 r1 U I u;rw[show r=lo+(k+1) by lia,ex]at u;cases u;show L p x S ∅ I
   .intro r O y y' r1 U r3 u J;rw[show O=r by lia,u]at J;cases J;show ab _
 |false=>dsimp only;rw[qE ⋯];show kQ<|C.at (st:=mj st ys) G ex py H hk ?_;cases e':lt (ys[lo+k]'∅)<|ys[lo+(k+1)]'∅with
  |true=>show lN (_,l,ys,rfl,bQ hi,z,jB rfl)
  |false=>
   show lN (_,l+1,ys,rfl,hi,((X.mono ∅,Y e',?_,by rfl'),?_,?_,?_,z.pf.up),ir (rfl,rfl));rotate_left;.rw[show lo+(k+1+1)-(l+1+1)=lo+(k+1)-(l+1) by ac_nf];show z.d1
   .intro p r x y S p2 r1 U I u;by_cases c:r=lo+(k+1);.rw[c,ex]at u;cases u;have t:=z.cr p (lo+(k+1)-1) x _ S ∅ (by ac_nf) ∅ I G;have pz:=n _<|aQq I;cases q:lt (ys[lo+(k+1)]'∅) x with
     |true=>rfl
     |false=>have:=C.trans _ _ _ pz H py q e';rw[t]at this;cases this
    .show z.cr p r x y S ∅ ∅ ∅ I u
   .intro r O y y' r1 U r3 u J;by_cases c:O=lo+(k+1)
    .by_cases c2:r=O;.subst c2;rw[u]at J;cases J;show ab _
     .have pz:=n _<|aQq u;rw[c,ex]at J;cases J;have z1:=R r (lo+(k+1)-1) _ _ ∅ ∅ ∅ ∅ u G;have z2:=R (lo+(k+1)-1) r _ _ ∅ ∅ ∅ ∅ G u;show z.pf (r-lo) (k+1) y _ ∅ (ab _) (by rw[show lo+(r-lo)=r by lia];show u) ex (C.trans _ _ _ H py pz e' z1)<|C.trans _ _ _ pz py H z2 e
    .show z.ob r O y y' ∅ U ∅ u J
   intro p q x y h1 h2 h3 h4 M Q;have qx:=n _<|aQq M;have qy:=n _<|aQq Q;by_cases cp:p=lo+(k+1)
   .subst cp;rw[ex]at M;cases M;by_cases cq:q=lo+(k+1);.subst cq;rw[ex]at Q;cases Q;show C.refl H
    .show C.trans _ _ _ qy py H (R (lo+(k+1)-1) q _ _ (by ac_nf) ∅ ∅ ∅ G Q) e
   .by_cases cq:q=lo+(k+1);.subst cq;rw[ex]at Q;cases Q;show C.trans _ _ _ H py qx e'<|R p (lo+(k+1)-1) _ _ ∅ ∅ (by ac_nf) ∅ M G
    .show R p q x y ∅ ∅ ∅ ∅ M Q
abbrev Wu(lt:kH->kH->Bool)(ix:kH->Nat)(st:SortSt)(lo l:Nat)(Q:Option Nat->SortSt->Prop):=∀n xs,1<=n->n<=l->Ew (kP st) xs lo (lo+n)->Fo (ltx lt ix) xs lo (lo+n)->Pf lt ix xs lo n->Q (aK n) (mj st xs)
def RY(C:Eu prog w A s κ P lt){lo}{st}(u:∀x,x∈kP st->P x)(hk:kindOf st=κ)(hz:lo+l<=(kP st).size)(h:Wu lt ix st lo l Q)
  (h1:1<=m) (h2:m<=l) (b:Ew (kP st) ys lo<|lo+m) (d:PX (ltx lt ix) ys lo<|lo+m) (f:Pf lt ix ys lo m):wpS (kG prog w) A E s (crZ lo l m) Q<|mj st ys:=by show kQ<|Gm ?_;have y:=b.size;have f1:=Pp ∅ d;have f2:=b.trans<|yA (i:=lo) (j:=lo+m) ∅ (ab _)<|ab _;have z:=B8 (i:=lo) (j:=lo+m) f (ab _) (ab _) ∅;show kQ<|nv (JR (st:=mj st _) C (f2.mem u) hk h1 h2 (bH hz<|dX<|fQ f2.size) f1 z) ?_;rintro c LJ ⟨B,rfl,rfl,G,n,r,t,_⟩;show lN<|h B _ ∅ n (f2.mono<|by ac_nf) r t
def QR(C:Eu prog w A s κ P lt){lo}{st}(z:∀x,x∈kP st->P x)(hk:kindOf st=κ)(hz:lo+l<=(kP st).size)(h:Wu lt ix st lo l Q)
  (hn:n<l) (b:Ew (kP st) xs lo<|lo+n) (d:PX lt xs lo<|lo+(n+1)) (O:PX (ltx lt ix) xs lo<|lo+n) (G:∀p x y,lo<=p->p<lo+n->xs[p]?=aK x->xs[lo+n]?=aK y->lt y x=t_) (f:Pf lt ix xs lo n):wpS (kG prog w) A E s (crD lo l n) Q<|mj st xs:=by
 show kQ (Nn (kQ (nv (mX
  (I:=λi c LJ=>∃q t,c=%[n_|%[i|q]]/\LJ=mj st t/\i<=l/\CS lt ix (kP st) lo i q t)
  (Q:=λc LJ=>∃m q t,c=%[n_|%[m|q]]/\LJ=mj st t/\m<=l/\CS lt ix (kP st) lo m q t)
  ?_ ?_ (0,xs,rfl,rfl,hn,(b.mono<|by rfl',d,Gi C (b.mem z)<|by rfl',by rfl'),by rw[show lo+(n+1)-(0+1)=lo+n by rfl'];show O,λp r x y R p2 S U X H=>G p x y R (by rfl') X<|by rw[show lo+n=r by lia];show H,λr Y y y' S U r3 H J=>by rw[show Y=r by lia,H]at J;cases J;show ab _,f.up)) ?_)))
 .rintro i c LJ _ hi ⟨q,t,rfl,rfl,_,g⟩;obtain⟨k,rfl⟩:∃k,i=k+1:=(i-1,by have:=g.c.p;lia);show nv (YQ C z hk hz hi g) λr LJ hr=>?_;obtain⟨m,q,L,rfl,u,M,rfl|⟨rfl,rfl⟩⟩:=hr;.show(m,q,L,rfl,rfl,u,M)
  .show(q,L,rfl,rfl,u,M)
 .rintro c LJ ⟨q,t,rfl,rfl,u,g⟩;show(_,q,t,rfl,rfl,u,g)
 .rintro c LJ ⟨m,q,t,rfl,rfl,u,g⟩;have hsz:=g.c.b.size;have gp:=g.c.p;have B:=g.c.b.mem z;dsimp only;by_cases cn:q>0;.rw[qz cn];show kQ<|Gm<|RY (st:=st) (ys:=nL t (lo+m-(q+1)) (lo+m)<|(lo+m-(lo+m-(q+1))) / 2) C z hk hz h ∅ u (g.c.b.trans<|yA ∅ ∅<|ab _) (g.rev C.od B ∅)<|B8 g.pf ∅ (by rfl') ∅
  .rw[qE cn];have q0:q=0:=by lia
   subst q0;show RY C z hk hz h (by rfl') u g.c.b (g.all C.od B) g.pf
def IH(C:Eu prog w A s κ P lt){lo}{st}(B:∀x,x∈kP st->P x)(hk:kindOf st=κ)(h1:1<=u)(hz:lo+u<=(kP st).size)(hf:Pf lt ix (kP st) lo 0)
  (h:Wu lt ix st lo u Q):wpS (kG prog w) A E s (countRun' lo u) Q st:=by
 rw[adX];show kQ<|nv (JR C B hk (ab 1) h1 hz (Vb (C.od.ltx ix) B lo) hf.up) ?_;rintro c l ⟨n,rfl,rfl,n1,n2,R,M,Y⟩;have S:=OB R;dsimp only;have L:Q (aK n) l:=h n (kP l) n1 n2 (Ew.refl _ _ _) R M;by_cases c1:n=u;.rw[qz<|by simp[c1]];show lN L
 rw[qE<|by simpa using c1];have(xb,yb,I,G,eb):=sr Y c1;obtain⟨m,rfl⟩:∃m,n=m+1:=(n-1,by ac_nf);have U:=B _<|aQq I;have J:=B _<|aQq G;have go:Eqv lt (kP l) lo (lo+(m+1))->PX lt (kP l) lo (lo+(m+1+1)):=λt=>Mi C B (λp q x y g1 g2 g3 ex ey=>t p q x y g1 ∅ ∅ g3 ex ey) (λx y hx hy=>by have X:(kP l)[lo+(m+1)-1]?=aK y:=hy;rw[I]at hx;rw[G]at X;cases hx;cases X;show C.asym _ _ U J eb) ∅;by_cases c2:m+1>1;.rw[qz c2];have ex:(kP l)[lo]?=aK ((kP l)[lo]'∅):=bA ∅;have O:=B _<|aQq ex;show kQ<|C.at ex G O J hk ?_;cases e:lt ((kP l)[lo]'∅) yb with
  |true=>show lN L
  |false=>
   dsimp only;rw[qE ⋯];have H:Eqv lt (kP l) lo<|lo+(m+1):=by intro p q x y g1 g2 g3 g4 gx gy;have px:=B _<|aQq gx;have py:=B _<|aQq gy;have q1:=S q (lo+(m+1)-1) _ _ g3 (by lia) ∅ gy G;have q2:=S lo p _ _ (ab _) g1 g2 ex gx;show C.trans _ _ _ py O px (C.trans _ _ _ py J O q1 e) q2
   have gz:(nL (kP l) lo (lo+(m+1))<|(lo+(m+1)-lo) / 2)[lo+(m+1)]?=aK xb:=by rw[kZ ∅,qE<|by ac_nf];show I
   show kQ<|Gm<|QR C B hk hz h ∅ (yA ∅ (ab _)<|ab _) (GB ∅ (ab _) (by lia) H<|go H) ?_ ?_<|B8 M (ab _) (ab _) ∅
   .intro p r x y h1 h2 h3 t z;rw[kZ ∅,qz (h1,by lia)]at t;rw[kZ ∅,qz (by lia,h3)]at z;have z1:=H _ _ _ _ ∅ ∅ ∅ ∅ t z;have z2:=H _ _ _ _ ∅ ∅ ∅ ∅ z t;by_cases c:p=r;.subst c;rw[t]at z;cases z;show(C.od.ltx ix).refl _<|B _<|aQq t
    .show hf.above (j:=lo+(lo+(m+1))-1-r-lo) (r:=lo+(lo+(m+1))-1-p-lo) ∅ (aH _) ?_ ?_ z1;.rw[show lo+(lo+(lo+(m+1))-1-r-lo)=lo+(lo+(m+1))-1-r by lia];show z
     .rw[show lo+(lo+(lo+(m+1))-1-p-lo)=lo+(lo+(m+1))-1-p by lia];show t
   .intro p x y p1 p2 t z;rw[gz]at z;cases z;rw[kZ ∅,qz (p1,p2)]at t;show C.od.lower U J (B _<|aQq t) eb<|H _ (lo+(m+1)-1) _ _ (by omega) (by omega) (by lia) ∅ t G
 .rw[qE c2];have m0:m=0:=by lia
  subst m0;show QR C B hk hz h ∅ (Ew.refl _ _ _) (go<|Gi C B<|by lia) (λp r x y h1 h2 h3 t z=>?_) (λp x y p1 p2 t z=>?_) M
  .have:p=r:=by lia
   subst this;rw[t]at z;cases z;show(C.od.ltx ix).refl _<|B _<|aQq t
  .rw[I]at z;cases z;rw[show p=lo+(0+1)-1 by lia,G]at t;cases t;show eb
end
section
variable {E:Ψ}
noncomputable abbrev RG(κ:lK)(xs:Array kH)(p:Array<|Nat×Nat×Nat)(g:Nat):SortSt:=aBm κ xs p g n_
def JN(C:Eu prog w A s κ P lt)(O:∀x,x∈arr->P x)(h2:2<=arr.size)(G:arr.size<64)(R:∀(j r:Nat) x y,j<r->arr[j]?=aK x->arr[r]?=aK y->lt x y=f_->lt y x=f_->ix x<=ix y)
  (h:∀xs p g',jS xs arr->Fo (ltx lt ix) xs 0 arr.size->Q () (RG κ xs p g')):wpS (kG prog w) A E s sortRuns' Q<|RG κ arr #[] g:=by
 rw[sortRuns'_eq];show kQ<|aax ?_;dsimp only;have H:minRun' arr.size arr.size 0=arr.size:=by
  obtain⟨f,hf⟩:∃f,arr.size=f+1:=(arr.size-1,by lia);have:minRun' (f+1) arr.size 0=arr.size:=by rw[minRun'_succ,qz G];rfl
  rwa [←hf]at this
 have Y:kP (RG κ arr #[] g)=arr:=rfl;simp?[Y,H];have hf:Pf lt ix arr 0 0:=λj r x y hj Z ex S=>R j r x y hj (by rw[aU]at ex;show ex)<|by rw[aU]at S;show S
 show kQ (nv (mX
  (I:=λx c t=>(x=0/\c=%[n_|0]/\t=RG κ arr #[] g)∨(1<=x/\c=%[n_|arr.size]/\∃xs,t=RG κ xs #[%[0|%[arr.size|0]]] g/\jS xs arr/\Fo (ltx lt ix) xs 0 arr.size))
  (Q:=λc t=>c=%[n_|arr.size]/\∃xs,t=RG κ xs #[%[0|%[arr.size|0]]] g/\jS xs arr/\Fo (ltx lt ix) xs 0 arr.size) ?step ?fin<|jB (rfl,rfl,rfl)) ?post);case fin=>
  rintro c t (⟨R,_,_⟩|⟨_,hc,J⟩);.lia
  .show(hc,J)
 case step=>
  rintro x c t _ L (⟨rfl,rfl,rfl⟩|⟨L,rfl,J⟩)
  .dsimp only;rw[qE ∅];simp?[gU,jn];show kQ<|IH (st:=RG κ arr #[] g) C O rfl (by rfl') (by change 0+arr.size<=arr.size;ac_nf) hf λn u n1 n2 b1 M p1=>?_;dsimp only;have B:Ew arr u 0<|0+n:=b1;change wpS _ _ _ _ _ _ (RG κ u #[] g);by_cases z:n<arr.size
   .rw[qz z];show kQ<|Nn ?_;show kQ<|Me (st:=RG κ u #[] g) C (B.mem O) rfl n1 n2 (by change 0+arr.size<=u.size;have:=B.size;ac_nf) M p1 λU b2 X Z=>?_;rw[qE ⋯];show kQ<|aax ?_;change wpS _ _ _ _ _ _ (RG κ U #[] g);show kQ<|adj<|lN<|ir (by lia,by rw[aU],U,?_,b2.pm.trans B.pm,?_);.rfl
    .rw[aU]at X;show X
   .rw[qE z];have hm:n=arr.size:=by rfl'
    subst hm;show kQ<|aax ?_;show kQ<|adj<|lN<|ir (by lia,by rw[aU],u,?_,B.pm,?_);.rfl
    .rw[aU]at M;show M
  .dsimp only;rw[qz<|ab _];show lN (rfl,J)
 case post=>
  rintro c t ⟨rfl,xs,rfl,q1,q2⟩;dsimp only;show kQ<|nv (mX (I:=λZ c l=>l=RG κ xs #[%[0|%[arr.size|0]]] g/\c=%[n_|()]) (Q:=λc l=>l=RG κ xs #[%[0|%[arr.size|0]]] g/\c=%[n_|()]) ?_ (λZ Z hh=>hh) (rfl,rfl)) ?_;.rintro x c l _ _ ⟨rfl,rfl⟩;show kQ<|aax ?_;rw[qz<|by change(1:Nat)<=1;show ab 1];show lN (rfl,rfl)
  .rintro c l ⟨rfl,rfl⟩;show lN<|h xs _ _ q1 q2
end
section
variable {E:Ψ}
def Ye(C:Eu prog w A s κ P lt)(n:∀x,x∈arr->P x)(h2:2<=arr.size)(l:arr.size<64)
  (h:∀xs p g',jS xs arr->Fo lt xs 0 arr.size->Q () (abF κ xs p g')):wpS (kG prog w) A E s sortRuns' Q<|abF κ arr #[] g:=JN (ix:=λZ=>0) C n h2 l (λZ Z Z Z Z Z Z Z Z=>ab 0) λxs p g' r t=>h xs p g' r<|OB t
end
section
variable {E:Ψ}{s:Shared}
def DM(z:c7 (b7 s) a=aK (kL "list" (b9 vs) n))(Y:aX vs<64)
  (G:2<=aX vs->∀Q:lK->Shared->Prop,Q κ { s with heap:=xx s.heap a vs }->kE (kG prog w) A (ny<|b9 vs) Q E { s with heap:=xx s.heap a vs })
  (C:Eu prog w A { s with heap:=xx s.heap a vs } κ Pk lt) (J:∀x,x∈mI vs->Pk x)
  (h:∀xs:Array kH,jS xs (mI vs)->Fo lt xs 0 (mI vs).size->P (.done<|pG gX) { s with heap:=nY s.heap a vs (xs.map (·.2)) }) :
  kE (kG prog w) A (Builtin.«list.sort» ([ao a],[])) P E s:=by
 rw[list_sort_plain];have ha:a<s⁻¹:=ae z;show kC<|ad9 z rfl ?_;show kC<|lW z rfl ?_ (hsz:=by rw[aq,lh];omega);obtain⟨H,r⟩:∃H,c7 (fi (b7 s) a<|cS λZ=>#[]) a=aK (kL "list" #[] H):=(_,lO z<|λZ=>#[]);show kC<|nQ r rfl ?_;show kC<|oN ?_;show kC<|mK ?_;show kX ?_;have l:c7 (xx s.heap a vs) a=aK (kL "list" #[] H):=by rw[ee _ _ _<|by rw[mR,cg];show ar<|bS ha,ee _ _ _<|by rw[cg];show ar ha];show r
 change kE (kG prog w) A _ P E { s with heap:=xx s.heap a vs };dsimp only;have M:vs.toArray.size=aX vs:=by rfl
 have O:kK=16777216:=lh;by_cases h2:vs.toArray.size<2
 .rw[qz h2,qz h2];show kC<|kF ?_;rw[aAx];show kC<|kF ?_;dsimp only;show kC<|nQ l rfl ?_;show kC<|lW l rfl ?_ (hsz2:=by rw[iW];change(mI vs).size<=_;rw[mY,lh];lia);simp?[bne_self_eq_false,bT,if_false];show kF<|h _ (jS.refl _) ?_;intro i j x y _ R S ex L;have:i=j:=by rw[mY]at S;lia
  subst this;rw[ex]at L;cases L;show C.refl<|J x<|aQq ex
 .rw[qE h2,qE h2];show kC<|G ∅ _ ?_;show kC (lj (Ye C (arr:=mI vs) (g:=7) (E:=E)
   (Q:=λZ t=>∃xs p B,t=abF κ xs p B/\jS xs (mI vs)/\Fo lt xs 0 (mI vs).size) J (by rw[mY];lia) (by rw[mY];rfl') λxs p B U X=>(xs,p,B,rfl,U,X)) ?_ λZ Z e=>e);rintro⟨⟨⟩,t⟩ s' ⟨rfl,xs,p,B,rfl,u,I⟩;dsimp only;show kC<|nQ l rfl ?_;show kC<|lW l rfl ?_ (hsz2:=by show bH (dX<|eI (iW ..)<|eI u.size_eq<|mY _) ?_;lia);simp?[bne_self_eq_false,bT,if_false];show kF<|h xs u I
def EG{vs:Ξ}{Q:Ψ}(hl:pj (b7 s) l<|b9 vs)(H:aX vs<64)
  (hC:∀t:Shared,(∀b o,c7 (b7 s) b=aK o->c7 (b7 t) b=aK o)->(2<=aX vs->∀Q:lK->Shared->Prop,Q κ t->kE (kG prog w) A.in1.in1 (ny<|b9 vs) Q E t)/\Eu prog w A.in1.in1 t κ Pk lt)
  (I:∀v∈vs,Pk %[v|v])
  (h:∀(out:Ξ) z J,dg out vs->out.Pairwise (λx y=>lt %[y|y] %[x|x]=f_)->(∀b o,c7 (b7 s) b=aK o->c7 z b=aK o) ->
   c7 z (s⁻¹+1)=aK (kL "list" (b9 out) J)->Q (ao<|s⁻¹+1) { s with heap:=z }) :
  kE (kG prog w) A (call (kj "sorted") [ao l]) Q E s:=by
 show EW aeX adV aeF (args_sorted1 _) ?_;unfold Builtin.«sorted»;show kC (m:=checkCount "sorted" 1 1 _)<|kF ?_;show kC<|collect_list hl ?_<|by rw[lh];lia
 show kC<|mK ?_<|by rw[lh];lia
 have r:(fi (ig (b7 s)<|kL "list" #[] 0) s⁻¹ (cS (· ++ b9 vs))).objs.size=s⁻¹+1:=by rw[cg,mR]
 have n:c7 (ig (fi (ig (b7 s)<|kL "list" #[] 0) s⁻¹ (cS (· ++ b9 vs)))<|kL "list" (b9 vs) 0) (s⁻¹+1)=aK (kL "list" (b9 vs) 0):=by rw[←r];show aA _ rfl
 change kE _ _ _ _ _ { s with heap:=ig (fi (ig (b7 s)<|kL "list" #[] 0) s⁻¹ (cS (· ++ b9 vs))) (kL "list" (b9 vs) 0) };rw[r];generalize L:ig (fi (ig (b7 s)<|kL "list" #[] 0) s⁻¹ (cS (· ++ b9 vs))) (kL "list" (b9 vs) 0)=G at n ⊢;have M:∀b o,c7 (b7 s) b=aK o->c7 G b=aK o:=λb o e=>by rw[←L];show aa _ ?_;rw[cA _ _ _ _<|ar<|ae e];show aa _ e
 have C:∀b o,c7 (b7 s) b=aK o->c7 (xx G (s⁻¹+1) vs) b=aK o:=λb o e=>by show aa _<|aa _ ?_;rw[cA _ _ _ _<|ar<|bS<|ae e];show M b o e
 have(O,P):=hC { s with heap:=xx G (s⁻¹+1) vs } C;show kC<|kX<|mP aad (_,n,rfl) ou (DM (Pk:=Pk) (lt:=lt) n H O P (λx R=>?_) λu S U=>(_,rfl,?_))<|args_list_sort _;.have(m1,m2):=zw R;have:x=%[x.1|x.1]:=iO rfl m2;rw[this];show I _ m1
 .have(X,Y):=Fp S U;have(e1,B):=QD vs n;have(n1,g1):=Q2 (u.map (·.2)) B;show kF (_,rfl,h _ (nY G (s⁻¹+1) vs (u.map (·.2))) n1 X Y (λb o e=>?_) ?_);.unfold nY;rw[cA _ _ _ _<|ar<|bS<|ae e];show C b o e
  .rw[show(b9 (u.map (·.2)).toList)=u.map (·.2)from iX];show g1
def HK{vs:Ξ}{Q:Ψ}(hl:pj (b7 s) l<|b9 vs)(t:aX vs<64)
  (hC:∀n:Shared,(∀b o,c7 (b7 s) b=aK o->c7 (b7 n) b=aK o)->(2<=aX vs->∀Q:lK->Shared->Prop,Q nN n->kE (kG prog w) A.in1.in1 (ny<|b9 vs) Q E n)/\Eu prog w A.in1.in1 n nN Pk lt)
  (u:∀v∈vs,Pk %[v|v])
  (h:∀(out:Ξ) r z,dg out vs->out.Pairwise (λx y=>lt %[y|y] %[x|x]=f_)->(∀b o,c7 (b7 s) b=aK o->c7 r b=aK o) ->
   c7 r (s⁻¹+1)=aK (kL "list" (b9 out) z)->Q (ao<|s⁻¹+1) { s with heap:=r }) :
  kE (kG prog w) A (call (kj "sorted") [ao l]) Q E s:=EG hl t hC u h
end
end MrS
namespace Mr
open PySem PySem.Spec PyProof.Rows L2
section
open HT
theorem B5:∀xs ys:Ϝ,rM xs ys=t_->rM ys xs=f_
 | [],[],_=>rfl
 | [],_::_,_=>rfl
 |_::_,[],h=>by cases h
 |x::xs,y::ys,h=>by
  simp?[xn]at h ⊢;by_cases e:x=y;.rw[qz e]at h;rw[qz<|fQ e];show B5 xs ys h
  .rw[qE e]at h;rw[qE<|h7 e];have l:=of_decide_eq_true h;show d8 ∅
theorem Am:∀xs ys l:Ϝ,rM ys xs=f_->rM l ys=f_->rM l xs=f_
 | [],[],[],_,_=>rfl
 | [],[],_::_,_,h=>by show h
 | [],_::_,[],_,h=>by cases h
 | [],_::_,_::_,_,_=>rfl
 |_::_,[],_,h,_=>by cases h
 |_::_,_::_,[],_,h=>by cases h
 |x::xs,y::ys,z::l,h1,h2=>by
  simp?[xn]at h1 h2 ⊢;by_cases r:y=x
  .rw[qz r]at h1;subst r;by_cases n:z=y;.rw[qz n]at h2 ⊢;show Am xs ys l h1 h2
   .rw[qE n]at h2 ⊢;show h2
  .rw[qE r]at h1;have s:=of_decide_eq_false h1;by_cases n:z=y;.rw[qE<|by ac_nf];show d8<|by ac_nf
   .rw[qE n]at h2;have t:=of_decide_eq_false h2;rw[qE ∅];show d8<|by omega
theorem DS:∀xs ys:Ϝ,rM xs ys=f_->rM ys xs=f_->xs=ys
 | [],[],_,_=>rfl
 | [],_::_,h,_=>by cases h
 |_::_,[],_,h=>by cases h
 |x::xs,y::ys,h1,h2=>by
  simp?[xn]at h1 h2;by_cases e:x=y;.rw[qz e]at h1;rw[qz<|fQ e]at h2;rw[e,DS xs ys h1 h2]
  .rw[qE e]at h1;rw[qE<|h7 e]at h2;have l:=of_decide_eq_false h1;have n:=of_decide_eq_false h2;lia
def Z8(x y:Ϝ):Bool:=!IR y x
def Sv x y z(h1:Z8 x y=t_)(h2:Z8 y z=t_):Z8 x z=t_:=by unfold Z8 at *;simp?[gg]at *;show Am x y z h1 h2
def To x y:(Z8 x y || Z8 y x)=t_:=by unfold Z8;cases h:IR y x with
 |false=>rfl
 |true=>rw[B5 y x h];rfl
def Fe(rs:Λ):Λ:=rs.mergeSort Z8
def D8 rs:dg (Fe rs) rs:=gY _ _
def yD rs:(Fe rs).Pairwise<|λx y=>IR y x=f_:=by show(gd Sv To rs).imp λ{a b} h=>?_;unfold Z8 at h;simpa using h
def IC:∀{xs ys:Λ},dg xs ys->xs.Pairwise (λx y=>IR y x=f_)->ys.Pairwise (λx y=>IR y x=f_)->xs=ys
 |xs,ys,l,h1,h2=>dg.eq_of_pairwise (λa b Q Q n r=>fQ<|DS b a n r) h1 h2 l
def EU(l:dg xs rs)(h:xs.Pairwise<|λx y=>IR y x=f_):xs=Fe rs:=IC (kT l<|T1<|D8 rs) h<|yD rs
noncomputable def qY(ns:Ϝ):Ϝ:=ns.mergeSort<|λx y=>decide<|x<=y
def rW ns:dg (qY ns) ns:=gY _ _
def zM ns:(qY ns).Pairwise (·<=·):=by
 show(gd (λa b c h1 h2=>?_) (λa b=>?_) ns).imp λ{a b} h=>by simpa using h
 .simp?[decide_eq_true_eq]at *;rfl'
 .simp?[jO,decide_eq_true_eq];lia
def Kr(l:dg xs ns)(h:xs.Pairwise (·<=·)):xs=qY ns:=dg.eq_of_pairwise (λa b Q Q n r=>Int.le_antisymm n r) h (zM ns)<|kT l<|T1<|rW ns
end
def uh(H:Hp)(ps:Δ)(rs:Λ):Prop:=ps.map H=rs.map (λr=>aK<|et<|r.map c8)
def uh.nil:uh H [] []:=rfl
def uh.length(h:uh H ps rs):aX ps=aX rs:=by have:=congrArg aX h;simpa using this
def uh.cons_iff{ps:Δ}{rs:Λ}{r:Ϝ}:uh H (p::ps) (r::rs)↔H p=aK (et<|r.map c8)/\uh H ps rs:=by unfold uh;rw[ax,ax,jv.injEq]
def uh.get(h:uh H ps rs){i:Nat}(e:ps[i]?=aK p):∃r,rs[i]?=aK r/\H p=aK (et<|r.map c8):=by have:=congrArg (λl=>l[i]?) h;simp?[gMq,e,bJ]at this;cases n:rs[i]? with
 |none=>rw[n]at this;cases this
 |some r=>rw[n]at this;show(r,rfl,aK.inj this)
def uh.mem(h:uh H ps rs)(l:p∈ps):∃r,r∈rs/\H p=aK (et<|r.map c8):=by have(i,n):=List.getElem?_of_mem l;have(r,s,e):=h.get n;show(r,mGq s,e)
def uh.keep(h:uh H ps rs)(k:∀p∈ps,l p=H p):uh l ps rs:=by unfold uh at *;rw[←h];show mCq k
def uh.same(h:uh H ps rs)(s:qk H l):uh l ps rs:=h.keep λp n=>by have(r,_,e):=h.mem n;rw[s _ _ e,e]
noncomputable def toI:V->Int
 | c8 i=>i
 |_=>0
def Bk(H:Hp)(p:Addr):Ϝ:=match H p with
 |aK (et xs)=>xs.map toI
 |_=>[]
def L0(h:H p=aK (et<|r.map c8)):Bk H p=r:=by unfold Bk;rw[h];simp?[mPq];show List.map_id'' (λQ=>rfl) r
def uh.fn(h:uh H ps rs):rs=ps.map (Bk H):=by induction rs generalizing ps with
 |nil=>have:=h.length;have:=aD.mp this;rw[this];rfl
 |cons r rs l=>cases ps with
  |nil=>have:=h.length;simp at this
  |cons p ps=>have(h1,h2):=uh.cons_iff.mp h;rw[ax,←l h2,L0 h1]
def uh.fn_row(h:uh H ps rs)(l:p∈ps):H p=aK (et<|(Bk H p).map c8):=by have(r,_,e):=h.mem l;rw[L0 e];show e
def uh.of_fn(h:∀p∈ps,H p=aK (et<|(Bk H p).map c8)):uh H ps<|ps.map<|Bk H:=by unfold uh;rw[mPq];show mCq h
def uh.perm(h:uh H ps rs)(r:dg l ps):∃n,uh H l n/\dg n rs/\n=l.map (Bk H):=(_,uh.of_fn λp m=>h.fn_row<|r.mem_iff.mp m,by rw[h.fn];show r.map _,rfl)
def uh.free{H:Hp}(h:uh l ps rs)(n:l q=n_):q∉ps:=λm=>by have(r,_,e):=h.mem m;rw[n]at e;cases e
theorem uC:∀{ps:Δ}{vs},qr (ps.map cx) vs->vs=ps.map ao
 | [],vs,r=>by cases r;rfl
 |p::ps,vs,r=>by cases r with
  |cons h1 h2=>have e:=h1;rw[e,uC h2];rfl
theorem xa:∀(ps:Δ),qr (ps.map cx)<|ps.map ao
 | []=>j8
 |p::ps=>hL rfl<|xa ps
noncomputable def rD:Value->Addr
 | ao p=>p
 |_=>0
noncomputable def intOf:Value->Int
 | iT i _=>i
 |_=>0
def Le{vs:Ξ}{ns:Ϝ}(h:lI vs ns):ns=vs.map intOf/\∀v∈vs,∃a t,v = iT a t:=by induction h with
 |nil=>show(rfl,λv l=>by cases l)
 |cons a t _ n=>
  show(by rw[ax,←n.1];rfl,λv l=>?_);obtain rfl|l:=ag.mp l;.show(a,t,rfl)
  .show n.2 v l
theorem vals_ints:∀{vs},(∀v∈vs,∃a t,v = iT a t)->qr ((vs.map intOf).map c8) vs
 | [],_=>j8
 |v::vs,h=>by have(a,t,rfl):=h _<|ai ..;show hL (t,rfl)<|vals_ints λv l=>h v<|mCo _ l
def Y4{E:Ψ}{vs:Ξ}(h2:2<=aX vs)(r:∀v∈vs,W.Looks M s.heap (typeOf v) (iD T))(l:(iD T != iD "tuple")=t_)(n:(iD T == iD T)=t_)(h:Q nN s) :
  kE M A (ny<|b9 vs) Q E s:=W.kas_kind h2 r l n h
noncomputable def ltI(x y:kH):Bool:=match x.1,y.1 with
 | iT a _,iT b _=>decide<|a<b
 |_,_=>f_
def adt(prog)w A s:MrS.Eu prog w A s nN (λx=>∃a t,x.1 = iT a t) ltI where
 ask:=by rintro⟨_,x⟩ ⟨_,y⟩ ⟨a,t,l⟩ ⟨b,u,n⟩ E Q q;subst l n;show oneLt_int q
 asym:=by rintro⟨_,x⟩ ⟨_,y⟩ ⟨a,t,l⟩ ⟨b,u,n⟩ h;subst l n;have G:=of_decide_eq_true h;show d8 ∅
 trans:=by rintro⟨_,x⟩ ⟨_,y⟩ ⟨_,z⟩ ⟨a,t,l⟩ ⟨b,u,n⟩ ⟨c,v,r⟩ h1 h2;subst l n r;have B:=of_decide_eq_false h1;have C:=of_decide_eq_false h2;show d8<|by omega
def ltR(r:Addr->Ϝ)(x y:kH):Bool:=match x.1,y.1 with
 | ao p,ao q=>IR (r p)<|r q
 |_,_=>f_
def afI{ps:Δ}(M:ic A<lg)
  (h:∀p∈ps,∃vs:Ξ,PlainL s.heap p (b9 vs)/\lI vs (r p)):MrS.Eu prog w A s nN (λx=>∃p,x.1 = ao p/\p∈ps)<|ltR r where
 ask:=by rintro⟨_,x⟩ ⟨_,y⟩ ⟨p,l,O⟩ ⟨q,t,P⟩ E Q k;subst l t;have(vs,(o,n,B,R,C,hd),S):=h p O;have(ws,(U,X,G,H,u,I),Y):=h q P;have(cls,dd,data,sl):=o;have(L,dd2,data2,J):=U;subst R C hd H u I;show kC<|wpAny_cRoomFor M ?_;show kC (wpAny_callSpecialIfBound?_slot (_,B,rfl) aC3 (mv aC3 (_,B,rfl) F.entry_list_lt (F.args_list_lt_2 _ _)
   (HT.Kx p q (b9 vs) (b9 ws) n X n_ n_ sl J (r p) (r q) (by show S)<|by show Y) (B,G,?_)));show lJ k
 asym:=by rintro⟨_,x⟩ ⟨_,y⟩ ⟨a,l,_⟩ ⟨b,t,_⟩ h;subst l t;show B5 _ _ h
 trans:=by rintro⟨_,x⟩ ⟨_,y⟩ ⟨_,z⟩ ⟨a,l,_⟩ ⟨b,t,_⟩ ⟨c,e3,_⟩ h1 h2;subst l t e3;show Am _ _ _ h1 h2
def Eb:uM X (kj "sorted")<|λxs H Q=>∃a ns,xs=[cx a]/\aX ns<64/\sN X.K H a (ns.map c8)/\∀p,H p=n_->Q (cx p) (rG H p<|et<|(qY ns).map c8):=by
 intro Y s σ H xs us Q I r h;have(a,ns,rfl,hf,hS,q):=h;have(u,rfl,G):=vL r;cases G;have(J,hl,l,L):=Bs I hS;have(M,z):=Le l;have B:=G1 l;show MrS.HK hl ∅ (λs' Z=>(λh2 Q q=>?_,adt _ _ _ _)) (λv m=>z v m) λout C O E P R S=>?_;.match J,l,h2 with
  | [],_,h2=>simp at h2
  | [_],_,h2=>simp at h2
  |v₁::v₂::tG,l,_=>rw[keyKind_ints l];show kF q
 .have n:=λv m=>z v<|E.mem_iff.mp m;have e:out.map intOf=qY ns:=by show Kr (by rw[M];show E.map _) ?_;rw[aG];show P.imp_of_mem λ{x y} mx my h=>?_;have(a,t,rfl):=n x mx;have(b,u,rfl):=n y my;have C:=of_decide_eq_false h;change a<=b;rfl'
  have U:=l6 (t7 I)<|bI _;show(cx<|s⁻¹+1,_,I.laid R (bI _)<|show tE X.prog X.w _ C _ (et<|(qY ns).map c8)from (?_,out,O,?_,S),rfl,q _ U);.rw[lMq,ef<|rW ns];show L
  .rw[←e];show vals_ints n
def KM(hu:ic X.A+64<lg):uM X (kj "sorted") (λxs H Q=>∃a ps rs,xs=[cx a]/\aX ps<64/\sN X.K H a (ps.map cx)/\uh H ps rs /\
  ∀p z,H p=n_->dg z ps->uh (rG H p<|et<|z.map cx) z (Fe rs)->Q (cx p) (rG H p<|et<|z.map cx)):=by
 intro oO s σ H xs us Q I r h;have(a,ps,rs,rfl,hf,hS,U,q):=h;have(u,rfl,ru):=vL r;cases ru;have(G,O,hl,hz):=oG I hS;have ei:=uC O;subst ei;have J:∀p∈ps,∃B:Ξ,PlainL s.heap p (b9 B)/\lI B (Bk H p):=λp t=>by have(G,O,P,_):=oG I<|kc<|U.fn_row t;show(G,P,yJ O)
 have y:∀(C:Shared),(∀b o,c7 (b7 s) b=aK o->c7 (b7 C) b=aK o)->∀p∈ps,∃B:Ξ,PlainL C.heap p (b9 B)/\lI B (Bk H p):=λC k p t=>by have(B,(o,n,L,tG),hi):=J p t;show(B,(o,n,k _ _ L,tG),hi)
 show MrS.HK (Pk:=λx=>∃p,x.1 = ao p/\p∈ps) (lt:=ltR<|Bk H) (eQ hl) (by simpa using hf) (λC k=>(λh2 Q q=>?_,afI (by change ic X.A+1+1<lg;lia)<|y C k)) (λv m=>?_) λout h' n' Y o2 o3 o4=>?_;.show Y4 (T:= "list") h2 (λv R=>?_) (by rfl) (by rfl) q;have(p,t,rfl):=mMq.mp R;have(B,P,_):=y C k p t;intro A Q E s2 k2 q2;have(o,L,hc,_):=eQ P;show mi (T:= "list") (o,k2 _ _ L,hc) q2
 .have(p,t,rfl):=mMq.mp m;show(p,rfl,t)
 .have L:∀v∈out,∃p∈ps,v = ao p:=λv m=>by have(p,t,rfl):=mMq.mp<|Y.mem_iff.mp m;show(p,t,rfl)
  have S:out=(out.map rD).map ao:=by
   rw[mPq];have e:=mCq (l:=out) (f:=id) (g:=ao∘rD) λv R=>by have(p,_,rfl):=L v R;rfl
   rw[←e,cZ]
  have M:dg (out.map rD) ps:=by have:=Y.map rD;rw[mPq,show rD∘ao=id from rfl,cZ]at this;show this
  have t:H (s⁻¹+1)=n_:=l6 (t7 I)<|bI _;generalize out.map rD=z at S M;have(ts,e1,e2,e3):=U.perm M;have es:ts=Fe rs:=by show EU e2 ?_;rw[e3,aG];rw[S,aG]at o2;show o2
  show(cx<|s⁻¹+1,_,I.laid (t':=nc s) o3 (bI _)<|show tE X.prog X.w _ h' _ (et<|z.map cx)from (?_,out,n',?_,o4),rfl,q _ z t M<|by rw[←es];show e1.same<|vR t);.rw[lMq,ef M];simpa using hz
  .rw[S];show xa z
noncomputable def zY(r:Ϝ):PyData:=.list<|r.map aA8
def Hw(rs:Λ):PyData:=.list<|rs.map zY
def Tf{σ:St}(I:Inv X l σ H s)(h:H p=aK (et<|r.map c8)):Reads s.heap (ao p) (zY r) [p]:=by have(t,hl,n,_):=Bs I<|kc h;show W.reads_of_ints hl n
theorem Fy:∀rs:Λ,lS (rs.map zY)=t_
 | []=>by rfl
 |r::rs=>by simp[lS,zY,hJ,nM r,Fy rs]
theorem HN:∀rs:Λ,i7 (rs.map zY)<=3
 | []=>by simp[i7]
 |r::rs=>by have h1:=HN rs;have h2:=sd r;simp?[ax,i7,zY,gE];lia
def FU rs:mG (Hw rs)=t_:=by
 have h1:=HN rs;have h2:gE (Hw rs)<=64:=by simp?[Hw,gE];lia
 change(hJ (Hw rs) && decide (gE (Hw rs)<=64))=t_;rw[iE];show(by show Fy rs,d7 h2)
theorem Hj:∀rs l:Λ,k8 (rs.map zY) (l.map zY)=t_
 | [],[]=>by rfl
 | [],_::_=>by rfl
 |_::_,[]=>by rfl
 |r::rs,t::l=>by simp[k8,zY,j4,rr r t,Hj rs l]
theorem IV:∀rs l:Λ,k7 (rs.map zY) (l.map zY)=decide (rs=l)
 | [],[]=>by rfl
 | [],_::_=>by rfl
 |_::_,[]=>by rfl
 |r::rs,t::l=>by simp?[ax,k7,zY,g0,sF r t];rw[IV rs l];by_cases h:r=t <;> simp[h]
def Vl:V->List V->Hp->VK->Prop:=λx vs H Q=>∃(a b:Addr) (ps:Δ) (rs:Λ) (r:Ϝ),x = cx a/\vs=[cx b]/\H a=aK (et<|ps.map cx)/\uh H ps rs/\H b=aK (et<|r.map c8)/\b∉ps/\Q (c8 (rs.countP (·=r):Nat)) H
def Vw(hu:ic X.A+65<lg):MtR X "list.count" Vl:=by
 intro oO s σ H x xs v us Q I M r h;have(a,b,ps,rs,row,rfl,rfl,h1,B,h2,O,q):=h;cases M;have(u,rfl,P):=vL r;cases P;have(R,S,(o,n,C,G,l,hd),hz):=oG I<|kc h1;have U:=uC S;subst U;have(cls,dd,J,Y):=o;simp only at G l hd;subst G l hd;have hr:=Tf I h2;show mv cH (_,C,rfl) iB (iA _ _)
  (aAc a (b9<|ps.map ao) n n_ Y (ao b)<|λy=>decide<|Bk H (rD y)=row) (C,λy hy=>?_,?_)
 .have(p,L,rfl):=mMq.mp<|show y∈ps.map ao by simpa using hy
  show SeqAt.EqAt.of_refs (λe=>O<|e ▸ L) λprog w E Q hq=>?_;have(vs,hl,hi,_):=Bs I<|kc<|B.fn_row L;have(ws,t,z,_):=Bs I<|kc h2;show W.eq_intsK (prog:=prog) (w:=w) (A:=p9 X.A) hl hi t z (by change ic X.A+1+64<lg;rfl') hq
 .show(c8 _,H,I.tok _,(_,rfl),?_);have e:(ps.map ao).toArray.toList.countP (λy=>decide<|Bk H (rD y)=row)=rs.countP (·=row):=by simp?[eJ,B.fn,fV,fV];rfl
  rw[e];show q
end Mr
namespace Mr
open PySem L2
structure Bt (mg:Str->Υ):Prop where
 len:mg "len" = n_
 min:mg "min" = n_
 max:mg "max" = n_
 abs:mg "abs" = n_
 all:mg "all" = n_
 sorted:mg "sorted" = n_
 isi:mg "isinstance" = n_
 list:mg "list" = n_
 int:mg "int" = n_
 bool:mg "bool" = n_
 str:mg "str" = n_
 dict:mg "dict" = n_
 zip:mg "zip" = n_
 enum:mg "enumerate" = n_
 range:mg "range" = n_
 reversed:mg "reversed" = n_
structure Fn (P:kJ)(w:kM)(K:Ζ)(mg:Str->Υ)(base:Heap)(k:Nat)(x:Str)(st:Stmt)(ps:List Str)(sp:Sp)(f:Addr)(fd:lH):Prop where
 D:xP K mg x st ps f fd
 ok:An P w K mg base XN k f fd ps sp
def uF.units65(r:uF k A):ic A+65<lg:=by have:=r.un;lia
def ad4(G:Fn X.prog X.w X.K X.mg X.base k x st ps sp f fd)(hr:uF k X.A)(ha:PA X (e::es) t)(r:↑(Gl X x))(l:⇑((x == ("__debug__" : Str))=f_))
  (s:↑(kO (e::es) X.env=%[f_|eval e<|iI X]::kO es X.env)) (n:↑((mE pos<|kO es<|iI X).any (·.1)=f_)) :
  PE X (m8 (g9 x p) (e::es) [] pos)<|Mv sp [] E0 t:=YM G.ok hr r G.D.m G.D.F.kp G.D.b j8 aej ha l s n
section
variable (K:Ζ)
def Qr:Sp:=λvs H Q Z=>∃(a:Addr) (ns:Ϝ),vs=[cx a]/\sN K H a (ns.map c8)/\aX ns<=63/\∀l,Q (lR t_) l
end
def qh{α:Type}{l:List α}{x}(h:l[i]?=aK x):l.take (i+1)=l.take i++[x]:=by rw[fg,h];rfl
end Mr
namespace Xe
open PySem PySem.Spec PySem.W PyProof.Rows L2 Mr
noncomputable abbrev lk0(K:Frag)(C:Addr):Bool:=findIn K (ao C) "__setattr__" == aK (aK<|kj "object.__setattr__") && findIn K (ao C) "__getattribute__" == aK (aK<|kj "BaseException.__getattribute__") &&
 findIn K (ao C) "__getattr__" == aK n_ && findIn K (ao C) "__class__" == aK (aK<|kj "object.__class__")
def acp(K:Frag)(c:Str)(C:Addr)(l:Ξ):Bool:=match K.lookup C with
 |aK ⟨iD "type", _,.cls cd,sl⟩=>(match km sl with
  | [_,_,_,_,aK (kj n),_]=>cd.name == c && cd.mro == ao C::l && n == "ValueError.__new__" && !cd.hasDel && cd.hasDict && tailIn K VEm l
  |_=>f_)
 |_=>f_
structure Ref (K:Frag)(c:Str)(C M:Addr):Prop where
 nm:nsIn K kN c=aK (aK<|.ref C)
 nmM:nsIn K kN "MapError" = aK (aK<|.ref M)
 xc:acp K c C (.ref M::VEm)=t_
 xm:acp K "MapError" M VEm=t_
 lk:lk0 K C=t_
def IsC(K:Frag)(c:Str)(C:Addr):Prop:=nsIn K kN c=aK (aK<|ao C)/\((∃M,Ref K c C M)∨(c = "MapError" /\ acp K "MapError" C VEm=t_))
noncomputable def ExA(e C:Addr)(od:Option Addr):HO:=.ext λh=>∃o vs,c7 h e=aK o/\o.cls = ao C/\o.dict=od/\vr o = fT vs
def aaY{kvs:List<|pZ×V}(r:KV kvs vs):∀{i:Nat}{p},kvs[i]?=aK p->∃u,vs[i]?=aK %[p.1|u]/\qW p.2 u:=by induction r with
 |nil=>intro i p h;simp at h
 | @cons a b _ _ r t l=>intro i p h;cases i with
  |zero=>simp at h;subst h;show(b.2,by simp[r.1],r.2)
  |succ i=>have(u,n,g2):=l (by show h);show(u,by show n,g2)
end Xe
namespace Mr
open PySem PySem.Spec PyProof.Rows L2
theorem HV:∀{bs:List Bool}{us},qr (bs.map lR) us->us=bs.map eF
 | [],us,r=>by cases r;rfl
 |b::bs,us,r=>by cases r with
  |cons l n=>rw[HV n];cases l;rfl
def HF(B:X.calm=t_):uM X (kj "all")<|λxs H Q=>∃(a:Addr) (bs:List Bool),xs=[cx a]/\sN X.K H a (bs.map lR)/\Q (lR<|bs.all id) H:=by
 intro L s σ H xs M Q I r h;have(a,bs,rfl,hS,q):=h;have(u,rfl,C):=vL r;cases C;have(E,G,p,O):=oG I hS;obtain rfl:=HV G;have hl:=eQ p;have x:a<s⁻¹:=by have(_,e,_):=hl;show ae e
 show call_all_walk<|mD hl ?_;show(s⁻¹,[s⁻¹,a],[s⁻¹],(bs.map eF).toArray.size,_,_,λi=>rh (bs[i]?) t_,rfl,pa (A:=p9 X.A) (I.ok.hd B) _ a (ar x) _,((_,aA _ rfl,rfl,rfl),hl.push _),λi v P R S hP y=>?_,λU J hk=>?_)
 .have e:(bs.map eF)[i]?=aK v:=by simpa using hP
  rw[gMq]at e;cases l:bs[i]? with
  |none=>rw[l]at e;cases e
  |some b=>rw[l]at e;cases e;simp?[l,bB]at y;show lJ y
 .have e:((bD (bs.map eF).toArray.size).all λi=>rh (bs[i]?) t_)=bs.all id:=by
   rw[aq,lMq,bG,gB,gB];constructor;.intro z b l;have(i,t,rfl):=ja l;have:=z i<|e8 bE t;simpa[gEg t]using this
   .intro z i t;have n:=bE.mp t;have:=z bs[i]<|gRq n;simpa[gEg n]using this
  rw[e];show(lR _,H,I.kept (t':=J) λb ob z=>hk b ob (λm=>?_)<|aa _ z,rfl,q);rw[mSq.mp m]at z;show cF _<|ae z
end Mr
namespace Mr
open PySem PyProof.Rows L2
section
variable {X:Cx}
def Vh(_ j:Int):Prop:=0<j/\j.natAbs.log2<9000
def Wi:Fk X (nh .FloorDiv)<|rI Vh λi j=>c8<|i / j:=opI λi j Q Q Q Q Q l q=>by have h1:=l.1;show floordiv_int ∅ (by rw[iw i<|by rfl'];show q)<|jB<|PyProof.noPylong_of_log2 l.2
end
end Mr
namespace Mr
open PySem PySem.Calls PySem.Spec PyProof.Rows L2
def abH(K:Ζ)(x:V)(H:Hp)(T:String):Prop:=match x with
 | c8 _=>T = "list" ∨ T = "tuple" ∨ T = "str"
 | .str _=>T = "list" ∨ T = "tuple"
 | pd=>T = "list" ∨ T = "tuple"
 | cx p=>(T = "tuple" /\ ∃xs,sN K H p xs)∨(T = "list" /\ ∃xs,zd K H p xs)
 |_=>False
def WI:uM X (kj "isinstance")<|λxs H Q=>∃x T,xs=[x,.ty T]/\abH X.K x H T/\Q (lR f_) H:=by intro l s σ H xs L Q I r h;have(x,T,rfl,e,q):=h;have(u,v,rfl,n,z):=Jk r;cases z;cases x with
 |int i=>
  have(t,rfl):=n;obtain rfl|rfl|rfl:=e;.show kW (mO (by trivial) o9 F.sub_int_list)<|show EP X l σ Q (eF f_) { s with toks:=nc s+1 } from (lR f_,H,I.tok _,rfl,q)
  .show kW (mO (by trivial) n7 F.sub_int_tuple)<|show EP X l σ Q (eF f_) { s with toks:=nc s+1 } from (lR f_,H,I.tok _,rfl,q)
  .show kW (mO (by trivial) aC2 F.sub_int_str)<|show EP X l σ Q (eF f_) { s with toks:=nc s+1 } from (lR f_,H,I.tok _,rfl,q)
 |str i=>
  have(t,rfl):=n;obtain rfl|rfl:=e;.show kW (adg (by trivial) o9 F.sub_str_list)<|show EP X l σ Q (eF f_) { s with toks:=nc s+1 } from (lR f_,H,I.tok _,rfl,q)
  .show kW (adg (by trivial) n7 F.sub_str_tuple)<|(lR f_,H,I.tok _,rfl,q)
 |non=>
  cases n;obtain rfl|rfl:=e;.show kW (oK (by trivial) o9 F.sub_NoneType_list)<|(lR f_,H,I.tok _,rfl,q)
  .show kW (oK (by trivial) n7 F.sub_NoneType_tuple)<|(lR f_,H,I.tok _,rfl,q)
 |ref p=>
  cases n;obtain⟨rfl,xs,hS⟩|⟨rfl,xs,hS⟩:=e;.have(y,B,C,E):=oG I hS;show kW (isinstance_false_list (by trivial) n7 F.sub_list_tuple) (C.isList.typeIs,(lR f_,H,I.tok _,rfl,q))
  .have(y,B,(o,G,J,_),E):=I.tuple hS;show kW (isinstance_false_tuple (by trivial) o9 F.sub_tuple_list) ((o,G,J),(lR f_,H,I.tok _,rfl,q))
 |_=>show(e).elim
end Mr
namespace MrS
open PySem PySem.W PyProof.Rows
section
variable {E:Ψ}
def NM{Q:Ξ->Shared->Prop}(K:KdlSrc prog w T r d n P OK)(hh:lL A=n_)(hok:OK<|b7 s)(hn:n<=kK)
  (h:∀t tk (l:Ω),(∀b o,c7 (b7 s) b=aK o->c7 t b=aK o)->s⁻¹<t.objs.size->ItemsOf P l n->Q (km l) { s with heap:=t,toks:=tk }) :
  kE (kG prog w) A (collect<|ao r) Q E s:=by
 unfold collect;show kC<|wpAny_runValue<|kY entry_proto_collect' ?_;show kC<|mK<|kF (Code.quiet_builtin _<|by trivial,kY entry_list_iadd' ?_);have u:=K.there _ hok;have x:c7 (ig (b7 s)<|kL "list" #[] 0) s⁻¹=aK (kL "list" #[] 0):=aA _ rfl;show kdl_extend (R:=λr y=>match r with
   | T3 (pG v)=>kE (kG prog w) A (match v with
    | ao a=>do
     let o ←load a
     match vr o with
     | k6 z _=>pure<|km z
     |_=>unsupported "internal:collect"
    |_=>unsupported "internal:collect") Q E y
   | T3 _=>False
   | .error e=>E e y) K hh (K.keep _ _ hok λb Z o e=>aa _ e) s⁻¹ (aY u.1) (aY u.2) (ao s⁻¹) 0 x (λt tk l c hk hS B=>?_) hn;show kC<|wpAny_load hS ?_;show kF<|h t tk l (λb o e=>hk b o (ar<|ae e)<|aa _ e) (ae hS) B
def LX{Q:Ψ}(K:KdlSrc prog w T r d n P OK)(hh:lL A=n_)(hok:OK<|b7 s)(hn:n<64)
  (hC:∀(vs:Ξ),aX vs=n->(∀j v,vs[j]?=aK v->P j v)->∀I:Shared,(2<=aX vs->∀Q:lK->Shared->Prop,Q nN I->kE (kG prog w) A.in1.in1 (ny<|b9 vs) Q E I)/\Eu prog w A.in1.in1 I nN Pk lt/\∀v∈vs,Pk %[v|v])
  (h:∀(vs out:Ξ) J (p:Addr) tk S,aX vs=n->(∀j v,vs[j]?=aK v->P j v)->dg out vs->out.Pairwise (λx y=>lt %[y|y] %[x|x]=f_)->(∀b o,c7 (b7 s) b=aK o->c7 J b=aK o)->s⁻¹<=p ->
   c7 J p=aK (kL "list" (b9 out) S)->Q (ao p) { s with heap:=J,toks:=tk }) :
  kE (kG prog w) A (call (kj "sorted") [ao r]) Q E s:=by
 show EW aeX adV aeF (args_sorted1 _) ?_;unfold Builtin.«sorted»;show kC (m:=checkCount "sorted" 1 1 _)<|kF ?_;show kC<|NM K hh hok (by rw[lh];lia) λh0 tk t B u M=>?_;have hl:aX (km t)=n:=by rw[dJ];show M.1
 have hP:∀j v,(km t)[j]?=aK v->P j v:=λj v e=>M.2 j v<|by rw[←fe];show e
 have O:aX (km t)<64:=by rw[hl];show hn
 generalize km t=vs at hl hP O;show kC<|mK ?_<|by rw[lh];lia
 have l:c7 (ig h0<|kL "list" (b9 vs) 0) h0.objs.size=aK (kL "list" (b9 vs) 0):=aA _ rfl;change kE _ _ _ _ _ { s with heap:=ig h0 (kL "list" (b9 vs) 0),toks:=tk };have C:s⁻¹<=h0.objs.size:=bQ u;have R:∀b o,c7 (b7 s) b=aK o->c7 (ig h0<|kL "list" (b9 vs) 0) b=aK o:=λb o e=>aa _<|B b o e;have z:∀b o,c7 (b7 s) b=aK o->b≠h0.objs.size:=λb o e=>ar<|ae<|B b o e;generalize ig h0 (kL "list" (b9 vs) 0)=G at l R ⊢;clear u;generalize h0.objs.size=p at l C z ⊢;have U:∀b o,c7 (b7 s) b=aK o->c7 (xx G p vs) b=aK o:=λb o e=>by show aa _<|aa _ ?_;rw[cA _ _ _ _<|z b o e];show R b o e
 have(X,Y,q3):=hC vs hl hP { s with heap:=xx G p vs,toks:=tk };show kC<|kX<|mP aad (_,l,rfl) ou (DM (s:={ s with heap:=G,toks:=tk }) (Pk:=Pk) (lt:=lt) l O X Y (λx hx=>?_) λH a1 a2=>(_,rfl,?_))<|args_list_sort _;.have(m1,m2):=zw hx;have:x=%[x.1|x.1]:=iO rfl m2;rw[this];show q3 _ m1
 .have(v1,v2):=Fp a1 a2;have(e1,L):=QD vs l;have(n1,g1):=Q2 (H.map (·.2)) L;show kF (_,rfl,h vs _ (nY G p vs (H.map (·.2))) p tk n1 hl hP v1 v2 (λb o e=>?_) C ?_);.unfold nY;rw[cA _ _ _ _<|z b o e];show U b o e
  .rw[show(b9 (H.map (·.2)).toList)=H.map (·.2)from iX];show g1
end
end MrS
namespace Mr
open PySem PySem.W PySem.Spec PyProof.Rows L2
theorem Rr:∀{us:Ξ}{ns:Ϝ},aX us=aX ns->(∀(j:Nat) v n,us[j]?=aK v->ns[j]?=aK n->∃t,v=iT n t)->lI us ns
 | [],[],_,_=>.nil
 | [],_::_,h,_=>by simp at h
 |_::_,[],h,_=>by simp at h
 |u::us,n::ns,h,g=>by have(t,rfl):=g 0 u n rfl rfl;show .cons n t<|Rr (by simpa using h) λj v m l r=>g (j+1) v m (by show l)<|by show r
def QY:∀{kvs:List<|pZ×V}{ws},KV kvs ws->kvs.map (·.1)=ws.map (·.1):=λ{kvs ws} r=>by induction r with
 |nil=>rfl
 |cons a b l=>simp?[ax,ax,l,a.1]
def AB(S:X.calm=t_):uM X (kj "sorted") (λxs H Q=>∃(a:Addr) (kvs:List (pZ×V)) (ns:Ϝ),xs=[cx a]/\aX ns<64/\H a=aK (nB kvs)/\kvs.map (·.1)=ns.map ak/\∀p,H p=n_->Q (cx p) (rG H p<|et<|(qY ns).map c8)):=by
 intro oO s σ H xs l Q I r h;have(a,kvs,ns,rfl,hf,ha,hk,q):=h;have(u,rfl,U):=vL r;cases U;have(Y,sa,B,kv,d):=(show tE X.prog X.w H s.heap a (nB kvs)from t7 I a _ ha);have(ep,da):=d.dictAt;have hl:=nE kv;have n:aX ns=aX B:=by have:=congrArg aX hk;rw[lMq,lMq]at this;rw[←this,hl]
 have E:B.map (·.1)=ns.map ak:=by rw[←QY kv,hk]
 have hI:∀l:Ξ,aX l=aX B->(∀(j:Nat) (v:Value),l[j]?=aK v->∃k x,B[j]?=aK %[k|x]/\(rK X.prog X.w).is k v=t_)->lI l ns:=λl h1 h2=>Rr (by rw[h1,n]) λj v m e1 e2=>by
  have(k,x,g1,g2):=h2 j v e1;have M:(B.map (·.1))[j]?=aK k:=by rw[gMq,g1];rfl
  rw[E,gMq,e2]at M;have e4:(ak m:pZ)=k:=by simpa using M
  subst e4;obtain⟨i,t,G,e6⟩|⟨z,t,G,_⟩:=rY (k:=ak m) (v:=v) g2;.cases G;show(t,e6)
  .cases G
 show MrS.LX (kdl_dict (knd:=rK X.prog X.w) (d:=a) (kvs:=B) (ep:=ep) sa) (I.ok.hd S) da ∅ (Pk:=λx:kH=>∃a t,x.1=iT a t) (lt:=ltI) (λl h1 h2 s'=>(λC Q q=>?_,adt _ _ _ _,λv m=>(Le<|hI l h1 h2).2 v m)) λl out O p tk n' h1 h2 P o2 o3 R o4=>?_;.have J:=hI l h1 h2;match l,J,C with
  | [],_,C=>simp at C
  | [_],_,C=>simp at C
  |v₁::v₂::tG,J,_=>rw[keyKind_ints J];show kF q
 .have(en,hv):=Le<|hI l h1 h2;have L:∀v∈out,∃a t,v = iT a t:=λv m=>hv v<|P.mem_iff.mp m;have e:out.map intOf=qY ns:=by show Kr (by rw[en];show P.map _) ?_;rw[aG];show o2.imp_of_mem λ{x y} mx my h=>?_;have(a,t,rfl):=L x mx;have(b,u,rfl):=L y my;have O:¬ b<a:=of_decide_eq_false h;change a<=b;rfl'
  have hp:H p=n_:=l6 (t7 I) R;show(cx p,_,I.laid (t':=tk) o3 R<|show tE X.prog X.w _ O _ (et<|(qY ns).map c8)from (?_,out,n',?_,o4),rfl,q _ hp);.rw[lMq,ef<|rW ns,n,←hl];show Y
  .rw[←e];show vals_ints L
end Mr
namespace Z
open PySem L2 Mr
abbrev St:=L2.St
inductive D where
 |non|bl (b:Bool)|int (i:Int)|str (x:Str)|ty (n:String)|list (xs:List D)|tup (xs:List D)|dict (kvs:List<|pZ×D)|scr (ns:Ϝ)|exc (c:Str) (fs:List<|Str×Int)|cls (c:Str)|fd (kvs:List<|pZ×D)|ins (c:Str) (fs:List<|Str×D)
open Z.D renaming int->bo,list->d9,tup->eH,bl->fb,str->j5,non->kR,dict->mA,scr->ov
inductive rq (K:Ζ)(H:Hp):D->V->Prop
 |non:rq K H .non .non
 |bl {b:Bool}:rq K H (.bl b)<|.bl b
 |int {i:Int}:rq K H (.int i)<|.int i
 |str {x:Str}:rq K H (.str x)<|.str x
 |ty {n:String}:rq K H (.ty n)<|.ty n
 |list {p:Addr}{vs:List V}{ds:List D}(h:H p=aK (.lst vs)) (l:ds.length=vs.length) (e:∀(i:Nat) (d:D) (v:V),ds[i]?=aK d->vs[i]?=aK v->rq K H d v):rq K H (.list ds)<|.ref p
 |tup {p:Addr}{vs:List V}{ds:List D}(h:H p=aK (.tup vs)) (l:ds.length=vs.length) (e:∀(i:Nat) (d:D) (v:V),ds[i]?=aK d->vs[i]?=aK v->rq K H d v):rq K H (.tup ds)<|.ref p
 |dict {p:Addr}{kvs:List<|pZ×V}{ds:List<|pZ×D}(h:H p=aK (.dK kvs)) (l:ds.map (·.1)=kvs.map (·.1)) (e:∀(i:Nat) (d:pZ×D) (v:pZ×V),ds[i]?=aK d->kvs[i]?=aK v->rq K H d.2 v.2):rq K H (.dict ds)<|.ref p
 |scr {p:Addr}{ns:Ϝ}(h:sN K H p<|ns.map V.int):rq K H (.scr ns)<|.ref p
 |exc {c:Str}{fs:List<|Str×Int}{e C M dx:Addr}(rf:Xe.Ref K c C M) (nf:∀p∈fs,W.findIn K (.ref C) p.1=aK n_) (h:H e=aK (Xe.ExA e C<|aK dx)) (hx:H dx=aK (.xd<|fs.map λp=>%[p.1|V.int p.2])):rq K H (.exc c fs)<|.ref e
 |exc0 {c:Str}{e C M:Addr}(rf:Xe.Ref K c C M) (h:H e=aK (Xe.ExA e C n_)):rq K H (.exc c [])<|.ref e
 |cls {c:Str}{C:Addr}(h:Xe.IsC K c C):rq K H (.cls c)<|.ref C
 |fd {p:Addr}{o:Obj}{kvs:List<|pZ×V}{ds:List<|pZ×D}(h:H p=aK (.frz o<|.dK kvs)) (l:ds.map (·.1)=kvs.map (·.1)) (e:∀(i:Nat) (d:pZ×D) (v:pZ×V),ds[i]?=aK d->kvs[i]?=aK v->rq K H d.2 v.2):rq K H (.fd ds)<|.ref p
 |ins {c:Str}{a C dx:Addr}{gs:List<|Str×V}{fs:List<|Str×D}(rf:W.nsIn K kN c=aK (aK<|.ref C)) (h:H a=aK (.ins C dx gs)) (l:fs.map (·.1)=gs.map (·.1)) (e:∀(i:Nat) (d:Str×D) (v:Str×V),fs[i]?=aK d->gs[i]?=aK v->rq K H d.2 v.2):rq K H (.ins c fs)<|.ref a
open Z.rq renaming int->rE,bl->IT
def qo(K:Ζ)(H:Hp)(ds:List D)(vs:List V):Prop:=aX ds=aX vs/\∀(i:Nat) d v,ds[i]?=aK d->vs[i]?=aK v->rq K H d v
def vM(K:Ζ)(H:Hp)(ds:List<|pZ×D)(kvs:List<|pZ×V):Prop:=ds.map (·.1)=kvs.map (·.1)/\∀(i:Nat) d v,ds[i]?=aK d->kvs[i]?=aK v->rq K H d.2 v.2
def rq.mono(h:rq K H d v)(s:qk H H'):rq K H' d v:=by induction h with
 |non=>show .non
 |bl=>show IT
 |int=>show rE
 |str=>show .str
 |ty=>show .ty
 |list h l _ n=>show .list (s _ _ h) l n
 |tup h l _ n=>show .tup (s _ _ h) l n
 |dict h l _ n=>show .dict (s _ _ h) l n
 |scr h=>show .scr<|s.seq h
 |exc r t h u=>show .exc r t (s _ _ h)<|s _ _ u
 |exc0 r h=>show .exc0 r<|s _ _ h
 |cls h=>show .cls h
 |fd h l _ n=>show .fd (s _ _ h) l n
 |ins r h l _ n=>show .ins r (s _ _ h) l n
open Z.rq renaming mono->Qf
def qo.mono(h:qo K H ds vs)(s:qk H H'):qo K H' ds vs:=(h.1,λi d v a b=>Qf (h.2 i d v a b) s)
def vM.mono(h:vM K H ds vs)(s:qk H H'):vM K H' ds vs:=(h.1,λi d v a b=>Qf (h.2 i d v a b) s)
def qo.nil:qo K H [] []:=(rfl,λi d v a=>by simp at a)
def qo.cons(h:rq K H d v)(t:qo K H ds vs):qo K H (d::ds)<|v::vs:=(by simp[t.1],λi e w a b=>by cases i with
 |zero=>simp at a b;subst a b;show h
 |succ i=>show t.2 i e w (by show a)<|by show b)
def qo.cons_iff:qo K H (d::ds) (v::vs)↔rq K H d v/\qo K H ds vs:=(λh=>(h.2 0 d v rfl rfl,by have:=h.1;simpa using this,λi e w a b=>h.2 (i+1) e w (by show a)<|by show b),λh=>.cons h.1 h.2)
def qo.nil_inv(h:qo K H [] vs):vs=[]:=by have:=h.1;cases vs with
 |nil=>rfl
 |cons _ _=>simp at this
open Z.qo renaming nil_inv->h8
def qo.cons_inv(h:qo K H (d::ds) vs):∃v ws,vs=v::ws/\rq K H d v/\qo K H ds ws:=by cases vs with
 |nil=>have:=h.1;simp at this
 |cons v ws=>show(v,ws,rfl,qo.cons_iff.mp h)
open Z.qo renaming cons_inv->eC
theorem qo.append:∀{ds es}{vs ws},qo K H ds vs->qo K H es ws->qo K H (ds++es) (vs++ws)
 | [],es,vs,ws,h,g=>by rw[h8 h];show g
 |d::ds,es,vs,ws,h,g=>by have(v,l,rfl,h1,h2):=eC h;show .cons h1<|qo.append h2 g
def qo.take(h:qo K H ds vs)n:qo K H (ds.take n)<|vs.take n:=(by rw[lTq,lTq,h.1],λi d v a b=>by
 rw[jh]at a b;split at a;.rename_i l;rw[qz l]at b;show h.2 i d v a b
 .cases a)
def qo.drop(h:qo K H ds vs)n:qo K H (ds.drop n)<|vs.drop n:=(by rw[aL,aL,h.1],λi d v a b=>by rw[eW]at a b;show h.2 _ d v a b)
def qo.get(h:qo K H ds vs){i:Nat}(e:ds[i]?=aK d):∃v,vs[i]?=aK v/\rq K H d v:=by have n:=(gSq.mp e).1;have l:=h.1 ▸ n;show(vs[i],gEg l,h.2 i d _ e<|gEg l)
def qo.get'(h:qo K H ds vs){i:Nat}(e:vs[i]?=aK v):∃d,ds[i]?=aK d/\rq K H d v:=by have n:=(gSq.mp e).1;have l:=fQ h.1 ▸ n;show(ds[i],gEg l,h.2 i _ v (gEg l) e)
theorem qo.reverse:∀{ds}{vs},qo K H ds vs->qo K H (hY ds) (hY vs)
 | [],vs,h=>by rw[h8 h];show .nil
 |d::ds,vs,h=>by have(v,l,rfl,h1,h2):=eC h;rw[gf,gf];show h2.reverse.append<|.cons h1 .nil
def rq.list_inv(h:rq K H (d9 ds) v):∃p vs,v = cx p/\H p=aK (et vs)/\qo K H ds vs:=by cases h with
 |list h l e=>show(_,_,rfl,h,l,e)
open Z.rq renaming list_inv->l5
def rq.tup_inv(h:rq K H (eH ds) v):∃p vs,v = cx p/\H p=aK (j6 vs)/\qo K H ds vs:=by cases h with
 |tup h l e=>show(_,_,rfl,h,l,e)
def rq.dict_inv(h:rq K H (mA ds) v):∃p kvs,v = cx p/\H p=aK (nB kvs)/\vM K H ds kvs:=by cases h with
 |dict h l e=>show(_,_,rfl,h,l,e)
def rq.mk_tup(h:H p=aK (j6 vs))(r:qo K H ds vs):rq K H (eH ds)<|cx p:=.tup h r.1 r.2
def rq.mk_dict(h:H p=aK (nB vs))(r:vM K H ds vs):rq K H (mA ds)<|cx p:=.dict h r.1 r.2
noncomputable def D.scal:D->Bool
 | kR=>t_
 | fb _=>t_
 | bo _=>t_
 | j5 _=>t_
 | .ty _=>t_
 |_=>f_
def rq.scal(h:rq K H d v)(s:d.scal=t_):rq K l d v:=by cases h with
 |non=>show .non
 |bl=>show IT
 |int=>show rE
 |str=>show .str
 |ty=>show .ty
 |_=>cases s
inductive AV where
 |sh (d:D)|ow (avs:List AV)|owd (kvs:List<|pZ×D)|owl (kvs:List<|pZ×Ϝ)
open Z.AV renaming sh->b8,ow->el,owd->eu
noncomputable abbrev i0(x:Int):Option AV:=aK<|b8<|bo x
noncomputable abbrev i4(x:List D):Option AV:=aK<|b8<|d9 x
noncomputable abbrev i5(x:Bool):Option AV:=aK<|b8<|fb x
mutual
def pE:AV->D
 | .sh d=>d
 | .ow l=>.list<|HZ l
 | .owd kvs=>.dict kvs
 | .owl kvs=>.dict<|kvs.map λx=>%[x.1|.list<|x.2.map .int]
def HZ:List AV->List D
 | []=>[]
 |a::as=>pE a::HZ as
end
theorem Jq:∀l:List AV,HZ l=l.map pE
 | []=>by rfl
 |a::as=>by simp[HZ,Jq as]
@[simp] theorem sA d:pE (b8 d)=d:=by rfl
@[simp] theorem sV l:pE (el l) = d9 (l.map pE):=by simp[pE,Jq]
@[simp] theorem CC kvs:pE (eu kvs) = mA kvs:=by rfl
inductive qA (K:Ζ)(Hf H:Hp):AV->V->Δ->Prop
 |sh {d:D}{v:V}(r:rq K Hf d v):qA K Hf H (.sh d) v []
 |ow {p:Addr}{vs:List V}{avs:List AV}{Fs:List Δ}(h:H p=aK (.lst vs)) (n:Hf p=n_) (l:avs.length=vs.length) (lf:avs.length=Fs.length)
   (e:∀(i:Nat) (a:AV) (v:V) (F:Δ),avs[i]?=aK a->vs[i]?=aK v->Fs[i]?=aK F->qA K Hf H a v F):qA K Hf H (.ow avs) (.ref p)<|p::Fs.flatten
 |owd {p:Addr}{kvs:List<|pZ×V}{ds:List<|pZ×D}(h:H p=aK (.dK kvs)) (n:Hf p=n_) (r:vM K Hf ds kvs):qA K Hf H (.owd ds) (.ref p) [p]
 |owl {p:Addr}{kvs:List<|pZ×Ϝ}{qs:Δ}(h:H p=aK (.dK<|bx (λx q=>%[x.1|V.ref q]) kvs qs)) (n:Hf p=n_) (l:kvs.length=qs.length) (e:∀(i:Nat) (q:Addr) (x:pZ×Ϝ),qs[i]?=aK q->kvs[i]?=aK x->H q=aK (.lst<|x.2.map V.int)/\Hf q=n_):qA K Hf H (.owl kvs) (.ref p)<|p::qs
def Q6{kvs:List<|pZ×Ϝ}{r:Δ}(h:H p=aK (nB<|bx (λx q=>%[x.1|cx q]) kvs r))(l:aX kvs=aX r)(e:∀(i:Nat) q x,r[i]?=aK q->kvs[i]?=aK x->H q=aK (et<|x.2.map c8)):rq K H (mA<|kvs.map λx=>%[x.1|d9<|x.2.map bo])<|cx p:=by
 show .dict h ?_ λi d v h1 h2=>?_
 .show cC λi=>?_;rw[gMq,gMq,gMq,cE];by_cases c:i<aX kvs;.rw[gEg c,gEg<|l ▸ c];rfl
  .rw[aR<|fD c];rfl
 .rw[gMq]at h1;rw[cE]at h2;cases hk:kvs[i]? with
  |none=>rw[hk]at h1;cases h1
  |some x=>cases s:r[i]? with
   |none=>rw[hk,s]at h2;cases h2
   |some q=>rw[hk]at h1 h2;rw[s]at h2;cases h1;cases h2;show .list (e i q x s hk) (by rw[lMq,lMq]) λj d v n t=>?_;rw[gMq]at n t;cases u:x.2[j]? with
    |none=>rw[u]at n;cases n
    |some m=>rw[u]at n t;cases n;cases t;show rE
def abK{kvs:List<|pZ×Ϝ}{n:Δ}(l:aX kvs=aX n)(s:q∈n):∃(i:Nat) (x:pZ×Ϝ),n[i]?=aK q/\kvs[i]?=aK x:=by have(i,r):=aj.mp s;have hl:=(gSq.mp r).1;show(i,_,r,gEg<|l ▸ hl)
def qA.owned(h:qA K Hf H av v F):∀q∈F,H q≠n_/\Hf q=n_:=by induction h with
 |sh _=>intro q s;cases s
 | @ow p u t y h n l lf e B=>
  intro q s;obtain rfl|s:=ag.mp s;.show(by rw[h];simp,n)
  .have(F,C,s):=mFq.mp s;have(i,I,rfl):=cK.mp C;show B i t[i] u[i] y[i] ⋯ ⋯ ⋯ q s
 |owd h n r=>intro q s;have:=mSq.mp s;subst this;show(by rw[h];simp,n)
 |owl h n l e=>
  intro q s;obtain z|z:=ag.mp s;.rw[z];show(by rw[h];simp,n)
  .have(i,x,h1,h2):=abK l z;have(E,G):=e i q x h1 h2;show(by rw[E];simp,G)
open Z.qA renaming owned->y8
def qA.keep(h:qA K Hf H av v F)(s:qk Hf Hf')(hk:∀q∈F,H' q=H q)(hn:∀q∈F,Hf' q=n_):qA K Hf' H' av v F:=by induction h with
 |sh r=>show .sh<|Qf r s
 | @ow p E y G h n l lf e z=>show .ow (by rw[hk p ⋯];show h) (hn p ⋯) l lf λi a v F h1 h2 t=>z i a v F h1 h2 t (λq u=>hk q ?_) λq u=>hn q ?_;all_goals show mCo _<|e8 mFq (F,mGq t,u)
 |owd h n r=>show .owd (by rw[hk _ ⋯];show h) (hn _ ⋯)<|r.mono s
 | @owl p B C h n l e=>show .owl (by rw[hk _<|ai ..];show h) (hn _<|ai ..) l λi q x h1 h2=>?_;have m:q∈p::C:=mCo _<|mGq h1;show(by rw[hk q m];show(e i q x h1 h2).1,hn q m)
def qA.rep(h:qA K Hf H av v F)(s:qk Hf H):rq K H (pE av) v:=by induction h with
 |sh r=>show Qf r s
 | @ow p C u y h n l lf e z=>rw[sV];show .list h (by simp[l]) λi d v h1 h2=>?_;rw[gMq]at h1;cases t:u[i]? with
  |none=>rw[t]at h1;cases h1
  |some a=>rw[t]at h1;cases h1;have B:=lf ▸ (gSq.mp t).1;show z i a v y[i] t h2<|gEg B
 |owd h n r=>show .mk_dict h<|r.mono s
 |owl h n l e=>show Q6 h l λi q x h1 h2=>(e i q x h1 h2).1
noncomputable def frz(Hf H:Hp)(F:Δ):Hp:=λb=>if b∈F then H b else Hf b
def Da(h:b∈F):frz Hf H F b=H b:=qz h
def vU(h:b∉F):frz Hf H F b=Hf b:=qE h
def uU(h:∀q∈F,Hf q=n_):qk Hf<|frz Hf H F:=λb o e=>by rw[vU λm=>by rw[h b m]at e;cases e];show e
def Zo(s:qk Hf H):qk (frz Hf H F) H:=λb o e=>by
 by_cases m:b∈F;.rw[Da m]at e;show e
 .rw[vU m]at e;show s b o e
def qA.frozen(h:qA K Hf H av v F)(s:qk Hf Hf')(hk:∀q∈F,Hf' q=H q):rq K Hf' (pE av) v:=by induction h with
 |sh r=>show Qf r s
 | @ow p E u y h n l lf e B=>rw[sV];show .list (by rw[hk p ⋯];show h) (by simp[l]) λi d v h1 h2=>?_;rw[gMq]at h1;cases t:u[i]? with
  |none=>rw[t]at h1;cases h1
  |some a=>rw[t]at h1;cases h1;have z:=lf ▸ (gSq.mp t).1;show B i a v y[i] t h2 (gEg z) λq C=>hk q<|mCo _<|e8 mFq (y[i],gRq z,C)
 |owd h n r=>show .mk_dict (by rw[hk _ ⋯];show h)<|r.mono s
 |owl h n l e=>show Q6 (by rw[hk _<|ai ..];show h) l λi q x h1 h2=>by rw[hk q<|mCo _<|mGq h1];show(e i q x h1 h2).1
abbrev AS:=List<|Option AV
structure qI (K:Ζ)(H₀ Hf₀ Hf:Hp)(S:AS)(σ:St)(H:Hp)(Fs:List Δ):Prop where
 len:S.length=σ.length
 lenF:Fs.length=S.length
 rep:∀(i:Nat) (av:AV),S[i]?=aK (aK av)->∃v F,σ[i]?=aK (aK v)/\Fs[i]?=aK F/\qA K Hf H av v F
 emp:∀i:Nat,S[i]?=aK n_->Fs[i]?=aK []
 nd:Fs.flatten.Nodup
 fresh:∀p∈Fs.flatten,H₀ p=n_
 sub:qk Hf H
 fr:qk H₀ H
 lim:∀b,Hf₀ b=n_->H₀ b≠n_->Hf b=n_
 sf:qk Hf₀ Hf
structure zW (Hf H:Hp)(Fs:List Δ)(Hf' H':Hp)(Fs':List Δ):Prop where
 sf:qk Hf Hf'
 sh:qk H H'
 own:∀p∈Fs'.flatten,p∈Fs.flatten
 gr:∀b,Hf b=n_->Hf' b≠n_->H b=n_∨b∈Fs.flatten
def zW.refl:zW l H n l H n:=(j9 _,j9 _,λQ h=>h,λb h g=>absurd h g)
def ZZ(s:qk H l)(h:H b≠n_):l b≠n_:=by cases e:H b with
 |none=>show absurd e h
 |some o=>rw[s b o e];simp
def zW.trans(a:zW n H t Hf1 r Fs1)(b:zW Hf1 r Fs1 l s Fs2):zW n H t l s Fs2:=(eM a.sf b.sf,eM a.sh b.sh,λp h=>a.own p<|b.own p h,λc h g=>by
  by_cases e:Hf1 c=n_
  .obtain q|q:=b.gr c e g;.show jB<|a.sh.free q
   .show ir<|a.own c q
  .show a.gr c h e)
open Z.zW renaming trans->hU
section
variable {Fs:List Δ}
def Ry(s:qk H H')(h:H b≠n_):H' b=H b:=by cases e:H b with
 |none=>show absurd e h
 |some o=>show s b o e
def qI.mem(R:qI K H₀ Hf₀ Hf S σ H Fs)(h:q∈bf Fs):H q≠n_/\Hf q=n_:=by have(F,u,n):=mFq.mp h;have(i,s,rfl):=cK.mp u;have l:=R.lenF ▸ s;cases e:S[i]with
 |none=>
  have:=R.emp i<|by rw[gEg l,e]
  rw[gEg s]at this;rw[aK.inj this]at n;cases n
 |some x=>
  have(v,F,_,t,r):=R.rep i x<|by rw[gEg l,e]
  rw[gEg s]at t;rw[aK.inj t]at n;show y8 r q n
def qI.more(R:qI K H₀ Hf₀ Hf S σ H Fs)(s:qk H H')(sf:qk Hf Hf')(sub:qk Hf' H')(hn:∀q∈bf Fs,Hf' q=n_)(lim:∀b,Hf₀ b=n_->H₀ b≠n_->Hf' b=n_):qI K H₀ Hf₀ Hf' S σ H' Fs where
 len:=R.len
 lenF:=R.lenF
 rep:=λi t e=>by have(v,F,u,n,r):=R.rep i t e;show(v,F,u,n,r.keep sf (λq l=>Ry s (y8 r q l).1) λq l=>hn q<|e8 mFq (F,mGq n,l))
 emp:=R.emp
 nd:=R.nd
 fresh:=R.fresh
 sub:=sub
 fr:=eM R.fr s
 lim:=lim
 sf:=eM R.sf sf
def qI.laid(R:qI K H₀ Hf₀ Hf S σ H Fs)(s:qk H H'):qI K H₀ Hf₀ Hf S σ H' Fs:=R.more s (j9 _) (eM R.sub s) (λq h=>(R.mem h).2) R.lim
def uP(h:p∈bf (i8 Fs i F)):p∈F∨p∈bf Fs:=by
 have(G,n,l):=mFq.mp h;obtain q|q:=List.mem_or_eq_of_mem_set n;.show ir<|e8 mFq (G,q,l)
 .subst q;show jB l
theorem uB:∀{Fs:List Δ}{F}i,c9 (bf Fs)->c9 F->(∀p∈F,p∉bf Fs)->c9 (i8 Fs i F).flatten
 | [],F,i,h,_,_=>by simp
 |G::Gs,F,0,h,hF,hd=>by rw[fY,fCq,nAq];rw[fCq,nAq]at h;show(hF,h.2.1,λa ha b l e=>hd a ha ?_);show ay _<|e ▸ l
 |G::Gs,F,i+1,h,hF,hd=>by
  rw[ik,fCq,nAq];rw[fCq,nAq]at h;show(h.1,uB i h.2.1 hF λp n m=>hd p n<|by show ay _ m,λa ha b l e=>?_);obtain q|q:=uP l;.show hd b q<|by show bw _<|e ▸ ha
  .show h.2.2 a ha b q e
def qI.set(R:qI K H₀ Hf₀ Hf S σ H Fs)i(r:qA K Hf H s v F)(nd:c9 F)(hf:∀q∈F,H₀ q=n_/\q∉bf Fs) :
  qI K H₀ Hf₀ Hf (i8 S i<|aK s) (i8 σ i<|aK v) H<|i8 Fs i F where
 len:=by simp[R.len]
 lenF:=by simp[R.lenF]
 rep:=λj a e=>by
  rw[bM]at e;by_cases l:i=j
  .subst l;rw[qz rfl]at e;split at e;.rename_i t;cases e;show(v,F,by rw[aV<|R.len ▸ t],by rw[aV<|fQ R.lenF ▸ t],r)
   .cases e
  .rw[qE l]at e;have(w,G,u,x,q):=R.rep j a e;show(w,G,by rw[aJ l];show u,by rw[aJ l];show x,q)
 emp:=λj e=>by
  rw[bM]at e;by_cases l:i=j;.subst l;rw[qz rfl]at e;split at e <;> cases e
  .rw[qE l]at e;rw[aJ l];show R.emp j e
 nd:=uB i R.nd nd λp n=>(hf p n).2
 fresh:=λp n=>by
  obtain q|q:=uP n;.show(hf p q).1
  .show R.fresh p q
 sub:=R.sub
 fr:=R.fr
 lim:=R.lim
 sf:=R.sf
def tJ(h:p∈bf (i8 Fs i [])):p∈bf Fs:=by
 obtain q|q:=uP h;.cases q
 .show q
theorem wL:∀{Fs:List Δ}{F}{i}{p},c9 (bf Fs)->Fs[i]?=aK F->p∈F->p∉bf (i8 Fs i [])
 | [],F,i,p,_,e,_,_=>by simp at e
 |G::Gs,F,0,p,h,e,l,m=>by simp at e;subst e;rw[fCq,nAq]at h;show h.2.2 p l p m rfl
 |G::Gs,F,i+1,p,h,e,l,m=>by
  rw[fCq,nAq]at h;have n:=by show e
  obtain q|q:=mAq.mp m;.show h.2.2 p q p (e8 mFq (F,mGq n,l)) rfl
  .show wL h.2.1 n l q
def qI.move(R:qI K H₀ Hf₀ Hf S σ H Fs)(e:S[i]?=aK (aK u)):∃v F,σ[i]?=aK (aK v)/\Fs[i]?=aK F/\qA K Hf H u v F/\c9 F/\(∀q∈F,H₀ q=n_/\q∉bf (i8 Fs i [])) /\
  qI K H₀ Hf₀ Hf (i8 S i n_) σ H (i8 Fs i []):=by
 have(v,F,z,s,r):=R.rep i u e;have x:∀q∈F,q∈bf Fs:=λq t=>e8 mFq (F,mGq s,t);show(v,F,z,s,r,bp.sublist (aM<|mGq s) R.nd,λq t=>(R.fresh q<|x q t,wL R.nd s t),?_);show(by simp[R.len],by simp[R.lenF],λj a n=>?_,λj n=>?_,uB i R.nd aW (λp y=>by cases y),λp y=>R.fresh p<|tJ y,R.sub,R.fr,R.lim,R.sf)
 .rw[bM]at n;by_cases l:i=j;.subst l;rw[qz rfl]at n;split at n <;> cases n
  .rw[qE l]at n;have(w,G,f1,f2,q):=R.rep j a n;show(w,G,f1,by rw[aJ l];show f2,q)
 .rw[bM]at n;by_cases l:i=j
  .subst l;rw[qz rfl]at n;split at n;.rename_i B;rw[aV<|fQ R.lenF ▸ B]
   .cases n
  .rw[qE l]at n;rw[aJ l];show R.emp j n
def qI.frz(R:qI K H₀ Hf₀ Hf S σ H Fs)(hf:∀q∈F,H₀ q=n_/\q∉Fs.flatten)(hn:∀q∈F,Hf q=n_):qI K H₀ Hf₀ (frz Hf H F) S σ H Fs:=by
 show R.more (.refl _) (uU hn) (Zo R.sub) (λq l=>?_) λb h1 h2=>?_;.rw[vU λm=>(hf q m).2 l];show(R.mem l).2
 .rw[vU λm=>h2 (hf b m).1];show R.lim b h1 h2
end
abbrev ME:=AS->Option (D×AS)
abbrev MK:=AS->Option (AV×AS)
abbrev ML:=AS->Option (List D×AS)
abbrev MT:=AS->Option (Bool×AS)
abbrev MA:=AS->Option (List AV×AS)
def qF(K:Ζ)(r H:Hp)(l:List AV)(vs:List V)(n:List Δ):Prop:=aX l=aX vs/\aX l=aX n/\∀(i:Nat) a v F,l[i]?=aK a->vs[i]?=aK v->n[i]?=aK F->qA K r H a v F
structure zQ (H₀ H:Hp)(Fs Fs':List Δ)(F:Δ):Prop where
 nd:F.Nodup
 fr:∀q∈F,H₀ q=n_
 out:∀q∈F,q∉Fs'.flatten
 new:∀q∈F,H q=n_∨q∈Fs.flatten
def zQ.nil:zQ H₀ H n l []:=(aW,λq h=>(by cases h),λq h=>(by cases h),λq h=>(by cases h))
section
variable (K:Ζ)
def SR(te:TE)(m:ME):Prop:=∀{H₀ l t}{S}{σ}{H}{u}{d}{S'},qI K H₀ l t S σ H u->m S=aK %[d|S']->∀Q:VK,
 (∀n s r v,zW t H u n s r->qI K H₀ l n S' σ s r->rq K s d v->Q v s)->te σ H Q
def SK(te:TE)(m:MK):Prop:=∀{H₀ l u}{S}{σ}{H}{t}{a}{S'},qI K H₀ l u S σ H t->m S=aK %[a|S']->∀Q:VK,
 (∀n s r v F,zW u H t n s r->qI K H₀ l n S' σ s r->qA K n s a v F->zQ H₀ H t r F->Q v s)->te σ H Q
def SL(te:TE)(m:ML):Prop:=∀{H₀ l t}{S}{σ}{H}{u}{ds}{S'},qI K H₀ l t S σ H u->m S=aK %[ds|S']->∀Q:VK,
 (∀n s r p vs,zW t H u n s r->qI K H₀ l n S' σ s r->s p=aK (et vs)->qo K n ds vs->Q (cx p) s)->te σ H Q
def Gy(x:TT)(m:MT):Prop:=∀{H₀ l t}{S}{σ}{H}{u}{b}{S'},qI K H₀ l t S σ H u->m S=aK %[b|S']->∀Q:Bool->Hp->Prop,
 (∀n s r,zW t H u n s r->qI K H₀ l n S' σ s r->Q b s)->x σ H Q
def SA(y:TA)(m:MA):Prop:=∀{H₀ l u}{S}{σ}{H}{t}{as}{S'},qI K H₀ l u S σ H t->m S=aK %[as|S']->∀Q:List V->Hp->Prop,
 (∀n s r vs x,zW u H t n s r->qI K H₀ l n S' σ s r->qF K n s as vs x->zQ H₀ H t r (bf x)->Q vs s)->y σ H Q
def WJ(x:TA)(m:ML):Prop:=∀{H₀ l t}{S}{σ}{H}{u}{ds}{S'},qI K H₀ l t S σ H u->m S=aK %[ds|S']->∀Q:List V->Hp->Prop,
 (∀n s r vs,zW t H u n s r->qI K H₀ l n S' σ s r->qo K s ds vs->Q vs s)->x σ H Q
end
def qA.stp(r:qA K Hf H n v F)(s:∀q∈F,q∉bf Fs)(t:zW Hf H Fs Hf' H' Fs'):qA K Hf' H' n v F:=r.keep t.sf (λq l=>Ry t.sh (y8 r q l).1) λq l=>by
  by_cases e:Hf' q=n_;.show e
  .obtain z|z:=t.gr q (y8 r q l).2 e;.show absurd z (y8 r q l).1
   .show absurd z<|s q l
def qI.new(R:qI K H₀ Hf₀ Hf S σ H Fs)(l:H p=n_):zW Hf H Fs Hf (rG H p o) Fs/\qI K H₀ Hf₀ Hf S σ (rG H p o) Fs/\Hf p=n_/\H₀ p=n_/\p∉bf Fs:=((j9 _,vR l,λQ h=>h,λb h g=>absurd h g),R.laid<|vR l,R.sub.free l,R.fr.free l,λm=>(R.mem m).1 l)
def wg n:bf (aF n ([]:Δ))=[]:=by induction n with
 |zero=>rfl
 |succ n l=>simp?[fJ,fCq,l];rfl
def qA.new(h:H p=aK (et vs))(n:Hf p=n_)(r:qo K Hf ds vs):qA K Hf H (el<|ds.map b8) (cx p) [p]:=by
 have e:[p]=p::bf (aF (aX ds)<|[]):=by rw[wg]
 rw[e];show .ow h n (by simp[r.1]) ⋯ λi a v F h1 h2 l=>?_;rw[gMq]at h1;cases q:ds[i]? with
 |none=>rw[q]at h1;cases h1
 |some d=>rw[q]at h1;cases h1;have:=fW<|mGq l;subst this;show .sh<|r.2 i d v q h2
open Z.qA renaming new->x4
def qA.news(h:H p=aK (et vs))(n:Hf p=n_)(r:qF K Hf H l vs s):qA K Hf H (el l) (cx p)<|p::bf s:=.ow h n r.1 r.2.1 r.2.2
open Z.qA renaming news->Mw
def qA.ow_inv(h:qA K Hf H (el r) v F):∃p vs s,v = cx p/\F=p::bf s/\H p=aK (et vs)/\Hf p=n_/\qF K Hf H r vs s:=by cases h with
 |ow h n l lf e=>show(_,_,_,rfl,rfl,h,n,l,lf,e)
def qA.owd_inv(h:qA K Hf H (eu ds) v F):∃p kvs,v = cx p/\F=[p]/\H p=aK (nB kvs)/\Hf p=n_/\vM K Hf ds kvs:=by cases h with
 |owd h n r=>show(_,_,rfl,rfl,h,n,r)
def qA.sh_inv(h:qA K Hf H (b8 d) v F):F=[]/\rq K Hf d v:=by cases h with
 |sh r=>show(rfl,r)
open Z.qA renaming sh_inv->pR
def qI.give(R:qI K H₀ Hf₀ Hf' S σ l Fs1)(t:zW Hf H Fs Hf' l Fs1)(r:qA K Hf' l u v F)(o:zQ H₀ H Fs Fs1 F) :
  qI K H₀ Hf₀ (Z.frz Hf' l F) S σ l Fs1/\rq K (Z.frz Hf' l F) (pE u) v/\zW Hf H Fs (Z.frz Hf' l F) l Fs1:=by
 have n:=λq s=>(y8 r q s).2;show(R.frz (λq s=>(o.fr q s,o.out q s)) n,r.frozen (uU n) λq s=>Da s,eM t.sf<|uU n,t.sh,t.own,λb h g=>?_);by_cases m:b∈F;.show o.new b m
 .rw[vU m]at g;show t.gr b h g
def qF.nil:qF K Hf H [] [] []:=(rfl,rfl,λi a v F h=>by simp at h)
def qF.cons(h:qA K Hf H a v F)(t:qF K Hf H as vs n):qF K Hf H (a::as) (v::vs)<|F::n:=(by simp[t.1],by simp[t.2.1],λi b w G h1 h2 l=>by cases i with
  |zero=>simp at h1 h2 l;subst h1 h2 l;show h
  |succ i=>show t.2.2 i b w G (by show h1) (by show h2)<|by show l)
def qF.nil_inv(h:qF K Hf H [] vs l):vs=[]/\l=[]:=by have(a,b,_):=h;show(aD.mp<|fQ a,aD.mp<|fQ b)
def qF.cons_inv(h:qF K Hf H (a::as) vs n):∃v ws F l,vs=v::ws/\n=F::l/\qA K Hf H a v F/\qF K Hf H as ws l:=by have(h1,h2,r):=h;cases vs with
 |nil=>simp at h1
 |cons v ws=>cases n with
  |nil=>simp at h2
  |cons F l=>show(v,ws,F,l,rfl,rfl,r 0 a v F rfl rfl rfl,by simpa using h1,by simpa using h2,λi b w G s t u=>r (i+1) b w G (by show s) (by show t)<|by show u)
def qF.frozen(h:qF K Hf H as vs Gs)(s:qk Hf Hf')(hk:∀q∈bf Gs,Hf' q=H q):qo K Hf' (as.map pE) vs:=(by simp[h.1],λi d v h1 h2=>by rw[gMq]at h1;cases l:as[i]? with
  |none=>rw[l]at h1;cases h1
  |some a=>rw[l]at h1;cases h1;have n:=h.2.1 ▸ (gSq.mp l).1;show(h.2.2 i a v Gs[i] l h2<|gEg n).frozen s λq r=>hk q<|e8 mFq (Gs[i],gRq n,r))
def qF.owned(h:qF K Hf H as vs Gs):∀q∈bf Gs,H q≠n_/\Hf q=n_:=λq l=>by have(F,r,l):=mFq.mp l;have(i,n,rfl):=cK.mp r;have h1:=fQ h.2.1 ▸ n;have h2:=h.1 ▸ h1;show(y8<|h.2.2 i as[i] vs[i] Gs[i] (gEg h1) (gEg h2)<|gEg n) q l
def qI.gives(R:qI K H₀ Hf₀ Hf' S σ l Fs1)(t:zW Hf H Fs Hf' l Fs1)(r:qF K Hf' l as vs s)(o:zQ H₀ H Fs Fs1<|bf s) :
  qI K H₀ Hf₀ (Z.frz Hf' l<|bf s) S σ l Fs1/\qo K (Z.frz Hf' l<|bf s) (as.map pE) vs/\zW Hf H Fs (Z.frz Hf' l<|bf s) l Fs1:=by
 have n:=λq u=>(r.owned q u).2;show(R.frz (λq u=>(o.fr q u,o.out q u)) n,r.frozen (uU n) λq u=>Da u,eM t.sf<|uU n,t.sh,t.own,λb h g=>?_);by_cases m:b∈bf s;.show o.new b m
 .rw[vU m]at g;show t.gr b h g
def zQ.stp(o:zQ H₀ H Fs Fs1 F)(t:zW Hf1 n Fs1 l r Fs2):zQ H₀ H Fs Fs2 F:=(o.nd,o.fr,λq h m=>o.out q h<|t.own q m,o.new)
def zQ.back(t:zW Hf H Fs Hf1 l Fs1)(o:zQ H₀ l Fs1 Fs2 F):zQ H₀ H Fs Fs2 F:=(o.nd,o.fr,o.out,λq h=>(o.new q h).elim (λe=>jB<|t.sh.free e) λm=>ir<|t.own q m)
def zQ.app(a:zQ H₀ H Fs Fs' F)(b:zQ H₀ H Fs Fs' G)(d:∀q∈F,q∉G):zQ H₀ H Fs Fs'<|F++G:=(e8 nAq (a.nd,b.nd,λx l y n e=>d x l<|e ▸ n),λq h=>(mAq.mp h).elim (a.fr q)<|b.fr q,λq h=>(mAq.mp h).elim (a.out q)<|b.out q,λq h=>(mAq.mp h).elim (a.new q)<|b.new q)
def zQ.apart{Hf1:Hp}(a:zQ H₀ H Fs Fs1 F)(ha:∀q∈F,l q≠n_)(b:zQ H₀ l Fs1 Fs2 G):∀q∈F,q∉G:=λq h m=>by
 obtain e|e:=b.new q m;.show ha q h e
 .show a.out q h e
def zQ.one(R:qI K H₀ Hf₀ Hf S σ H Fs)(l:H p=n_):zQ H₀ H Fs Fs [p]:=(by simp,λq h=>by rw[mSq.mp h];show R.fr.free l,λq h m=>by rw[mSq.mp h]at m;show(R.mem m).1 l,λq h=>by rw[mSq.mp h];show jB l)
open Z.zQ renaming one->q5
noncomputable def oR(i:Nat):ME:=λS=>(rg S[i]?).map λa=>%[pE a|S]
noncomputable def pD(i:Nat):MK:=λS=>(rg S[i]?).map λa=>%[b8<|pE a|i8 S i<|aK<|b8<|pE a]
noncomputable def Bl(i:Nat):MK:=λS=>(rg S[i]?).map λa=>%[a|i8 S i n_]
noncomputable def DT(i:Nat):ML:=λS=>match rg S[i]? with
 |aK (b8 (d9 ds))=>aK %[ds|S]
 |aK (el l)=>aK %[l.map pE|i8 S i<|aK<|el<|(l.map pE).map b8]
 |_=>n_
noncomputable def rOf(k:MK):ME:=λS=>(k S).map λx=>%[pE x.1|x.2]
def kSc(m:ME):MK:=λS=>cc (m S) λx=>if x.1.scal then aK %[b8 x.1|x.2]else n_
def lOf(k:MK):ML:=λS=>cc (k S) λx=>match x.1 with
 | b8 (d9 ds)=>aK %[ds|x.2]
 | el l=>aK %[l.map pE|x.2]
 |_=>n_
noncomputable def vN(k:MK):MK:=λS=>(k S).map λx=>%[b8<|pE x.1|x.2]
def rC(d:D):ME:=λS=>if d.scal then aK %[d|S]else n_
def qR{S:AS}{i:Nat}(h:rg S[i]?=aK a):S[i]?=aK (aK a):=by cases e:S[i]? with
 |none=>rw[e]at h;cases h
 |some z=>rw[e]at h;show congrArg aK h
def oY i:SR K (Ax i)<|oR i:=by intro H₀ l t S σ H u d x R e Q q;have(a,n,e):=oMq.mp e;cases e;have(v,F,s,y,r):=R.rep i a<|qR n;show(v,s,q _ _ _ v .refl R<|r.rep R.sub)
def K7 i:SK K (Ax i)<|Bl i:=by intro H₀ n z S σ H B a C R e Q q;have(b,s,e):=oMq.mp e;cases e;have(v,F,t,u,r,nd,o,x):=R.move<|qR s;show(v,t,q _ _ _ v F (j9 _,j9 _,λp y=>tJ y,λb h g=>absurd h g) x r (nd,λq l=>(o q l).1,λq l=>(o q l).2,λq l=>ir<|e8 mFq (F,mGq u,l)))
def qI.again{S:AS}{s:List Δ}{F:Δ}(R:qI K H₀ l n (i8 S i n_) σ H<|i8 s i [])(u:σ[i]?=aK (aK v))(r:qA K n H t v G)(nd:c9 G)(hf:∀q∈G,H₀ q=n_/\q∉bf (i8 s i [])) :
  qI K H₀ l n (i8 S i<|aK t) σ H<|i8 s i G:=by
 have R2:=R.set i r nd hf;rw[gV,gV]at R2;have e:i8 σ i (aK v)=σ:=by have(hk,x):=gSq.mp u;rw[←x];show gC hk
 rw[e]at R2;show R2
def qb i:SK K (Ax i)<|pD i:=by
 intro H₀ l E S σ H G a I R e Q q;have(b,x,e):=oMq.mp e;cases e;have(v,F,t,y,r,nd,o,z):=R.move<|qR x;have n:=λq s=>(y8 r q s).2;have R2:=z.frz o n;have u:=r.frozen (uU n) λq s=>Da s;have B:=R2.again (F:=F) t (.sh u) aW λq h=>(by cases h);show(v,t,q _ _ _ v [] (uU n,j9 _,λp C=>tJ C,λb h g=>?_) B (.sh u) .nil);by_cases m:b∈F;.show ir<|e8 mFq (F,mGq y,m)
 .rw[vU m]at g;show absurd h g
set_option tactic.hygienic true in
def BL i:SL K (Ax i)<|DT i:=by
 intro H₀ t U S σ H X Y S' R e Q q;unfold DT at e;split at e;.rename_i G u;cases e;have(v,F,s,x,r):=R.rep i _<|qR u;have(p,y,rfl,h1,h2):=l5 (pR r).2;show(_,s,q _ _ _ p y .refl R (R.sub _ _ h1) h2)
 .rename_i I u;cases e;have(v,F,s,x,r,nd,o,J):=R.move<|qR u;have(p,y,B,rfl,rfl,h1,h2,C):=r.ow_inv;have n:=λq l=>(C.owned q l).2;have R2:=J.frz (λq l=>o q<|mCo _ l) n;have E:=C.frozen (uU n) λq l=>Da l;have L:=(az.mp nd).1;have M:=x4 h1 (by rw[vU L];show h2) E;have O:=R2.again (F:=p::bf B) s M ⋯ λq l=>by rw[mSq.mp l];show o p ⋯
  show(_,s,q _ _ _ p y (uU n,j9 _,λb P=>?_,λb h g=>?_) O h1 E)
  .obtain z|z:=uP P;.rw[mSq.mp z];show e8 mFq (_,mGq x,by simp)
   .show z
  .by_cases m:b∈bf B;.show ir<|e8 mFq (_,mGq x,mCo _ m)
   .rw[vU m]at g;show absurd h g
 .cases e
def SK.rOf(h:SK K te k):SR K te<|rOf k:=by intro H₀ l z S σ H B d C R e Q q;have(x,s,e):=oMq.mp e;cases e;show h R s Q λu E y v F t n r o=>q _ _ _ v t n<|r.rep n.sub
def SR.kSc(h:SR K te m):SK K te<|kSc m:=by
 intro H₀ l B S σ H C a E R e Q q;have(x,n,e):=oBq.mp e;split at e;.rename_i s;cases e;show h R n Q λu G y v t z r=>q _ _ _ v [] t z (.sh<|r.scal s) .nil
 .cases e
def SK.frz(h:SK K te k):SK K te<|vN k:=by intro H₀ l C S σ H E a G R e Q q;have(x,n,e):=oMq.mp e;cases e;show h R n Q λs I u v F t y r o=>?_;have(R2,z,B):=y.give t r o;show q _ _ _ v [] B R2 (.sh z) .nil
open Z.SK renaming frz->aA2
def SK.lOf(h:SK K te k):SL K te<|lOf k:=by
 intro H₀ l J S σ H L M O R e Q q;have(x,z,e):=oBq.mp e;show h R z Q λB P C v F t n r o=>?_;split at e;.rename_i E s;cases e;rw[s]at r;have(p,u,rfl,h1,h2):=r.sh_inv.2.list_inv;show q _ _ _ p u t n (n.sub _ _ h1) h2
 .rename_i G s;cases e;have(R2,y,I):=n.give t r o;rw[s,sV]at y;have(p,u,rfl,h1,h2):=y.list_inv;show q _ _ _ p u I R2 (R2.sub _ _ h1) h2
 .cases e
def W4(h:∀H,rq K H d v):SR K (tC v)<|rC d:=by
 intro H₀ l n S σ H r s t R e Q q;unfold rC at e;split at e;.cases e;show q _ _ _ v .refl R<|h _
 .cases e
def pV:SR K (tC<|c8 i)<|rC<|bo i:=W4 λQ=>rE
def abb:SR K (tC<|.str i)<|rC<|j5 i:=W4 λQ=>.str
def Eh:SR K (tC<|lR i)<|rC<|fb i:=W4 λQ=>IT
def P2:SR K (tC pd)<|rC kR:=W4 λQ=>.non
def adL:SR K (tC<|.ty T)<|rC<|.ty T:=W4 λQ=>.ty
def wa{α:Type}(p:Prop)(x:Option α):Option α:=@ite (Option α) p (dE p) x n_
def xy(h:p)(x:Option α):wa p x=x:=qz h
def yB(x:Option α):wa True x=x:=qz trivial
def qe{x y:Option α}(h:wa p x=y):(p/\x=y)∨n_=y:=by
 by_cases c:p;.rw[xy c]at h;show jB (c,h)
 .show ir<|eI (@if_neg p (dE p) c _ x n_).symm h
noncomputable def pU(f:D->D->Option D)(a b:ME):ME:=λS=>cc (a S) λx=>cc (b x.2) λy=>(f x.1 y.1).map λd=>%[d|y.2]
noncomputable def Bn(f:D->Option D)(a:ME):ME:=λS=>cc (a S) λx=>(f x.1).map λd=>%[d|x.2]
def Ex(K:Ζ)(r:R2)(f:D->D->Option D):Prop:=∀{x y}{H}{Q}{l n d},rq K H l x->rq K H n y->f l n=aK d->(∀v,rq K H d v->Q v H)->r x y H Q
def UnD(K:Ζ)(r:V->Hp->VK->Prop)(f:D->Option D):Prop:=∀{x}{H}{Q}{l d},rq K H l x->f l=aK d->(∀v,rq K H d v->Q v H)->r x H Q
def pY(hr:Ex K r f)(ha:SR K ta a)(s:SR K tb b):SR K (XX r ta tb)<|pU f a b:=by intro H₀ l O S σ H P d U R e Q q;have(x,t,e):=oBq.mp e;have(y,u,e):=oBq.mp e;have(z,B,e):=oMq.mp e;cases e;show ha R t _ λC X Fs1 Y E G I=>s G u _ λJ H2 Fs2 v2 n R2 L=>?_;show hr (Qf I n.sh) L B λv M=>q _ _ _ v (hU E n) R2 M
def BE{r}{f}(hr:UnD K r f)(ha:SR K ta a):SR K (tUn r ta)<|Bn f a:=by intro H₀ l E S σ H G d I R e Q q;have(x,n,e):=oBq.mp e;have(z,s,e):=oMq.mp e;cases e;show ha R n _ λt J Fs1 L u y B=>hr B s λv C=>q _ _ _ v u y C
def Qc(c:Int->Int->Prop)(g:Int->Int->D):D->D->Option D
 | bo i,bo j=>wa (c i j)<|aK<|g i j
 |_,_=>n_
noncomputable def dI1(g:Int->D):D->Option D
 | bo i=>aK<|g i
 |_=>n_
abbrev yS:=Qc (λQ Q=>True) λi j=>bo<|i+j
abbrev D3:=Qc (λQ Q=>True) λi j=>bo<|i-j
abbrev Du:=Qc W1 λi j=>bo<|i*j
abbrev rX:=Qc (λQ j=>0<j) λi j=>bo<|i % j
abbrev ve:=Qc ac1 λi j=>bo<|i / j
abbrev NW:=Qc aaR λi j=>bo<|i ^ jz j
abbrev Qt:=Qc (λQ Q=>True) λi j=>fb<|decide<|i<j
abbrev dLe:=Qc (λQ Q=>True) λi j=>fb<|decide<|i<=j
abbrev Iy:=Qc (λQ Q=>True) λi j=>fb<|decide<|j<i
abbrev dGe:=Qc (λQ Q=>True) λi j=>fb<|decide<|j<=i
abbrev vf:=dI1 λi=>bo<|-i
noncomputable def Ul(b:Bool):Option D:=aK<|fb b
def Al(x y:D):Option D:=match x with
 | bo i=>(match y with|bo j=>Ul<|decide<|i=j|kR=>Ul f_|j5 _=>Ul f_|_=>n_)
 | j5 i=>(match y with|j5 j=>Ul<|decide<|i=j|kR=>Ul f_|bo _=>Ul f_|_=>n_)
 | fb i=>(match y with|fb j=>Ul<|decide<|i=j|kR=>Ul f_|_=>n_)
 | kR=>(match y with|kR=>Ul t_|bo _=>Ul f_|j5 _=>Ul f_|fb _=>Ul f_|_=>n_)
 |_=>n_
noncomputable def Sm:D->Option D
 | fb b=>aK<|fb<|!b
 |_=>n_
def Gb(x y:D):Option D:=cc (Al x y) Sm
set_option tactic.hygienic true
def Mu(l:∀H i j,rq K H (g' i j)<|g i j):Ex K (rI C g)<|Qc C g':=by
 intro x y H Q s t d n r e q;unfold Qc at e;split at e
 .rename_i i j;cases n;cases r;obtain⟨h,e⟩|e:=qe e;.cases e;show(i,j,rfl,rfl,h,q _<|l H i j)
  .cases e
 .cases e
def GM(l:∀H i j,rq K H (g' i j)<|g i j):Ex K (Tg g)<|Qc (λZ Z=>True) g':=by
 intro x y H Q s t d n r e q;unfold Qc at e;split at e;.rename_i i j;cases n;cases r;rw[yB]at e;cases e;show(i,j,rfl,rfl,q _<|l H i j)
 .cases e
set_option tactic.hygienic false
def Fc:Ex K (Tg λi j=>c8<|i+j) yS:=GM λQ Q Q=>rE
def Us:Ex K (Tg λi j=>c8<|i-j) D3:=GM λQ Q Q=>rE
def J5:Ex K (rI W1 λi j=>c8<|i*j) Du:=Mu λQ Q Q=>rE
def vZ:Ex K (rI (λQ j=>0<j) λi j=>c8<|i % j) rX:=Mu λQ Q Q=>rE
def wH:Ex K (rI ac1 λi j=>c8<|i / j) ve:=Mu λQ Q Q=>rE
def acX:Ex K (rI aaR λi j=>c8<|i ^ jz j) NW:=Mu λQ Q Q=>rE
def adw:Ex K (Tg λi j=>lR<|decide<|i<j) Qt:=GM λQ Q Q=>IT
def adF:Ex K (Tg λi j=>lR<|decide<|i<=j) dLe:=GM λQ Q Q=>IT
def Rf:Ex K (Tg λi j=>lR<|decide<|j<i) Iy:=GM λQ Q Q=>IT
set_option tactic.hygienic true in
def za:UnD K (rU λi=>c8<|-i) vf:=by
 intro x H Q n d l e q;cases l <;> simp?[dI1]at e;all_goals first|(simp at e;done)|skip
 rename_i i;cases e;show(i,rfl,q _ rE)
def Ay:Ex K rEq Al:=by
 intro x y H Q r s d l n e q;cases l <;> first|(cases e;)|(cases n <;> first|(cases e;done)|skip)
 all_goals (cases e;show(rfl,q _ ?_);simp?[reduceCtorEq,decide_false,decide_true,V.int.injEq,V.str.injEq,V.bl.injEq];show IT)
def FW:Ex K rNe Gb:=by intro x y H Q t u d l n e q;have(b,r,s):=oBq.mp e;have(h1,h2):=Ay l n r (Q:=λv Z=>rq K H b v) λv h=>h;cases h2;cases s;show(h1,q _ IT)
noncomputable def IQ(a b:ME):ME:=λS=>cc (a S) λx=>match x.1 with
 | fb t_=>b x.2
 | fb f_=>aK %[fb f_|x.2]
 |_=>n_
noncomputable def rOr(a b:ME):ME:=λS=>cc (a S) λx=>match x.1 with
 | fb t_=>aK %[fb t_|x.2]
 | fb f_=>b x.2
 |_=>n_
def ack(a:ME):ME:=Bn Sm a
noncomputable def rH(a:ME):MT:=λS=>cc (a S) λx=>match x.1 with
 | fb b=>aK %[b|x.2]
 |_=>n_
noncomputable def CL(a b:MT):MT:=λS=>cc (a S) λx=>if x.1=t_ then b x.2 else aK %[f_|x.2]
noncomputable def yf(a b:MT):MT:=λS=>cc (a S) λx=>if x.1=t_ then aK %[t_|x.2]else b x.2
noncomputable def wo(a:MT):MT:=λS=>(a S).map λx=>%[!x.1|x.2]
noncomputable def rIf(c:MT)(a b:ME):ME:=λS=>cc (c S) λx=>if x.1=t_ then a x.2 else b x.2
noncomputable def kIf(c:MT)(a b:MK):MK:=λS=>cc (c S) λx=>if x.1=t_ then a x.2 else b x.2
def WM(ha:SR K ta a)(u:SR K tb b):SR K (aam ta tb)<|IQ a b:=by
 intro H₀ n I S σ H J d L R e Q q;have(x,y,e):=oBq.mp e;show ha R y _ λz M Fs1 O s t l=>?_;split at e;.rename_i r;rw[r]at l;cases l;show(t_,rfl,Kd<|u t e Q λB P Fs2 C E R2 G=>q _ _ _ C (hU s E) R2 G)
 .rename_i r;rw[r]at l;cases l;cases e;show(f_,rfl,ID<|q _ _ _ _ s t IT)
 .cases e
def abk(ha:SR K ta a):SR K (aal ta)<|ack a:=by
 intro H₀ n C S σ H E d G R e Q q;have(x,s,e):=oBq.mp e;have(z,l,e):=oMq.mp e;cases e;show ha R s _ λt I Fs1 J u y r=>?_;cases B:x.1 <;> rw[B]at l r <;> simp?[Sm]at l;all_goals first|(simp at l;done)|skip
 cases r;cases l;show(_,rfl,q _ _ _ _ u y IT)
def Jf(ha:SR K ta a):Gy K (tB ta)<|rH a:=by
 intro H₀ l z S σ H B d C R e Q q;have(x,r,e):=oBq.mp e;show ha R r _ λs E Fs1 G t u n=>?_;split at e;.rename_i b y;rw[y]at n;cases n;cases e;show(_,rfl,q _ _ _ t u)
 .cases e
def rJ(ha:SR K ta a):Gy K (aaE ta)<|rH a:=Jf ha
def VQ(ha:Gy K ca ma)(t:Gy K cb mb):Gy K (ad1 ca cb)<|CL ma mb:=by
 intro H₀ n C S σ H E d G R e Q q;have(x,u,e):=oBq.mp e;show ha R u _ λy I Fs1 r s=>?_;split at e;.rename_i l;rw[l];show Kd<|t s e Q λz J Fs2 B R2=>q _ _ _ (hU r B) R2
 .rename_i l;cases e;rw[dq]at l;rw[l];show ID<|q _ _ _ r s
def FO(ha:Gy K ca ma)(t:Gy K cb mb):Gy K (tOr ca cb)<|yf ma mb:=by
 intro H₀ n C S σ H E d G R e Q q;have(x,u,e):=oBq.mp e;show ha R u _ λy I Fs1 r s=>?_;split at e;.rename_i l;cases e;rw[l];show Kd<|q _ _ _ r s
 .rename_i l;rw[dq]at l;rw[l];show ID<|t s e Q λz J Fs2 B R2=>q _ _ _ (hU r B) R2
def Kh(ha:Gy K ca ma):Gy K (ae8 ca)<|wo ma:=by intro H₀ l u S σ H y d z R e Q q;have(x,n,e):=oMq.mp e;cases e;show ha R n _ λr B Fs1 s t=>q _ _ _ s t
def ad6(y:Gy K ca ma)(ha:SR K ta a)(z:SR K tb b):SR K (tIf ca ta tb)<|rIf ma a b:=by
 intro H₀ n G S σ H I d J R e Q q;have(x,B,e):=oBq.mp e;show y R (b:=x.1) (S':=x.2) B _ λC L Fs1 t u=>?_;split at e;.rename_i l;rw[l];show Kd<|ha u e Q λr E Fs2 v s R2=>q _ _ _ v (hU t s) R2
 .rename_i l;rw[dq]at l;rw[l];show ID<|z u e Q λr E Fs2 v s R2=>q _ _ _ v (hU t s) R2
abbrev qZ:Nat:=16777216
def K5:kK=qZ:=lh
def SQ(K:Ζ)(te:TE)(m:ML):Prop:=∀{H₀ l t}{S}{σ}{H}{u}{ds}{S'},qI K H₀ l t S σ H u->m S=aK %[ds|S']->∀Q:VK,
 (∀n s r p vs,zW t H u n s r->qI K H₀ l n S' σ s r->sN K s p vs->qo K n ds vs->Q (cx p) s)->te σ H Q
def SL.q(h:SL K te m):SQ K te m:=by intro H₀ l z S σ H B C E R e Q q;show h R e Q λn G s p u t x y r=>q _ _ _ p u t x (kc y) r
def sX(i:Nat):ML:=λS=>match rg S[i]? with
 |aK (b8 (ov ns))=>aK %[ns.map bo|S]
 |aK (b8 (d9 ds))=>aK %[ds|S]
 |aK (el l)=>aK %[l.map pE|i8 S i<|aK<|el<|(l.map pE).map b8]
 |_=>n_
theorem wj:∀ns:Ϝ,qo K H (ns.map bo)<|ns.map c8
 | []=>.nil
 |n::ns=>.cons rE<|wj ns
set_option tactic.hygienic true in
def zV{K}i:SQ K (Ax i)<|sX i:=by
 intro H₀ n J S σ H L M O R e Q q;unfold sX at e;split at e;.rename_i B l;cases e;have(v,F,C,P,r):=R.rep i _<|qR l;cases (pR r).2 with
  |scr h=>show(_,C,q _ _ _ _ _ .refl R (R.sub.seq h)<|wj B)
 .rename_i E l;cases e;show BL i R ?_ Q λs G u p x t y z r=>q _ _ _ p x t y (kc z) r;unfold DT;rw[l]
 .rename_i I l;show BL i R ?_ Q λs G u p x t y z r=>q _ _ _ p x t y (kc z) r;unfold DT;rw[l];show e
 .cases e
def qF.stp(r:qF K Hf H as vs l)(s:∀q∈bf l,q∉bf Fs)(t:zW Hf H Fs Hf' H' Fs'):qF K Hf' H' as vs l:=(r.1,r.2.1,λi a v F h1 h2 n=>(r.2.2 i a v F h1 h2 n).stp (λq u=>s q<|e8 mFq (F,mGq n,u)) t)
def qI.layF(R:qI K H₀ Hf₀ Hf S σ H Fs)(l:H p=n_):zW Hf H Fs (rG Hf p o) (rG H p o) Fs/\qI K H₀ Hf₀ (rG Hf p o) S σ (rG H p o) Fs:=by
 have hf:=R.sub.free l;show((vR hf,vR l,λQ h=>h,λb h g=>?_),R.more (vR l) (vR hf) (λb u e=>?_) (λq n=>?_) λb h1 h2=>?_)
 .by_cases m:b=p;.subst m;show jB l
  .rw[pI m]at g;show absurd h g
 .by_cases m:b=p;.subst m;rw[pW]at e ⊢;show e
  .rw[pI m]at e ⊢;show R.sub b u e
 .rw[pI λe=>(R.mem n).1<|by rw[e];show l];show(R.mem n).2
 .rw[pI λe=>h2<|by rw[e];show R.fr.free l];show R.lim b h1 h2
noncomputable def pJ:MA:=λS=>aK %[[]|S]
noncomputable def oU(k:MK)(r:MA):MA:=λS=>cc (k S) λx=>(r x.2).map λy=>%[x.1::y.1|y.2]
noncomputable def oV:ML:=λS=>aK %[[]|S]
noncomputable def oQ(k:ME)(r:ML):ML:=λS=>cc (k S) λx=>(r x.2).map λy=>%[x.1::y.1|y.2]
def qw:SA K wV pJ:=by intro H₀ l n S σ H r s t R e Q q;cases e;show q _ _ _ [] [] .refl R .nil .nil
def pN(hk:SK K te k)(hr:SA K tr r):SA K (uK te tr)<|oU k r:=by intro H₀ l P S σ H U X Y R e Q q;have(x,C,e):=oBq.mp e;have(y,E,e):=oMq.mp e;cases e;show hk R C _ λn H1 Fs1 v F u G z s=>hr G E _ λI H2 Fs2 J L t R2 M B=>?_;show q _ _ _ (v::J) (F::L) (hU u t) R2 (.cons (z.stp s.out t) M) ?_;show(s.stp t).app (B.back u)<|s.apart (Hf1:=n) (λq O=>(y8 z q O).1) B
def qa:WJ K wV oV:=by intro H₀ l n S σ H r s t R e Q q;cases e;show q _ _ _ [] .refl R .nil
def pH(hk:SR K te k)(hr:WJ K tr r):WJ K (uK te tr)<|oQ k r:=by intro H₀ l J S σ H L M O R e Q q;have(x,s,e):=oBq.mp e;have(y,t,e):=oMq.mp e;cases e;show hk R s _ λu P Fs1 v z B C=>hr B t _ λE U Fs2 G n R2 I=>?_;show q _ _ _ (v::G) (hU z n) R2<|.cons (Qf C n.sh) I
def tF(a:MA):MK:=λS=>cc (a S) λx=>wa (aX x.1<=qZ)<|aK %[el x.1|x.2]
def EM(a:MA):MK:=λS=>cc (a S) λx=>wa (aX x.1<=qZ)<|aK %[b8<|eH<|x.1.map pE|x.2]
def xQ(ha:SA K ta a):SK K (abI ta)<|tF a:=by
 intro H₀ l J S σ H L M O R e Q q;have(x,z,e):=oBq.mp e;obtain⟨hl,e⟩|e:=qe e;.cases e;show ha R z _ λB P Fs1 U C s t n u=>(by rw[←n.1];show hl,λp r=>?_);have(y,R2,E,X,Y):=t.new r;show q _ _ _ (cx p) (p::bf C) (hU s y) R2 (Mw pW E<|n.stp u.out y) ?_;have G:=(q5 t r).back s;show(G.app u λq I m=>?_);rw[mSq.mp I]at m;show(n.owned p m).1 r
 .cases e
def Qb(ha:SA K ta a):SK K (ad7 ta)<|EM a:=by
 intro H₀ l I S σ H J L M R e Q q;have(x,s,e):=oBq.mp e;obtain⟨hl,e⟩|e:=qe e;.cases e;show ha R s _ λt O Fs1 P U u y n z=>(by rw[←n.1];show hl,λp B=>?_);have(R2,C,E):=y.gives u n z;have(r,G):=R2.layF B;show q _ _ _ (cx p) [] (hU E r) G (.sh<|.mk_tup pW<|C.mono r.sf) .nil
 .cases e
def EV(a b:ML):MK:=λS=>cc (a S) λx=>cc (b x.2) λy=>wa (aX x.1+aX y.1<=qZ)<|aK %[el<|(x.1++y.1).map b8|y.2]
def Dd(ha:SL K ta a)(C:SL K tb b):SK K (XX aew ta tb)<|EV a b:=by
 intro H₀ n Y S σ H Fs av S' R e Q q;have(x,E,e):=oBq.mp e;have(y,G,e):=oBq.mp e;obtain⟨hl,e⟩|e:=qe e;.cases e;show ha R E _ λI H1 Fs1 J r t L h1 u=>C L G _ λM H2 Fs2 O s l R2 h2 z=>?_;show(J,O,r,s,rfl,rfl,l.sh _ _ h1,h2,by rw[←u.1,←z.1];show hl,λp B=>?_);have(P,U,X,n2,n3):=R2.new B;show q _ _ _ (cx p) [p] (hU (hU t l) P) U (x4 pW X<|(u.mono l.sf).append z)<|(q5 R2 B).back<|hU t l
 .cases e
abbrev MO:=AS->Option (Option Int×AS)
def SO(K:Ζ)(to:TO)(m:MO):Prop:=∀{H₀ l t}{S}{σ}{H}{u}{o}{S'},qI K H₀ l t S σ H u->m S=aK %[o|S']->∀Q:Option Int->Hp->Prop,
 (∀n s r,zW t H u n s r->qI K H₀ l n S' σ s r->Q o s)->to σ H Q
noncomputable def xT:MO:=λS=>aK %[n_|S]
noncomputable def tX(m:ME):MO:=λS=>cc (m S) λx=>match x.1 with
 | bo i=>aK %[aK i|x.2]
 |_=>n_
def Ak{α:Type}(xs:List α)(lo l:Option Int):List α:=(xs.drop<|p5 (aX xs) 0 lo).take<|p5 (aX xs) (aX xs) l-p5 (aX xs) 0 lo
def JZ(l:ML)(lo n:MO):MK:=λS=>cc (l S) λx=>cc (lo x.2) λy=>(n y.2).map λz=>%[el<|(Ak x.1 y.1 z.1).map b8|z.2]
def Ln:SO K Rz xT:=by intro H₀ n r S σ H s o t R e Q q;cases e;show q _ _ _ .refl R
set_option tactic.hygienic true in
def Co(h:SR K te m):SO K (aaj te)<|tX m:=by
 intro H₀ n B S σ H C o E R e Q q;have(x,s,e):=oBq.mp e;show h R s _ λt G Fs1 v u y r=>?_;split at e;.rename_i i z;rw[z]at r;cases r;cases e;show(i,rfl,q _ _ _ u y)
 .cases e
def qo.cut(r:qo K H ds vs)lo hi:qo K H (Ak ds lo hi)<|VY vs lo hi:=by unfold Ak VY;rw[r.1];show(r.drop _).take _
def UC(hl:SQ K te l)(s:SO K tl lo)(t:SO K th hi):SK K (tSl (ae3 K) te tl th)<|JZ l lo hi:=by intro H₀ u Hf S σ H Fs av S' R e Q q;have(x,I,e):=oBq.mp e;have(y,J,e):=oBq.mp e;have(z,L,e):=oMq.mp e;cases e;show hl R I _ λM H1 Fs1 O B C P h1 U=>s P J _ λX H2 Fs2 n R2=>t R2 L _ λY H3 Fs3 r E=>?_;show(O,B,rfl,(eM n.sh r.sh).seq h1,λp G=>?_);have(t4,R4,n1,n2,n3):=E.new G;show q _ _ _ (cx p) [p] (hU (hU (hU C n) r) t4) R4 (x4 pW n1<|(U.mono<|eM n.sf r.sf).cut _ _)<|(q5 E G).back<|hU (hU C n) r
def DF:D->D->Option D
 | d9 ds,bo i=>atI ds i
 | ov ns,bo i=>(atI ns i).map bo
 |_,_=>n_
def vE:D->D->Option D
 | eH ds,bo i=>atI ds i
 |_,_=>n_
def NY(l:ML)(b:ME):MK:=λS=>cc (l S) λx=>cc (b x.2) λy=>match y.1 with
 | bo i=>(atI x.1 i).map λd=>%[b8 d|y.2]
 |_=>n_
def acC(k:MK)(b:ME):MK:=λS=>cc (k S) λx=>cc (b x.2) λy=>match x.1,y.1 with
 | b8 (eH ds),bo i=>(atI ds i).map λd=>%[b8 d|y.2]
 |_,_=>n_
def qo.atI(r:qo K H ds vs)(h:L2.atI ds i=aK d):∃v,L2.atI vs i=aK v/\rq K H d v:=by unfold L2.atI at h ⊢;rw[r.1]at h;have(j,h1,h2):=oBq.mp h;rw[h1];show r.get h2
set_option tactic.hygienic true
def Fu:Ex K (UV K) DF:=by
 intro x y H Q I J d s t e q;unfold DF at e;split at e;.rename_i L i;cases t;have(p,z,rfl,h,r):=l5 s;have(l,B):=r;have(v,h1,h2):=qo.atI (l,B) e;show(p,z,i,v,rfl,rfl,kc h,h1,q v h2)
 .rename_i u i;cases t;cases s;rename_i p h;have(n,h1,h2):=oMq.mp e;subst h2;have(v,C,E):=qo.atI (wj u) (by unfold L2.atI at h1 ⊢;rw[lMq];have(j,G,g2):=oBq.mp h1;rw[G];change(u.map D.int)[j]?=_;rw[gMq,g2];rfl);show(p,_,i,v,rfl,rfl,h,C,q v E)
 .cases e
def yw:Ex K (ZY K) vE:=by
 intro x y H Q t u d l n e q;unfold vE at e;split at e;.rename_i z i;cases n;have(p,s,rfl,h,r):=l.tup_inv;have(v,h1,h2):=qo.atI r e;show(p,s,i,v,rfl,rfl,o8 h,h1,q v h2)
 .cases e
def aeZ(hl:SQ K ta l)(u:SR K tb b):SK K (XX (UV K) ta tb)<|NY l b:=by
 intro H₀ n U S σ H X Y S' R e Q q;have(x,z,e):=oBq.mp e;have(y,B,e):=oBq.mp e;show hl R z _ λC H1 Fs1 E r G I h1 J=>u I B _ λL H2 Fs2 v2 s R2 t=>?_;split at e;.rename_i i M;rw[M]at t;cases t;have(d,O,e):=oMq.mp e;cases e;have(v,P,g2):=(J.mono s.sf).atI O;show(E,r,i,v,rfl,rfl,s.sh.seq h1,P,q _ _ _ v [] (G.trans s) R2 (.sh g2) .nil)
 .cases e
def abJ(hk:SK K ta k)(t:SR K tb b):SK K (XX (ZY K) ta tb)<|acC k b:=by
 intro H₀ l P S σ H U X Y R e Q q;have(x,u,e):=oBq.mp e;have(y,z,e):=oBq.mp e;show hk R (a:=x.1) (S':=x.2) u _ λB H1 Fs1 v1 F C E n o1=>t E (d:=y.1) (S':=y.2) z _ λG H2 Fs2 v2 r R2 s=>?_;split at e;.rename_i ds i I J;rw[J]at s;rw[I]at n;cases s;have(d,L,e):=oMq.mp e;cases e;have(p,M,rfl,h1,h2):=(Qf (pR n).2 r.sf).tup_inv;have(v,O,g2):=h2.atI L;show(p,M,i,v,rfl,rfl,zd.of<|R2.sub _ _ h1,O,q _ _ _ v [] (C.trans r) R2 (.sh g2) .nil)
 .cases e
set_option tactic.hygienic false
def S0(K:Ζ)(r:List V->Hp->VK->Prop)(f:List D->Option D):Prop:=∀{vs}{H}{Q}{ds}{d},qo K H ds vs->f ds=aK d->(∀v,rq K H d v->Q v H)->r vs H Q
noncomputable def tY(f:List D->Option D)(a:ML):ME:=λS=>cc (a S) λx=>(f x.1).map λd=>%[d|x.2]
def wQ(hr:S0 K r f)(ha:WJ K n a):SR K (Ng r n)<|tY f a:=by intro H₀ l G S σ H I d J R e Q q;have(x,s,e):=oBq.mp e;have(z,t,e):=oMq.mp e;cases e;show ha R s _ λu L Fs1 M y B C=>hr C t λv E=>q _ _ _ v y B E
def qV:List D->Option D
 | [d9 ds]=>aK<|bo<|aX ds
 | [eH ds]=>aK<|bo<|aX ds
 | [ov ns]=>aK<|bo<|aX ns
 | [j5 x]=>wa (x.length<=qZ)<|aK<|bo x.length
 |_=>n_
noncomputable def Bj:List D->Option D
 | [mA ds]=>aK<|bo<|aX ds
 |_=>n_
noncomputable def aha:List D->Option D
 | [bo i]=>aK<|bo<|if i<0 then -i else i
 |_=>n_
noncomputable def agW:List D->Option D
 | [bo i,bo j]=>aK<|bo<|if j>i then j else i
 |_=>n_
noncomputable def LS:List D->Option D
 | [bo i,bo j]=>aK<|bo<|if j<i then j else i
 |_=>n_
noncomputable def agv:List D->Option D
 | [bo i]=>aK<|bo i
 | [fb k]=>aK<|bo<|if k then 1 else 0
 |_=>n_
noncomputable def isT:D->String->Option D
 | bo _,T=>if T = "int" then aK (fb t_)else if T = "bool" then aK (fb f_)else n_
 | fb _,T=>if T = "bool" ∨ T = "int" then aK (fb t_)else n_
 | j5 _,T=>if T = "str" then aK (fb t_)else n_
 | d9 _,T=>if T = "list" then aK (fb t_)else n_
 | eH _,T=>if T = "tuple" then aK (fb t_)else n_
 | mA _,T=>if T = "dict" then aK (fb t_)else n_
 |_,_=>n_
def zZ:List D->Option D
 | [x,.ty T]=>isT x T
 |_=>n_
noncomputable def su:List D->Option Ϝ
 | []=>aK []
 | bo i::ds=>(su ds).map (i :: ·)
 |_=>n_
theorem uZ:∀{ds}{ns},su ds=aK ns->ds=ns.map bo
 | [],ns,h=>by cases h;rfl
 |d::ds,ns,h=>by cases d with
  |int i=>have(l,h1,h2):=oMq.mp<|h;subst h2;rw[uZ h1];rfl
  |_=>cases h
@[simp] theorem rP ns:su (ns.map bo)=aK ns:=by induction ns with
 |nil=>rfl
 |cons n ns l=>change(su<|ns.map bo).map (n :: ·)=_;rw[l];rfl
theorem qP:∀{ns:Ϝ}{vs},qo K H (ns.map bo) vs->vs=ns.map c8
 | [],vs,h=>h8 h
 |n::ns,vs,h=>by have(v,l,rfl,h1,h2):=eC h;cases h1;rw[qP h2];rfl
noncomputable def DD:Ϝ->Option Int
 | []=>n_
 |n::ns=>aK<|ns.foldl min n
theorem vP:∀(ns:Ϝ) n,ns.foldl min n∈n::ns
 | [],n=>by simp
 |m::ns,n=>by
  have h:=vP ns<|min n m;rw[bK];obtain e|e:=ag.mp h
  .rw[e];by_cases c:n<=m;.rw[Int.min_eq_left c];simp
   .rw[Int.min_eq_right ∅];simp
  .show mCo _<|mCo _ e
theorem wK:∀(ns:Ϝ) n,(ns.foldl min n<=n)/\∀x∈ns,ns.foldl min n<=x
 | [],n=>(gw _,λx h=>by cases h)
 |m::ns,n=>by
  have(h1,h2):=wK ns<|min n m;rw[bK];show(by lia,λx l=>?_);obtain e|e:=ag.mp l;.lia
  .show h2 x e
def ZK:List D->Option D
 | [d9 ds]=>cc (su ds) λns=>(DD ns).map bo
 |_=>n_
def EH:S0 K (λxs H Q=>∃x n,xs=[x]/\aeJ K x H n/\Q (c8 n) H) qV:=by
 intro y H Q z d r e q;unfold qV at e;split at e;.have(v,l,rfl,h1,h2):=eC r;rw[h8 h2];have(p,s,rfl,t,u):=l5 h1;cases e;show(_,_,rfl,jB (s,kc t,u.1),q _ rE)
 .have(v,l,rfl,h1,h2):=eC r;rw[h8 h2];have(p,s,rfl,t,u):=h1.tup_inv;cases e;show(_,_,rfl,ir (s,o8 t,u.1),q _ rE)
 .have(v,l,rfl,h1,h2):=eC r;rw[h8 h2];cases e;cases h1 with
  |scr h=>show(_,_,rfl,jB (_,h,fQ<|lMq _),q _ rE)
 .obtain⟨hl,e⟩|e:=qe e;.have(v,l,rfl,h1,h2):=eC r;rw[h8 h2];cases e;cases h1;show(_,_,rfl,(by show hl,rfl),q _ rE)
  .cases e
 .cases e
def AZ:S0 K (λxs H Q=>∃a kvs,xs=[cx a]/\H a=aK (nB kvs)/\Q (c8<|aX kvs) H) Bj:=by
 intro s H Q t d r e q;unfold Bj at e;split at e;.have(v,u,rfl,h1,h2):=eC r;rw[h8 h2];have(p,x,rfl,l,n):=h1.dict_inv;cases e;have hl:=congrArg aX n.1;rw[lMq,lMq]at hl;rw[hl]at q;show(_,_,rfl,l,q _ rE)
 .cases e
def Yf:S0 K (λxs H Q=>∃i j,xs=[c8 i,c8 j]/\Q (c8<|if j<i then j else i) H) LS:=by
 intro s H Q t d r e q;unfold LS at e;split at e;.have(v,x,rfl,h1,h2):=eC r;have(u,y,rfl,l,n):=eC h2;rw[h8 n];cases h1;cases l;cases e;show(_,_,rfl,q _ rE)
 .cases e
def ac8:S0 K (λxs H Q=>∃(a:Addr) (ns:Ϝ),xs=[cx a]/\sN K H a (ns.map c8)/\0<aX ns/\∀M,M∈ns->(∀x,x∈ns->M<=x)->Q (c8 M) H) ZK:=by
 intro G H Q I d r e q;unfold ZK at e;split at e;.have(v,J,rfl,h1,h2):=eC r;rw[h8 h2];have(ns,u,e):=oBq.mp e;have(m,l,e):=oMq.mp e;cases e;rw[uZ u]at h1;have(p,L,rfl,s,y):=l5 h1;rw[qP y]at s;cases ns with
  |nil=>cases l
  |cons n ns=>
   cases l;show(p,_,rfl,kc s,by simp,λM B C=>?_);have E:M=ns.foldl min n:=by
    have O:=C _<|vP ns n;have t:=wK ns n;have P:ns.foldl min n<=M:=by
     obtain z|z:=ag.mp B;.cases z;show t.1
     .show t.2 M z
    lia
   rw[E];show q _ rE
 .cases e
set_option tactic.hygienic true in
def Vc:S0 K (λxs H Q=>∃x T b,xs=[x,.ty T]/\aaV K x H T b/\Q (lR b) H) zZ:=by
 intro B H Q C d r e q;unfold zZ at e;split at e;rotate_left;.cases e
 rename_i x T;have(v,E,rfl,h1,h2):=eC r;have(u,G,rfl,y,z):=eC h2;rw[h8 z];cases y;unfold isT at e;cases x <;> first|(cases e;)|dsimp only at e
 case int=>
  cases h1;split at e;.rename_i l;cases e;show(_,_,_,rfl,.inl (l,rfl),q _ .bl)
  .split at e;.rename_i l;cases e;show(_,_,_,rfl,.inr (l,rfl),q _ .bl)
   .cases e
 case bl=>
  cases h1;split at e
  .rename_i l;cases e;obtain l|l:=l;.show(_,_,_,rfl,.inl (l,rfl),q _ .bl)
   .show(_,_,_,rfl,.inr (l,rfl),q _ .bl)
  .cases e
 case str=>
  cases h1;split at e;.rename_i l;cases e;show(_,_,_,rfl,(l,rfl),q _ .bl)
  .cases e
 case list=>
  have(p,n,rfl,s,t):=h1.list_inv;split at e;.rename_i l;cases e;show(_,_,_,rfl,.inl (l,rfl,n,sN.of s),q _ .bl)
  .cases e
 case tup=>
  have(p,n,rfl,s,t):=h1.tup_inv;split at e;.rename_i l;cases e;show(_,_,_,rfl,.inr<|.inr (l,rfl,n,zd.of s),q _ .bl)
  .cases e
 case dict=>
  have(p,n,rfl,s,t):=h1.dict_inv;split at e;.rename_i l;cases e;show(_,_,_,rfl,.inr<|.inl (l,rfl,n,s),q _ .bl)
  .cases e
abbrev MF:=List D->Option AV
def sH(K:Ζ)(f:MF):Sp:=λvs H Q Z=>∃n ds a,qk n H/\qo K n ds vs/\f ds=aK a /\
 ∀l r v F,qk n l->qk H r->qk l r->(∀b,n b=n_->H b≠n_->l b=n_)->qA K l r a v F->c9 F->(∀q∈F,H q=n_)->Q v r
def pQ(f:MF)(a:MA):MK:=λS=>cc (a S) λx=>(f<|x.1.map pE).map λr=>%[r|x.2]
def qS(ha:SA K B a):SK K (Mv (sH K f) [] E0 B)<|pQ f a:=by
 intro H₀ s Hf S σ H Fs I S' R e Q q;have(x,J,e):=oBq.mp e;have(z,L,e):=oMq.mp e;cases e;show ha R J _ λt u Fs1 vs M C O P U=>?_;have(R2,X,Y):=O.gives C P U;rw[aNq];show(_,_,I,R2.sub,X,L,λy H' v F E G s3 l r nd fr=>?_);have t3:zW (Z.frz t u<|bf M) u Fs1 y H' Fs1:=(E,G,λW h=>h,λb h g=>jB (by
  by_cases e:u b=n_;.show e
  .show absurd (l b h e) g));have hn:=λq n=>l q (R2.mem n).2 (R2.mem n).1;have R3:=R2.more G E s3 hn λb h1 h2=>l b (R2.lim b h1 h2)<|ZZ R2.fr h2;show q _ _ _ v F (hU Y t3) R3 r (nd,λq n=>R2.fr.free<|fr q n,λq n m=>(R2.mem m).1<|fr q n,λq n=>jB<|C.sh.free<|fr q n)
inductive RM where
 |nx (S:AS)|rt (a:AV)|bk (S:AS)|ct (S:AS)
open Z.RM renaming nx->k4
abbrev MS:=AS->Option RM
def Jp(K:Ζ)(H₀ n u:Hp)(D:BD):RM->Prop
 | k4 S=>∀l r s t,qk u l->qI K H₀ n l S r s t->D.nx r s
 | .bk S=>∀l r s t,qk u l->qI K H₀ n l S r s t->D.bk r s
 | .ct S=>∀l r s t,qk u l->qI K H₀ n l S r s t->D.ct r s
 | .rt a=>∀l s v F,qk n l->qk H₀ s->qk l s->(∀b,n b=n_->H₀ b≠n_->l b=n_)->qA K l s a v F->c9 F->(∀q∈F,H₀ q=n_)->D.rt v s
def SS(K:Ζ)(t:TS)(m:MS):Prop:=∀{H₀ l n}{S}{σ}{H}{r}{o},qI K H₀ l n S σ H r->m S=aK o->∀D:BD,Jp K H₀ l n D o->t D σ H
def Jp.mono{D}(s:qk z u)(h:Jp K H₀ l z D o):Jp K H₀ l u D o:=by cases o with
 |nx S=>show λn r x t y R=>h n r x t (eM s y) R
 |bk S=>show λn r x t y R=>h n r x t (eM s y) R
 |ct S=>show λn r x t y R=>h n r x t (eM s y) R
 |rt a=>show h
def qm:MS:=λS=>aK<|k4 S
def afJ:MS:=λS=>aK<|.bk S
def agK:MS:=λS=>aK<|.ct S
noncomputable def K8:MS:=λQ=>n_
noncomputable def oZ(a b:MS):MS:=λS=>cc (a S) λo=>match o with
 | k4 S'=>b S'
 |o=>aK o
noncomputable def pX(i:Nat)(k:MK):MS:=λS=>(k S).map λx=>k4<|i8 x.2 i<|aK x.1
noncomputable def Vr(k:MK):MS:=λS=>(k S).map λx=>k4 x.2
noncomputable def qB(k:MK):MS:=λS=>(k S).map λx=>.rt x.1
noncomputable def wz(c:MT)(a b:MS):MS:=λS=>cc (c S) λx=>if x.1=t_ then a x.2 else b x.2
def ux:SS K aac qm:=by intro H₀ l n S σ H r o R e D h;cases e;show h _ _ _ _ (j9 _) R
def WC:SS K V0 K8:=by intro H₀ l n S σ H r o R e D h;cases e
def qc(ha:SS K t a)(n:SS K u b):SS K (U4 t u)<|oZ a b:=by intro H₀ l E S σ H G o R e D h;have(x,r,e):=oBq.mp e;show ha R r _ ?_;cases x with
 |nx I=>show λy z J B s C=>n C e D<|h.mono s
 |rt a=>cases e;show h
 |bk a=>cases e;show h
 |ct a=>cases e;show h
def qK(hk:SK K te k):SS K (Hk te<|uv i)<|pX i k:=by intro H₀ l E S σ H G o R e D h;have(x,s,e):=oMq.mp e;cases e;show hk R s _ λy I Fs1 v F z B C n=>?_;show h _ _ _ _ z.sf<|B.set i C n.nd λq r=>(n.fr q r,n.out q r)
def Zj(hk:SK K te k):SS K (CM te)<|Vr k:=by intro H₀ l z S σ H B o R e D h;have(x,n,e):=oMq.mp e;cases e;show hk R n _ λr C Fs1 v F s y E G=>h _ _ _ _ s.sf y
def uH(hk:SK K te k):SS K (aeo te)<|qB k:=by intro H₀ n B S σ H C o R e D h;have(x,s,e):=oMq.mp e;cases e;show hk R s _ λy E Fs1 v F G l z r=>h _ _ v F l.sf l.fr l.sub l.lim z r.nd r.fr
def wO(y:Gy K c m)(ha:SS K t a)(z:SS K u b):SS K (Y6 c t u)<|wz m a b:=by
 intro H₀ n E S σ H G o R e D h;have(x,B,e):=oBq.mp e;show y R B _ λC I Fs1 r s=>?_;split at e;.rename_i l;rw[l];show Kd<|ha s e D<|h.mono r.sf
 .rename_i l;rw[dq]at l;rw[l];show ID<|z s e D<|h.mono r.sf
noncomputable def tD(S:AS)(i:Nat):Option<|List AV:=match rg S[i]? with
 |aK (el l)=>aK l
 |_=>n_
noncomputable def xO(S:AS)(i:Nat):Option<|List<|pZ×D:=match rg S[i]? with
 |aK (eu kvs)=>aK kvs
 |_=>n_
def zS(i:Nat)(k:MK):MS:=λS=>cc (tD S i) λQ=>cc (k S) λx=>cc (tD x.2 i) λl=>wa (aX l<qZ)<|aK<|k4<|i8 x.2 i<|aK<|el<|l++[x.1]
def LZ(i:Nat)(l:ML):MS:=λS=>cc (tD S i) λQ=>cc (l S) λx=>cc (tD x.2 i) λn=>wa (aX n+aX x.1<=qZ)<|aK<|k4<|i8 x.2 i<|aK<|el<|n++x.1.map b8
noncomputable def intOf:D->Option Int
 | bo i=>aK i
 |_=>n_
def ahg(i:Nat)(b:ME)(k:MK):MS:=λS=>cc (vN k S) λx=>cc (tD x.2 i) λQ=>cc (b x.2) λy=>cc (tD y.2 i) λl=>cc (intOf y.1) λj=>(LV (aX l) j).map λn=>k4<|i8 y.2 i<|aK<|el<|(i8 (l.map pE) n<|pE x.1).map b8
noncomputable def xI:D->Option pZ
 | bo i=>aK<|ak i
 | j5 x=>aK<|iy x
 |_=>n_
noncomputable def xj(kvs:List<|pZ×D)(k:pZ)(d:D):List<|pZ×D:=if kvs.any (λkv=>decide<|kv.1=k)then kvs.map (λkv=>if kv.1=k then %[kv.1|d]else kv)else kvs++[%[k|d]]
noncomputable def getD(kvs:List<|pZ×D)(k:pZ):Option D:=(kvs.find? λkv=>decide<|kv.1=k).map (·.2)
def xS(i:Nat)(b:ME)(k:MK):MS:=λS=>cc (vN k S) λx=>cc (xO x.2 i) λQ=>cc (b x.2) λy=>cc (xO y.2 i) λkvs=>cc (xI y.1) λkey=>wa (aX kvs<qZ)<|aK<|k4<|i8 y.2 i<|aK<|eu<|xj kvs key<|pE x.1
section
variable {Fs:List Δ}
def qI.turn(R:qI K H₀ Hf₀ Hf S σ H Fs)(E:σ[i]?=aK (aK<|cx p))(C:Fs[i]?=aK F)(s:p∈F)(r:qA K Hf (rG H p o) B (cx p) x)(nd:c9 x)
  (hf:∀q∈x,H₀ q=n_/\q∉bf (i8 Fs i [])):qI K H₀ Hf₀ Hf (i8 S i<|aK B) σ (rG H p o)<|i8 Fs i x:=by
 have t:=e8 mFq (F,mGq C,s);have pn:=(R.mem t).2;have I:=R.fresh p t;have out:=wL R.nd C s;have J:qI K H₀ Hf₀ Hf (i8 S i n_) σ (rG H p o)<|i8 Fs i []:=by
  show(by simp[R.len],by simp[R.lenF],λj a n=>?_,λj n=>?_,uB i R.nd aW (λp s=>by cases s),λp s=>R.fresh p<|tJ s,λb u e=>?_,λb u e=>?_,R.lim,R.sf)
  .rw[bM]at n;by_cases l:i=j;.subst l;rw[qz rfl]at n;split at n <;> cases n
   .rw[qE l]at n;have(w,G,f1,f2,q):=R.rep j a n;show(w,G,f1,by rw[aJ l];show f2,q.keep (j9 _) (λc y=>pI λe=>out ?_) λc y=>(y8 q c y).2);cases e;show e8 mFq (G,mGq<|by rw[aJ l];show f2,y)
  .rw[bM]at n;by_cases l:i=j
   .subst l;rw[qz rfl]at n;split at n;.rename_i L;rw[aV<|fQ R.lenF ▸ L]
    .cases n
   .rw[qE l]at n;rw[aJ l];show R.emp j n
  .rw[pI λz=>by rw[z,pn]at e;cases e];show R.sub b u e
  .rw[pI λz=>by rw[z,I]at e;cases e];show R.fr b u e
 show J.again (F:=F) E r nd hf
def rB{i:Nat}(l:Fs[i]?=aK F)(h:q∈F):q∈bf Fs:=e8 mFq (F,mGq l,h)
def qF.snoc(r:qF K Hf H as vs y)(s:qA K Hf H a v F):qF K Hf H (as++[a]) (vs++[v])<|y++[F]:=by
 have(h1,h2,z):=r;show(by simp[h1],by simp[h2],λi b w G l n t=>?_);by_cases u:i<aX as;.rw[gZq u]at l;rw[gZq<|h1 ▸ u]at n;rw[gZq<|h2 ▸ u]at t;show z i b w G l n t
 .have x:i=aX as:=by have:=(gSq.mp l).1;rw[lAq,lSq]at this;lia
  subst x;rw[gYq<|ab _,eU]at l;rw[h1,gYq<|ab _,eU]at n;rw[h2,gYq<|ab _,eU]at t;cases l;cases n;cases t;show s
def qF.keepUpd(r:qF K Hf H as vs l)(t:p∉bf l):qF K Hf (rG H p o) as vs l:=(r.1,r.2.1,λi a v F h1 h2 s=>by have q:=r.2.2 i a v F h1 h2 s;show q.keep (j9 _) (λc n=>pI λe=>t ?_) λc n=>(y8 q c n).2;subst e;show e8 mFq (F,mGq s,n))
def qA.keepUpd(q:qA K Hf H a v F)(n:p∉F):qA K Hf (rG H p o) a v F:=q.keep (j9 _) (λc l=>pI λe=>n<|e ▸ l) λc l=>(y8 q c l).2
def Ru(r:qo K Hf ds vs):qF K Hf H (ds.map b8) vs<|aF (aX ds) []:=(by simp[r.1],by simp,λi a v F h1 h2 l=>by rw[gMq]at h1;cases q:ds[i]? with
  |none=>rw[q]at h1;cases h1
  |some d=>rw[q]at h1;cases h1;have:=fW<|mGq l;subst this;show .sh<|r.2 i d v q h2)
def qF.append(r:qF K Hf H as vs x)(s:qF K Hf H bs ws y):qF K Hf H (as++bs) (vs++ws)<|x++y:=by
 have(h1,h2,z):=r;show(by simp[h1,s.1],by simp[h2,s.2.1],λi b w G l n t=>?_);by_cases u:i<aX as;.rw[gZq u]at l;rw[gZq<|h1 ▸ u]at n;rw[gZq<|h2 ▸ u]at t;show z i b w G l n t
 .rw[gYq<|by rfl']at l;rw[gYq ∅,←h1]at n;rw[gYq ∅,←h2]at t;show s.2.2 _ b w G l n t
end
set_option tactic.hygienic true in
def qL(h:tD S i=aK n):S[i]?=aK (aK<|el n):=by
 unfold tD at h;split at h;.rename_i z e;cases h;show qR e
 .cases h
set_option tactic.hygienic true in
def AK(h:xO S i=aK kvs):S[i]?=aK (aK<|eu kvs):=by
 unfold xO at h;split at h;.rename_i z e;cases h;show qR e
 .cases h
def qI.ow(R:qI K H₀ n u S σ H x)(h:S[i]?=aK (aK<|el t)):∃p vs s,σ[i]?=aK (aK<|cx p)/\x[i]?=aK (p::bf s)/\H p=aK (et vs)/\u p=n_/\qF K u H t vs s /\
  p∉bf s/\c9 (bf s)/\∀q∈p::bf s,H₀ q=n_/\q∉bf (i8 x i []):=by have(v,F,y,z,r,nd,o,_):=R.move h;have(p,vs,s,rfl,rfl,h1,h2,B):=r.ow_inv;show(p,vs,s,y,z,h1,h2,B,(az.mp nd).1,(az.mp nd).2,o)
def OD(hk:SK K te k):SS K (CM<|Ui K "list" Cz (Ax i)<|uK te wV)<|zS i k:=by
 intro H₀ B Hf S σ H Fs o R e D h;have(a0,P,e):=oBq.mp e;have(x,Q,e):=oBq.mp e;have(U,X,e):=oBq.mp e;obtain⟨hl,e⟩|e:=qe e
 .cases e;have(p,Y,Gs,C,_,h1,_):=R.ow<|qL P;show(cx p,C,jB (rfl,Y,kc h1),hk R Q _ λHf1 H1 Fs1 v F t1 L r1 r=>?_);have(p',E,Gs',s,n,G,I,t,u,J,y):=L.ow<|qL X;rw[C]at s;cases s;have M:=λm=>r.out p m<|rB n ⋯;show(p,E,v,rfl,rfl,G,by rw[←t.1];show hl,h _ _ _ _ t1.sf<|L.turn C n ⋯ (Mw pW I<|(t.keepUpd u).snoc<|r1.keepUpd M) ?_ λq O=>?_);.rw[fAq,aB];show e8 az (λm=>(mAq.mp m).elim u M,e8 nAq (J,r.nd,λa ha b hb e=>r.out b hb<|rB n<|mCo _<|e ▸ ha))
  .rw[fAq,aB]at O;obtain z|z:=ag.mp O;.show y q<|by rw[z];simp
   .obtain z|z:=mAq.mp z;.show y q<|mCo _ z
    .show(r.fr q z,λm=>r.out q z<|tJ m)
 .cases e
def OO(hl:SL K te l):SS K (CM<|Ui K "list" Rw (Ax i)<|uK te wV)<|LZ i l:=by
 intro H₀ t Hf S σ H Fs o R e D h;have(a0,O,e):=oBq.mp e;have(x,P,e):=oBq.mp e;have(Q,U,e):=oBq.mp e;obtain⟨u,e⟩|e:=qe e
 .cases e;have(p,X,Gs,y,_,h1,_):=R.ow<|qL O;show(cx p,y,jB (rfl,X,kc h1),hl R P _ λY H1 Fs1 b ws t1 J hb L=>?_);have(p',z,Gs',n,B,C,E,r,s,G,I):=J.ow<|qL U;rw[y]at n;cases n;show(p,b,z,ws,rfl,rfl,C,hb,by rw[←r.1,←L.1];show u,h _ _ _ _ t1.sf<|J.turn y B ⋯ (Mw pW E<|(r.keepUpd s).append<|Ru L) ?_ λq M=>?_);.rw[fAq,wg,aNq];show e8 az (s,G)
  .rw[fAq,wg,aNq]at M;show I q M
 .cases e
theorem Ej:∀{ds}{kvs}{key},vM K H ds kvs->match getD ds key with
  |aK d=>∃v,DR kvs key=aK v/\rq K H d v
  |n_=>DR kvs key=n_
 | [],kvs,key,h=>by
  have:kvs=[]:=by have:=congrArg aX h.1;simpa using fQ this
  subst this;rfl
 |d::ds,[],key,h=>by have:=congrArg aX h.1;simp at this
 |d::ds,v::kvs,key,h=>by
  have h1:d.1=v.1/\ds.map (·.1)=kvs.map (·.1):=by have:=h.1;simpa using this
  have h2:rq K H d.2 v.2:=h.2 0 d v rfl rfl;have ht:vM K H ds kvs:=(h1.2,λi a b n r=>h.2 (i+1) a b (by show n)<|by show r);unfold getD DR;by_cases c:d.1=key;.rw[bW<|by simp[c],bW<|by simp[←h1.1,c]];show(v.2,rfl,h2)
  .rw[bP<|by simp[c],bP<|by simp[←h1.1,c]];show Ej ht
def As(h:xI d=aK key)(r:rq K H d v):v=kV key:=by
 cases r <;> simp?[xI]at h;all_goals first|(simp at h;done)|skip
 all_goals (cases h;rfl)
def vM.key(h:vM K H ds kvs){i:Nat}(n:ds[i]?=aK d)(r:kvs[i]?=aK v):d.1=v.1:=by have:=congrArg (λl=>l[i]?) h.1;simp?[gMq,n,r,bJ]at this;show aK.inj this
def vM.len(h:vM K H ds kvs):aX ds=aX kvs:=by have:=congrArg aX h.1;simpa using this
def Oa(h:vM K H ds kvs)(r:rq K H d v):vM K H (xj ds key d)<|zh kvs key v:=by
 have ha:(ds.any λkv=>decide<|kv.1=key)=kvs.any λkv=>decide<|kv.1=key:=by
  have n:(ds.any λkv=>decide<|kv.1=key)=(ds.map (·.1)).any λk=>decide<|k=key:=by rw[jo];rfl
  have s:(kvs.any λkv=>decide<|kv.1=key)=(kvs.map (·.1)).any λk=>decide<|k=key:=by rw[jo];rfl
  rw[n,s,h.1]
 unfold xj zh;rw[ha];split
 .show(?_,λi a b n s=>?_)
  .rw[mPq,mPq];have n:((λkv=>kv.1)∘λkv=>if kv.1=key then %[kv.1|d]else kv)=λkv=>kv.1:=by funext kv;change(if kv.1=key then %[kv.1|d]else kv).1=kv.1;split <;> rfl
   have s:((λkv=>kv.1)∘λkv=>if kv.1=key then %[kv.1|v]else kv)=λkv=>kv.1:=by funext kv;change(if kv.1=key then %[kv.1|v]else kv).1=kv.1;split <;> rfl
   rw[n,s];show h.1
  .rw[gMq]at n s;have(u,f1,rfl):=oMq.mp n;have(y,f2,rfl):=oMq.mp s;have hk:=h.key f1 f2;by_cases c:u.1=key;.rw[qz c,qz<|hk ▸ c];show r
   .rw[qE c,qE<|hk ▸ c];show h.2 i u y f1 f2
 .show(by rw[mBq,mBq,h.1];rfl,λi a b n s=>?_);by_cases x:i<aX ds;.rw[gZq x]at n;rw[gZq<|h.len ▸ x]at s;show h.2 i a b n s
  .have t:i=aX ds:=by have:=(gSq.mp n).1;rw[lAq,lSq]at this;lia
   subst t;rw[gYq<|ab _,eU]at n;rw[h.len,gYq<|ab _,eU]at s;cases n;cases s;show r
noncomputable def C2:MK:=λS=>aK %[eu []|S]
def J0:SK K We C2:=by intro H₀ n u S σ H x y z R e Q q;cases e;intro p r;have(t,R2,s,B,C):=R.new r;show q _ _ _ (cx p) [p] t R2 (.owd pW s (rfl,λi d v h=>by simp at h))<|q5 R r
def qI.owd(R:qI K H₀ n s S σ H t)(h:S[i]?=aK (aK<|eu ds)):∃p kvs,σ[i]?=aK (aK<|cx p)/\t[i]?=aK [p]/\H p=aK (nB kvs)/\s p=n_/\vM K s ds kvs /\
  H₀ p=n_/\p∉bf (i8 t i []):=by have(v,F,u,x,r,nd,o,_):=R.move h;have(p,kvs,rfl,rfl,h1,h2,y):=r.owd_inv;show(p,kvs,u,x,h1,h2,y,(o p ⋯).1,(o p ⋯).2)
def Gf(hk:SK K te k)(P:SR K tb b):SS K (aav (Ax i) tb te)<|xS i b k:=by
 intro H₀ t Hf S σ H Fs o R e D h;have(x,J,e):=oBq.mp e;have(a0,Q,e):=oBq.mp e;have(y,U,e):=oBq.mp e;have(X,Y,e):=oBq.mp e;have(key,e4,e):=oBq.mp e;obtain⟨hl,e⟩|e:=qe e
 .cases e;have u:SK K te<|vN k:=aA2 hk;show u R J _ λHf1 H1 Fs1 v F t1 L M o1=>?_;have(p',_,z,_):=L.owd<|AK Q;show(_,z,P L U _ λHf2 H2 Fs2 w O R2 r2=>?_);have(q',kv,n,B,C,E,r,G,I):=R2.owd<|AK Y;rw[z]at n;cases n;obtain⟨x1,s⟩:∃d,x.1 = b8 d:=by have(w,_,e):=oMq.mp J;rw[←e];show(_,rfl)
  rw[s]at M;have rv:=Qf ((pR M).2) O.sf;have hw:=As e4 r2;subst hw;show(p',_,rfl,UX.k C<|by rw[←r.len];show hl,h _ _ _ _ (eM t1.sf O.sf)<|R2.turn z B ⋯ (.owd pW E ?_) ⋯ λq hq=>by rw[mSq.mp hq];show(G,I));rw[s];show Oa r rv
 .cases e
def ahc(a b:ME):ME:=λS=>cc (a S) λx=>cc (b x.2) λy=>match y.1 with
 | mA kvs=>(xI x.1).map λkey=>%[fb<|j3<|getD kvs key|y.2]
 |_=>n_
def wM(a b:ME):ME:=λS=>cc (a S) λx=>cc (b x.2) λy=>match y.1 with
 | mA kvs=>(xI x.1).map λkey=>%[fb<|!j3 (getD kvs key)|y.2]
 |_=>n_
def tZ(a b:ME):ME:=λS=>cc (a S) λx=>cc (b x.2) λy=>match x.1 with
 | mA kvs=>cc (xI y.1) λkey=>(getD kvs key).map λd=>%[d|y.2]
 |_=>n_
def Sr(r:rq K H (mA kvs) x)(e:getD kvs key=aK d):∃a v,x = cx a/\Ir H a (kV key) (aK v)/\rq K H d v:=by have(p,s,rfl,h1,h2):=r.dict_inv;have g:=Ej (key:=key) h2;rw[e]at g;have(v,n,g2):=g;show(p,v,rfl,by rw[←n];show Ir.k h1,g2)
def Vp(r:rq K H (mA kvs) x):∃a o,x = cx a/\Ir H a (kV key) o/\j3 o=j3 (getD kvs key):=by have(p,s,rfl,h1,h2):=r.dict_inv;have g:=Ej (key:=key) h2;show(p,_,rfl,Ir.k h1,?_);cases e:getD kvs key with
 |none=>rw[e]at g;rw[g];rfl
 |some d=>rw[e]at g;have(v,n,_):=g;rw[n];rfl
def IY(ha:SR K ta a)(s:SR K tb b):SR K (Lk ta tb)<|wM a b:=by
 intro H₀ n P S σ H U d X R e Q q;have(x,t,e):=oBq.mp e;have(y,u,e):=oBq.mp e;show ha R t _ λz Y Fs1 v1 B C E=>s C u _ λG H2 Fs2 v2 I R2 r=>?_;split at e;.rename_i J L;rw[L]at r;have(key,M,e):=oMq.mp e;cases e;have(p,o,rfl,O,g2):=Vp r;show(p,o,rfl,by rw[As M E];show O,?_);rw[g2];show q _ _ _ _ (hU B I) R2 IT
 .cases e
def yg(ha:SR K ta a)(t:SR K tb b):SR K (Xy ta tb)<|tZ a b:=by
 intro H₀ n U S σ H X d Y R e Q q;have(x,u,e):=oBq.mp e;have(y,z,e):=oBq.mp e;show ha R u _ λB H1 Fs1 v1 C E r=>t E z _ λG H2 Fs2 v2 s R2 I=>?_;split at e;.rename_i J L;rw[L]at r;have(key,M,e):=oBq.mp e;have(d',O,e):=oMq.mp e;cases e;have(p,v,rfl,P,g2):=Sr (Qf r s.sh) O;show(p,v,rfl,by rw[As M I];show P,q _ _ _ _ (hU C s) R2 g2)
 .cases e
noncomputable def sD(x:Nat)(body:MS):List D->AS->Option RM
 | [],S=>aK<|k4 S
 |d::ds,S=>cc (body<|i8 S x<|aK<|b8 d) λo=>match o with
  | k4 S'=>sD x body ds S'
  | .ct S'=>sD x body ds S'
  | .bk S'=>aK<|k4 S'
  | .rt a=>aK<|.rt a
noncomputable def vD:D->Option (List D)
 | d9 ds=>aK ds
 | ov ns=>aK<|ns.map bo
 |_=>n_
def A4(x:Nat)(k:MK)(body:MS):MS:=λS=>cc (vN k S) λy=>cc (vD<|pE y.1) λds=>sD x body ds y.2
def qD(lo:Int)(n:Nat):List D:=(bD n).map λi:Nat=>bo<|lo+i
def ET:List D->Option (List D)
 | [bo j]=>wa (-(2 ^ 62)<=j/\j<2 ^ 62)<|aK<|qD 0<|jz j
 |_=>n_
def afy:List D->Option (List D)
 | [bo i,bo j]=>wa (-(2 ^ 62)<=i/\i<2 ^ 62/\-(2 ^ 62)<=j/\j<2 ^ 62)<|aK<|qD i<|jz<|j-i
 |_=>n_
def BB(x:Nat)(a:ML)(body:MS):MS:=λS=>cc (a S) λy=>cc (ET y.1) λds=>sD x body ds y.2
def afG(x:Nat)(a:ML)(body:MS):MS:=λS=>cc (a S) λy=>cc (afy y.1) λds=>sD x body ds y.2
noncomputable def De(x y:Nat)(body:MS):Nat->List D->AS->Option RM
 |_,[],S=>aK<|k4 S
 |i,d::ds,S=>cc (body<|i8 (i8 S x<|aK<|b8<|bo i) y<|aK<|b8 d) λo=>match o with
  | k4 S'=>De x y body (i+1) ds S'
  | .ct S'=>De x y body (i+1) ds S'
  | .bk S'=>aK<|k4 S'
  | .rt a=>aK<|.rt a
def Nf(x y:Nat)(k:MK)(body:MS):MS:=λS=>cc (vN k S) λz=>cc (vD<|pE z.1) λds=>De x y body 0 ds z.2
noncomputable def Dl(x y:Nat)(body:MS):List D->List D->AS->Option RM
 |d::ds,e::es,S=>cc (body<|i8 (i8 S x<|aK<|b8 d) y<|aK<|b8 e) λo=>match o with
  | k4 S'=>Dl x y body ds es S'
  | .ct S'=>Dl x y body ds es S'
  | .bk S'=>aK<|k4 S'
  | .rt a=>aK<|.rt a
 |_,_,S=>aK<|k4 S
def VH(x y:Nat)(k l:MK)(body:MS):MS:=λS=>cc (vN k S) λz=>cc (vN l z.2) λw=>cc (vD<|pE z.1) λds=>cc (vD<|pE w.1) λes=>if aX ds=aX es then Dl x y body ds es w.2 else n_
noncomputable def tW(c:MT)(body:MS):Nat->MS
 |0,_=>n_
 |n+1,S=>cc (c S) λx=>if x.1=t_ then cc (body x.2) λo=>match o with
   | k4 S'=>tW c body n S'
   | .ct S'=>tW c body n S'
   | .bk S'=>aK<|k4 S'
   | .rt a=>aK<|.rt a
  else aK<|k4 x.2
def Ad(e:vD d=aK ds)(r:rq K H d v):∃a vs,v = cx a/\sN K H a vs/\qo K H ds vs:=by cases d with
 |list s=>cases e;have(p,vs,rfl,h1,h2):=l5 r;show(p,vs,rfl,kc h1,h2)
 |scr n=>cases e;cases r with
  |scr h=>show(_,_,rfl,h,wj n)
 |_=>cases e
def yz{te:TE}(e:vN k S=aK z):∃d,z.1 = b8 d:=by have(w,_,e):=oMq.mp e;rw[←e];show(_,rfl)
def qI.setD(R:qI K H₀ n s S σ H t)i(r:rq K s d v):qI K H₀ n s (i8 S i<|aK<|b8 d) (i8 σ i<|aK v) H<|i8 t i []:=R.set i (.sh r) aW λq h=>(by cases h)
def EO(hk:SK K te k)(hb:SS K tb body):SS K (Ov (Wv K te) (uv x) tb)<|A4 x k body:=by
 intro H₀ B Hf S σ H Fs o R e D h;have(z,e1,e):=oBq.mp e;have(ds,e2,e):=oBq.mp e;have X:SK K te<|vN k:=aA2 hk;show X R e1 _ λE H1 Fs1 v F t1 R1 r1 o1=>?_;have(d,hd):=yz (te:=te) e1;rw[hd]at r1;rw[hd]at e2;have(a,vs,rfl,g1,g2):=Ad e2 (pR r1).2;show(a,rfl,(vs,R1.sub.seq g1),US (λi r P=>∃n G s,qI K H₀ B n G r P s/\qk E n/\sD x body (ds.drop i) G=aK o) (E,z.2,Fs1,R1,j9 _,e)
  (λi r P _ ⟨n,G,s,I,u,_⟩=>I.sub.seq<|u.seq g1) ?_ ?_);.rintro i w r P hw ⟨n,G,s,I,u,C⟩;have(di,J,Ct):=g2.get' hw;have Y:=(gSq.mp J).1;rw[aC Y]at C;have L:=(gSq.mp J).2;rw[L]at C;have(ob,e3,Q):=oBq.mp C;show hb (I.setD x<|Qf Ct u) e3 _ ?_;cases ob with
  |nx U=>show λt M H2 Fs2 O R2=>(t,U,Fs2,R2,eM u O,Q)
  |ct U=>show λt M H2 Fs2 O R2=>(t,U,Fs2,R2,eM u O,Q)
  |bk U=>cases Q;show λt M H2 Fs2 O R2=>h _ _ _ _ (eM (eM t1.sf u) O) R2
  |rt a=>cases Q;show h
 .rintro r P ⟨n,G,s,I,u,C⟩;rw[←g2.1,eK]at C;cases C;show h _ _ _ _ (eM t1.sf u) I
def S9{D}(Y:SS K tb body)(R1:qI K H₀ r Hf1 P σ U Fs1)(e:sD x body (qD lo n) P=aK o)(h:Jp K H₀ r Hf1 D o) :
  ∃W:Nat->Nat->St->Hp->Prop,(∃m,W 0 m σ U)/\∀i m σ H,W i m σ H ->
   ((Y3 lo n).stop i H/\D.nx σ H)∨((Y3 lo n).go i H/\∃N:St->Hp->Prop,(∀s t,N s t->∃X,X<m/\W (i+1) X s t)/\∀v t,(Y3 lo n).yld i H v t->uv x v σ t λu J=>tb { D with nx:=N,ct:=N,bk:=D.nx } u J):=by
 show SX (λi s t=>∃z L C,qI K H₀ r z L s t C/\qk Hf1 z/\sD x body ((qD lo n).drop i) L=aK o) (Hf1,P,Fs1,R1,j9 _,e) ?_ ?_
 .rintro i s t hi ⟨z,L,C,Q,G,E⟩;have R:i<aX (qD lo n):=by unfold qD;rw[lMq,bq];show hi
  rw[aC R]at E;have S:(qD lo n)[i] = bo (lo+i):=by simp[qD]
  rw[S]at E;have(ob,e3,M):=oBq.mp E;show Y (Q.setD x rE) e3 _ ?_;cases ob with
  |nx O=>show λB u J Fs2 I R2=>(B,O,Fs2,R2,eM G I,M)
  |ct O=>show λB u J Fs2 I R2=>(B,O,Fs2,R2,eM G I,M)
  |bk O=>cases M;show λB u J Fs2 I R2=>h _ _ _ _ (eM G I) R2
  |rt a=>cases M;show h
 .rintro s t ⟨z,L,C,Q,G,E⟩;have hl:aX (qD lo n)=n:=by unfold qD;rw[lMq,bq]
  rw[bU<|dX hl]at E;cases E;show h _ _ _ _ G Q
set_option tactic.hygienic true in
def Ma(ha:WJ K s a)(B:SS K tb body):SS K (Ov (VR s) (uv x) tb)<|BB x a body:=by
 intro H₀ r L S σ H M o R e D h;have(z,C,e):=oBq.mp e;have(O,n,e):=oBq.mp e;show ha R C _ λE P Fs1 Q G I t=>?_;unfold ET at n;split at n
 .rename_i j J;obtain⟨u,n⟩|n:=qe n;.cases n;rw[J]at t;have(v,U,rfl,h1,h2):=eC t;rw[h8 h2];cases h1;show(j,rfl,u.1,u.2,S9 B I e<|h.mono G.sf)
  .cases n
 .cases n
def Zu(hk:SK K te k)(hb:SS K tb body):SS K (Ov (aau K<|uK te wV) (OW K 2<|Bg (uv x)<|Bg (uv y) OF) tb)<|Nf x y k body:=by
 intro H₀ B Hf S σ H Fs o R e D h;have(z,e1,e):=oBq.mp e;have(ds,e2,e):=oBq.mp e;have X:SK K te<|vN k:=aA2 hk;show X R e1 _ λE H1 Fs1 v F t1 R1 r1 o1=>?_;have(d,hd):=yz (te:=te) e1;rw[hd]at r1;rw[hd]at e2;have(a,vs,rfl,g1,g2):=Ad e2 (pR r1).2;show(a,rfl,(vs,R1.sub.seq g1),Xf (λi r P=>∃n G s,qI K H₀ B n G r P s/\qk E n/\De x y body i (ds.drop i) G=aK o) (E,z.2,Fs1,R1,j9 _,e)
  (λi r P _ ⟨n,G,s,I,u,_⟩=>I.sub.seq<|u.seq g1) ?_ ?_);.rintro i w r P T hw ⟨n,G,s,I,u,C⟩ hT;have(di,J,Ct):=g2.get' hw;have Y:=(gSq.mp J).1;rw[aC Y]at C;have L:=(gSq.mp J).2;rw[L]at C;have(ob,e3,Q):=oBq.mp C;have R2:=(I.new (o:=j6 [c8 i,w]) hT).2.1;show hb ((R2.setD x rE).setD y<|Qf Ct u) e3 _ ?_;cases ob with
  |nx U=>show λt M H2 Fs2 O R2=>(t,U,Fs2,R2,eM u O,Q)
  |ct U=>show λt M H2 Fs2 O R2=>(t,U,Fs2,R2,eM u O,Q)
  |bk U=>cases Q;show λt M H2 Fs2 O R2=>h _ _ _ _ (eM (eM t1.sf u) O) R2
  |rt a=>cases Q;show h
 .rintro r P ⟨n,G,s,I,u,C⟩;rw[←g2.1,eK]at C;cases C;show h _ _ _ _ (eM t1.sf u) I
def YR(hk:SK K te k)(hl:SK K tf l)(hb:SS K tb body):SS K (Ov (aeL K<|uK te<|uK tf wV) (OW K 2<|Bg (uv x)<|Bg (uv y) OF) tb)<|VH x y k l body:=by
 intro H₀ C Hf S σ H Fs o R e D h;have(z,e1,e):=oBq.mp e;have(w,G,e):=oBq.mp e;have(ds,e2,e):=oBq.mp e;have(es,I,e):=oBq.mp e;split at e
 .rename_i J;have hk':SK K te<|vN k:=aA2 hk;have hl':SK K tf<|vN l:=aA2 hl;show hk' R e1 _ λHf1 H1 Fs1 v F t1 R1 r1 o1=>hl' R1 G _ λn H2 Fs2 v2 F2 t2 R2 r2 o2=>?_;have(d,hd):=yz (te:=te) e1;have(d2,L):=yz (te:=te) G;rw[hd]at r1;rw[hd]at e2;rw[L]at r2;rw[L]at I;have(a,vs,rfl,g1,g2):=Ad e2<|Qf (pR r1).2 t2.sf;have(b,ws,rfl,g3,g4):=Ad I (pR r2).2;show(a,b,rfl,(vs,R2.sub.seq g1),(ws,R2.sub.seq g3),Ze (λi t H'=>∃r M B,qI K H₀ C r M t H' B/\qk n r/\Dl x y body (ds.drop i) (es.drop i) M=aK o) (n,w.2,Fs2,R2,j9 _,e) (by rw[←g2.1,←g4.1,J])
   (λi t H' _ ⟨r,M,B,E,s,_⟩=>(E.sub.seq<|s.seq g1,E.sub.seq<|s.seq g3)) ?_ ?_);.rintro i u u' t H' T hu hu' ⟨r,M,B,E,s,O⟩ hT;have(di,P,Ct):=g2.get' hu;have(ei,Q,rw2):=g4.get' hu';have hlt:=(gSq.mp P).1;have U:=(gSq.mp Q).1;simp?[aC hlt,aC U,(gSq.mp P).2,(gSq.mp Q).2]at O;have(ob,e3,e4):=oBq.mp O;have R3:=(E.new (o:=j6 [u,u']) hT).2.1;show hb ((R3.setD x<|Qf Ct s).setD y<|Qf rw2 s) e3 _ ?_;cases ob with
   |nx S2=>show λn X H2 Fs2 Y R2=>(n,S2,Fs2,R2,eM s Y,e4)
   |ct S2=>show λn X H2 Fs2 Y R2=>(n,S2,Fs2,R2,eM s Y,e4)
   |bk S2=>cases e4;show λn X H2 Fs2 Y R2=>h _ _ _ _ (eM (eM (eM t1.sf t2.sf) s) Y) R2
   |rt a=>cases e4;show h
  .rintro t H' ⟨r,M,B,E,s,O⟩;have e0:ds.drop (aX vs)=[]:=by rw[←g2.1,eK]
   rw[e0]at O;cases O;show h _ _ _ _ (eM (eM t1.sf t2.sf) s) E
 .cases e
def NS{c}n(hc:Gy K c m)(hb:SS K tb body):SS K (UR c tb)<|tW m body n:=by intro H₀ s Q S σ H Fs o R e D h;show(λn E X=>∃r C u,qI K H₀ s r C E X u/\qk Q r/\tW m body n C=aK o,(n,Q,S,Fs,R,j9 _,e),?_);rintro n E X ⟨r,C,u,R',J,Y⟩;cases n with
 |zero=>cases Y
 |succ n=>
  have(z,e1,U):=oBq.mp Y;show hc R' e1 _ λHf1 H1 Fs1 L R1=>?_;split at U;.rename_i M;rw[M];show Kd (λt G=>∃r C u,qI K H₀ s r C t G u/\qk Q r/\tW m body n C=aK o,λt G w=>(n,eG n,w),?_);have(ob,e3,O):=oBq.mp U;show hb R1 e3 _ ?_;cases ob with
   |nx P=>show λB t G Fs2 I R2=>(B,P,Fs2,R2,eM (eM J L.sf) I,O)
   |ct P=>show λB t G Fs2 I R2=>(B,P,Fs2,R2,eM (eM J L.sf) I,O)
   |bk P=>cases O;show λB t G Fs2 I R2=>h _ _ _ _ (eM (eM J L.sf) I) R2
   |rt a=>cases O;show h
  .rename_i M;rw[dq]at M;rw[M];cases U;show ID<|h _ _ _ _ (eM J L.sf) R1
noncomputable def sL(l n:Nat)(m:MS):MF:=λds=>if aX ds=l then cc (m<|ds.map (λd=>aK<|b8 d)++aF (n-aX ds) n_) λo=>match o with
  | .rt a=>aK a
  | k4 _=>aK<|b8 kR
  |_=>n_
 else n_
def JD{K}N(s:qk n H)(r:qo K n ds vs) :
  qI K H n n (ds.map (λd=>aK<|b8 d)++aF (aX N-aX ds) n_) (L2.Ao N vs) H<|aF (aX ds+(aX N-aX ds)) []:=by
 have fl:=wg<|aX ds+(aX N-aX ds);show(by simp[L2.Ao,r.1],by simp,λi B e=>?_,λi e=>?_,by rw[fl];show aW,λp t=>(by rw[fl]at t;cases t),s,j9 _,λb h Q=>h,j9 _)
 .by_cases l:i<aX ds
  .rw[gZq<|by simpa using l,gMq]at e;have(d,u,x):=oMq.mp e;cases x;have(v,y,z):=r.get u;show(v,[],?_,?_,.sh z);.unfold L2.Ao;rw[gZq<|by simpa[←r.1]using l,gMq,y];rfl
   .rw[cX,qz ∅]
  .rw[gYq<|by simpa using l]at e;have:=mGq e;have h2:=fW this;cases h2
 .rw[cX];have l:=(gSq.mp e).1;rw[lAq,lMq,bz]at l;rw[qz l]
def GO{K}N(h:SS K t m)(C:sH K (sL B (aX N) m) vs H Q E):t { nx:=λZ u=>Q pd u,rt:=Q } (L2.Ao N vs) H:=by
 have(O,P,a,s,r,e,q):=C;unfold sL at e;split at e;.have(o,G,x):=oBq.mp e;show h (JD N s r) G _ ?_;cases o with
  |rt S=>cases x;show λn u v F y I J l r nd fr=>q n u v F y I J l r nd fr
  |nx z=>cases x;show λn L u M y R=>q n u pd [] R.sf R.fr R.sub R.lim (.sh .non) aW λq h=>(by cases h)
  |bk z=>cases x
  |ct z=>cases x
 .cases e
def OH(t:sH K (sL l n m) vs H Q E):aX vs=l:=by
 have(u,x,a,s,r,e,q):=t;unfold sL at e;split at e;.rename_i h;rw[←r.1,h]
 .cases e
noncomputable def fzAll:Θ->AS->Option AS
 | [],S=>aK S
 |j::js,S=>cc (rg S[j]?) λa=>fzAll js<|i8 S j<|aK<|b8<|pE a
noncomputable def ab5:Option AV->Option AV
 |aK (b8 d)=>aK<|b8 d
 |_=>n_
def J6(S:AS):Θ->Option AS
 | []=>aK []
 |j::js=>cc (ab5<|rg S[j]?) λa=>(J6 S js).map (aK a :: ·)
noncomputable def qJ(l:MT)(te:MK)(cap:AS):List D->Option (List AV)
 | []=>aK []
 |d::ds=>cc (l<|aK (b8 d)::cap) λb=>if b.1=t_ then cc (te b.2) λa=>(qJ l te cap ds).map (a.1 :: ·)else qJ l te cap ds
abbrev MI:=AS->Option (List D×AS)
def wC(k:MK):MI:=λS=>cc (vN k S) λy=>(vD<|pE y.1).map λds=>%[ds|y.2]
def iR1(a:ML):MI:=λS=>cc (a S) λy=>(ET y.1).map λds=>%[ds|y.2]
def rF(l:MI)(fr:Θ)(s:MT)(te:MK):MK:=λS=>cc (l S) λy=>cc (fzAll fr y.2) λr=>cc (J6 r fr) λcap=>wa (aX y.1<=qZ)<|(qJ s te cap y.1).map λn=>%[el n|r]
noncomputable def qi:MT:=λS=>aK %[t_|S]
def qI.fz(R:qI K H₀ Hf₀ Hf S σ H Fs)(e:rg S[j]?=aK a):∃Hf' Fs',zW Hf H Fs Hf' H Fs'/\qI K H₀ Hf₀ Hf' (i8 S j<|aK<|b8<|pE a) σ H Fs':=by
 have(v,F,s,t,r,nd,o,u):=R.move<|qR e;have n:=λq l=>(y8 r q l).2;have R2:=u.frz o n;have x:=r.frozen (uU n) λq l=>Da l;have y:=R2.again (F:=F) s (.sh x) aW λq h=>(by cases h);show(_,_,(uU n,j9 _,λp z=>tJ z,λb h g=>?_),y);by_cases m:b∈F;.show ir<|e8 mFq (F,mGq t,m)
 .rw[vU m]at g;show absurd h g
theorem qI.fzAll:∀{fr}{Hf}{S S'}{Fs},qI K H₀ Hf₀ Hf S σ H Fs->fzAll fr S=aK S'->∃Hf' Fs',zW Hf H Fs Hf' H Fs'/\qI K H₀ Hf₀ Hf' S' σ H Fs'
 | [],Hf,S,S',Fs,R,e=>by cases e;show(Hf,Fs,.refl,R)
 |j::js,Hf,S,S',Fs,R,e=>by have(a,n,r):=oBq.mp e;have(s,Fs1,t,u):=R.fz n;have(l,Fs2,x,R2):=qI.fzAll u r;show(l,Fs2,t.trans x,R2)
theorem Nh(R:qI K H₀ Hf₀ Hf S σ H Fs):∀{fr}{cap},J6 S fr=aK cap->aX cap=aX fr/\∀(k:Nat) a,cap[k]?=aK (aK a)->∃d v,a = b8 d/\(slots σ fr)[k]?=aK (aK v)/\rq K Hf d v
 | [],cap,e=>by cases e;show(rfl,λk a h=>by simp at h)
 |j::js,cap,e=>by have(a,l,t):=oBq.mp e;have(s,u,x):=oMq.mp t;subst x;have(h1,h2):=Nh R u;show(by simp[h1],λk b hk=>?_);cases k with
  |zero=>cases hk;cases n:rg S[j]? with
   |none=>rw[n]at l;cases l
   |some c=>rw[n]at l;cases c with
    |sh d=>cases l;have(v,F,y,z,r):=R.rep j _<|qR n;show(d,v,rfl,?_,(pR r).2);change aK (rg<|σ[j]?)=_;rw[y];rfl
    |_=>cases l
  |succ k=>show h2 k b<|by show hk
def Tz(R:qI K H₀ Hf₀ Hf S σ H Fs)(e:J6 S fr=aK cap)(s:rq K Hf d x) :
  qI K H₀ Hf₀ Hf (aK (b8 d)::cap) (aK x::slots σ fr) H<|aF (aX cap+1) []:=by
 have(h1,h2):=Nh R e;have fl:=wg<|aX cap+1;show(by simp[slots,h1],by simp,λi t l=>?_,λi l=>?_,by rw[fl];show aW,λp n=>(by rw[fl]at n;cases n),R.sub,R.fr,R.lim,R.sf);.cases i with
  |zero=>cases l;show(x,[],rfl,by rfl,.sh s)
  |succ k=>
   have hk:=(gSq.mp<|by show l).1;have(z,v,rfl,u,r):=h2 k t<|by show l
   show(v,[],by show u,by rw[cX,qz<|by rfl'],.sh r)
 .rw[cX];have y:=(gSq.mp l).1;rw[qz<|by show y]
def qI.updOut(R:qI K H₀ Hf₀ Hf S σ H Fs)(h1:p∉bf Fs)(h2:Hf p=n_)(n:H₀ p=n_):qI K H₀ Hf₀ Hf S σ (rG H p o) Fs where
 len:=R.len
 lenF:=R.lenF
 rep:=λi s e=>by have(v,F,t,l,r):=R.rep i s e;show(v,F,t,l,r.keepUpd λm=>h1<|rB l m)
 emp:=R.emp
 nd:=R.nd
 fresh:=R.fresh
 sub:=λb u e=>by rw[pI λz=>by rw[z,h2]at e;cases e];show R.sub b u e
 fr:=λb u e=>by rw[pI λz=>by rw[z,n]at e;cases e];show R.fr b u e
 lim:=R.lim
 sf:=R.sf
def qI.outer(R:qI K H₀ Hf₀ Hf S σ H Fs)(u:qI K H₀ Hf₀ l y s r n)(t:zW Hf H Fs2 l r n)(h0:bf Fs2=[]):zW Hf H Fs l r Fs/\qI K H₀ Hf₀ l S σ r Fs:=by
 have g:=λb h1 h2=>by
  by_cases e:l b=n_;.show e
  .obtain z|z:=t.gr b h1 e;.show absurd z h2
   .rw[h0]at z;cases z
 show((t.sf,t.sh,λQ h=>h,λb h1 h2=>jB (by
  by_cases e:H b=n_;.show e
  .show absurd (g b h1 e) h2)),R.more t.sh t.sf u.sub (λq x=>g q (R.mem x).2 (R.mem x).1) u.lim)
def Sy{tG}{N:Hp->Prop}(hf:Gy K tf mf)(he:SK K te me)
  (R:qI K H₀ n x S1 σ H Fs1) (t:zW Hf1 O Fs1 x H Fs1) (ha:H l=aK (et vs)) (hfa:x l=n_) (ra:qF K x H as vs P) (ow:zQ H₀ O Fs1 Fs1<|l::bf P) (la:aX as<=i) (hlm:aX as<qZ) (ea:Q=as++tG)
  (Ri:qI K H₀ n x Si I H<|aF nn []) (er:(cc (mf Si) λb=>if b.1=t_ then cc (me b.2) λa=>nx.map (a.1 :: ·)else nx)=aK tG) (S:O l=n_) (n2:H₀ l=n_) (n3:l∉bf Fs1)
  (hN:∀{x H}{as}{vs}{P}{tG},qI K H₀ n x S1 σ H Fs1->zW Hf1 O Fs1 x H Fs1->H l=aK (et vs)->x l=n_->qF K x H as vs P->zQ H₀ O Fs1 Fs1 (l::bf P)->aX as<=i+1->nx=aK tG->Q=as++tG->N H) :
  tf I H λb H2=>if b=t_ then te I H2 λy H3=>∃ys,H3 l=aK (et ys)/\aX ys<kK/\N (rG H3 l<|et<|ys++[y])else N H2:=by
 have(b,e1,e2):=oBq.mp er;have fl:=wg nn;show hf Ri (b:=b.1) (S':=b.2) e1 _ λU H2 Fs2 t2 R2=>?_;have(B,J):=R.outer R2 t2 fl;have s:H2 l=aK (et vs):=t2.sh _ _ ha;have C:U l=n_:=by
  by_cases z:U l=n_;.show z
  .obtain z|z:=t2.gr l hfa z;.rw[ha]at z;cases z
   .rw[fl]at z;cases z
 have L:=ra.stp (λq u=>ow.out q<|mCo _ u) B;split at e2
 .rename_i hb;rw[hb];have(a,e3,e4):=oBq.mp e2;have(rest',e5,e6):=oMq.mp e4;subst e6;show he R2 e3 _ λX H3 Fs3 v F t3 R3 r3 o3=>?_;have M:bf Fs2=[]:=by cases hz:bf Fs2 with
   |nil=>rfl
   |cons z zs=>
    have:=t2.own z<|by rw[hz];simp
    rw[fl]at this;cases this
  have(Y,R3'):=J.outer R3 t3 M;have ha3:=t3.sh _ _ s;have E:X l=n_:=by
   by_cases z:X l=n_;.show z
   .obtain z|z:=t3.gr l C z;.rw[s]at z;cases z
    .rw[M]at z;cases z
  have ra3:=L.stp (λq u=>ow.out q<|mCo _ u) Y;have r:=λq u=>(o3.new q u).elim id λz=>by rw[M]at z;cases z
  have G:l∉F:=λm=>by rw[r l m]at s;cases s
  have accG:=(az.mp ow.nd).1;have tt:=hU (hU t B) Y;show(vs,ha3,?_,?_);.rw[K5,←ra.1];rfl'
  .show hN (R3'.updOut n3 E n2) (tt.sf,λb o eb=>?_,λZ h=>h,tt.gr) pW E ((ra3.keepUpd accG).snoc<|r3.keepUpd G) ?_ (by rw[lAq,lSq];rfl') e5<|by rw[ea];simp
   .rw[pI λz=>by rw[z,S]at eb;cases eb];show tt.sh b o eb
   .rw[fAq,aB];have oF:zQ H₀ O Fs1 Fs1 F:=(o3.nd,o3.fr,λq u m=>(J.mem m).1<|r q u,λq u=>jB<|(hU t B).sh.free<|r q u);show(ow.app oF λq u m=>?_);obtain z|z:=ag.mp u;.rw[z]at m;show G m
    .show(L.owned q z).1<|r q m
 .rename_i hb;rw[dq]at hb;rw[hb];show ID<|hN J (hU t B) s C L ow (by rfl') e2 ea
def Cu{J:It}{Q:VK}(hf:Gy K tf mf)(he:SK K te me)
  (R1:qI K H₀ r Hf1 I σ B Fs1) (ec:J6 I fr=aK cap) (hl:aX ds<=qZ) (e:qJ mf me cap ds=aK u)
  (O:∀i H,qk Hf1 H->i<aX ds->J.go i H) (S:∀H,qk Hf1 H->J.stop (aX ds) H) (hy:∀i H x n,qk Hf1 H->i<aX ds->J.yld i H x n->n=H/\∃d,ds[i]?=aK d/\rq K Hf1 d x)
  (q:∀C n v F,zW Hf1 B Fs1 C n Fs1->qI K H₀ r C I σ n Fs1->qA K C n (el u) v F->zQ H₀ B Fs1 Fs1 F->Q v n) :
  ∀l,B l=n_->∃W:Nat->Nat->Hp->Prop,(∃m,W 0 m<|rG B l<|et [])/\∀i m H,W i m H ->
   (J.stop i H/\Q (cx l) H) ∨
   (J.go i H/\∃N:Hp->Prop,(∀n,N n->∃m',m'<m/\W (i+1) m' n)/\∀x n,J.yld i H x n->tf (aK x::slots σ fr) n λb H2=>if b=t_ then te (aK x::slots σ fr) H2 λy H3=>∃ys,H3 l=aK (et ys)/\aX ys<kK/\N (rG H3 l<|et<|ys++[y])else N H2):=by
 intro l s;have(t0,R0,n1,n2,n3):=R1.new s;let P:=λi H=>∃E L U X tG,qI K H₀ r E I σ H Fs1/\zW Hf1 B Fs1 E H Fs1/\H l=aK (et U)/\E l=n_/\qF K E H L U X/\zQ H₀ B Fs1 Fs1 (l::bf X)/\aX L<=i /\
  qJ mf me cap (ds.drop i)=aK tG/\u=L++tG;show(λi m H=>m=aX ds-i/\i<=aX ds/\P i H,(aX ds,by simp,aH _,Hf1,[],[],[],u,R0,t0,pW,n1,.nil,q5 R1 s,aH _,e,rfl),?_);rintro i m H ⟨rfl,hi,E,L,U,X,tG,R,t,ha,G,ra,ow,la,M,Y⟩;have hs:=eM t.sf R.sub;by_cases z:i<aX ds;.show ir (O i H hs z,P<|i+1,λn p=>(aX ds-(i+1),by omega,rfl,z,p),λx n y=>?_);have(rfl,d,hd,rx):=hy i H x n hs z y;rw[aC z,(gSq.mp hd).2]at M;show Sy hf he R t ha G ra ow la ∅ Y (Tz R ec<|Qf rx t.sf) M s n2 n3 λa b c d e f g h i=>(_,_,_,_,_,a,b,c,d,e,f,g,h,i)
 .have e0:i=aX ds:=by rfl'
  subst e0;rw[eK]at M;cases M;rw[aNq]at Y;subst Y;show jB (S H hs,q E H (cx l) _ t R (Mw ha G ra) ow)
def uo(hk:SK K u k)(hf:Gy K tf mf)(P:SK K te me):SK K (JC (Wv K u) fr tf te)<|rF (wC k) fr mf me:=by
 intro H₀ C Hf S σ H Fs av S' R e Q q;have(y,l,e):=oBq.mp e;have(z,J,l):=oBq.mp l;have(ds,L,l):=oMq.mp l;subst l;have(S2,U,e):=oBq.mp e;have(X,Y,e):=oBq.mp e;obtain⟨hl,e⟩|e:=qe e;.have(avs,e5,e):=oMq.mp e;cases e;have E:SK K u<|vN k:=aA2 hk;show E R J _ λHf1 H1 Fs1 v F M R1 O o1=>?_;have(d,hd):=yz (te:=u) J;rw[hd]at O;rw[hd]at L;have(Hf2,Fs2,G,R2):=R1.fzAll U;have(a,n,rfl,B,g2):=Ad L<|Qf (pR O).2 G.sf;show(a,rfl,(n,R2.sub.seq B),Cu hf P R2 Y hl e5 (λi H s I=>(n,n[i]'(g2.1 ▸ I),s.seq B,gEg<|g2.1 ▸ I)) (λH s=>(n,s.seq B,dX<|fQ g2.1)) (λi H x H' s I y=>?_) λHf' H' v F t R' r o=>q _ _ _ v F (hU (hU M G) t) R' r<|o.back<|hU M G);have(y1,y2):=y;have(di,h1,h2):=g2.get'<|y2 n<|s.seq B;show(y1,di,h1,h2)
 .cases e
def AA(h:i<n):(qD lo n)[i]?=aK (bo<|lo+i):=by unfold qD;rw[gMq,dN h];rfl
def qp(lo)n:aX (qD lo n)=n:=by unfold qD;rw[lMq,bq]
set_option tactic.hygienic true in
def Cm(ha:WJ K C a)(hf:Gy K tf mf)(L:SK K te me):SK K (JC (VR C) fr tf te)<|rF (iR1 a) fr mf me:=by
 intro H₀ B Hf S σ H Fs av S' R e Q q;have(y,n,e):=oBq.mp e;have(z,M,n):=oBq.mp n;have(ds,l,n):=oMq.mp n;subst n;have(S2,O,e):=oBq.mp e;have(P,U,e):=oBq.mp e;obtain⟨hl,e⟩|e:=qe e
 .have(X,Y,e):=oMq.mp e;cases e;show ha R M _ λHf1 H1 Fs1 vs E R1 G=>?_;unfold ET at l;split at l
  .rename_i j hz;obtain⟨I,l⟩|l:=qe l;.cases l;rw[hz]at G;have(v,ws,rfl,h1,h2):=eC G;rw[h8 h2];cases h1;have(Hf2,Fs2,J,R2):=R1.fzAll O;show(j,rfl,I.1,I.2,Cu hf L R2 U hl Y (λi H s u=>(by rw[qp]at u;show u)) (λH s=>(by rw[qp];show ab _)) (λi H x H' s u y=>?_) λHf' H' v F t R' r o=>q _ _ _ v F ((E.trans J).trans t) R' r<|o.back<|E.trans J);have(y1,y2):=y;rw[qp]at u;show(y1,_,AA u,by rw[y2];show .int)
   .cases l
  .cases l
 .cases e
def vO:Gy K ae4 qi:=by intro H₀ l n S σ H r b s R e Q q;cases e;show q _ _ _ .refl R
mutual
def py:D->Option PyData
 | .non=>aK .none
 | .bl b=>aK<|.bool b
 | .int i=>aK<|.int i
 | .str x=>aK<|.str x
 | .list ds=>(FX ds).map .list
 | .tup ds=>(FX ds).map .tuple
 |_=>n_
def FX:List D->Option (List PyData)
 | []=>aK []
 |d::ds=>(py d).bind λx=>(FX ds).map (x :: ·)
end
theorem Bv:∀{ds}{vs}{l}{xs},(∀(i:Nat) d v,ds[i]?=aK d->vs[i]?=aK v->∀u x,qW v u->py d=aK x->∃as,Reads h u x as)->aX ds=aX vs->qr vs l->FX ds=aK xs->∃as,ReadsAll h l xs as
 | [],vs,l,xs,_,hl,n,e=>by have:vs=[]:=aD.mp<|fQ hl;subst this;cases n;simp?[FX]at e;cases e;show(_,.nil)
 |d::ds,vs,l,xs,ih,hl,n,e=>by cases vs with
  |nil=>simp at hl
  |cons v vs=>cases n with
   |cons r t=>simp?[FX]at e;have(x,s,y):=oBq.mp e;have(I,z,B):=oMq.mp y;subst B;have(as,h1):=ih 0 d v rfl rfl _ x r s;have(bs,h2):=Bv (λi C E G H=>ih (i+1) C E (by show G)<|by show H) (by simpa using hl) t z;show(_,.cons h1 h2)
def Er{σ:St}(I:Inv X O σ H s)(r:rq X.K H d v):∀u x,qW v u->py d=aK x->∃as,Reads s.heap u x as:=by induction r with
 |non=>intro u x y e;cases y;simp?[py]at e;cases e;show(_,.none)
 |bl=>intro u x y e;cases y;simp?[py]at e;cases e;show(_,.bool _)
 |int=>intro u x y e;have(t,rfl):=y;simp?[py]at e;cases e;show(_,.int _ _)
 |str=>intro u x y e;have(t,rfl):=y;simp?[py]at e;cases e;show(_,.str _ _)
 |ty=>intro u x y e;simp?[py]at e;cases e
 |list h l _ z=>intro u x y e;cases y;simp?[py]at e;have(P,B,rfl):=oMq.mp e;have(C,E,hl,Q):=oG I<|kc h;have(o,G,J,n,hd):=eQ hl;have(as,L):=Bv z l E B;show(_,Reads.list G J hd<|by show L)
 |tup h l _ z=>intro u x y e;cases y;simp?[py]at e;have(P,B,rfl):=oMq.mp e;have(C,E,(o,G,J,n,hd),Q):=I.tuple<|o8 h;have(as,L):=Bv z l E B;show(_,aA3 G J hd<|by show L)
 |dict h l _ z=>intro u x y e;simp?[py]at e;cases e
 |fd h l _ z=>intro u x y e;simp?[py]at e;cases e
 |scr h=>intro u x y e;simp?[py]at e;cases e
 |exc M R h S=>intro u x y e;simp?[py]at e;cases e
 |exc0 M h=>intro u x y e;simp?[py]at e;cases e
 |cls h=>intro u x y e;simp?[py]at e;cases e
 |ins M h l _ z=>intro u x y e;simp?[py]at e;cases e
def X7(K:Ζ)(neg:Bool):R2:=λx y H Q=>∃d e a b,rq K H d x/\rq K H e y/\py d=aK a/\py e=aK b/\mG a=t_/\mG b=t_/\j4 a b=t_ /\
 Q (lR<|if neg then !(g0 a b)else g0 a b) H
def aa0(l:ic X.A+64<lg):Fk X (lV .Eq)<|X7 X.K f_:=by intro J s σ H x y v u Q I n r h;have(d,e,a,b,h1,h2,t,z,B,C,nm,q):=h;have(L,E):=Er I h1 _ _ n t;have(bs,G):=Er I h2 _ _ r z;show jY E G B C l nm<|qQ I q rfl
def K2(l:ic X.A+64<lg):Fk X (lV .NotEq)<|X7 X.K t_:=by intro J s σ H x y v u Q I n r h;have(d,e,a,b,h1,h2,t,z,B,C,nm,q):=h;have(L,E):=Er I h1 _ _ n t;have(bs,G):=Er I h2 _ _ r z;show jZ E G B C l nm<|qQ I q rfl
noncomputable def yi(d e:D):Option D:=cc (py d) λa=>cc (py e) λb=>if mG a=t_/\mG b=t_/\j4 a b=t_ then aK (fb<|g0 a b)else n_
def zO(d e:D):Option D:=cc (yi d e) Sm
def acA:Ex K (X7 K f_) yi:=by
 intro x y H Q l n d r s e q;have(a,t,e):=oBq.mp e;have(b,u,e):=oBq.mp e;split at e;.rename_i h;cases e;show(l,n,a,b,r,s,t,u,h.1,h.2.1,h.2.2,q _ IT)
 .cases e
def KY:Ex K (X7 K t_) zO:=by
 intro x y H Q l n d r s e q;have(c,e,t):=oBq.mp e;have(a,u,e):=oBq.mp e;have(b,z,e):=oBq.mp e;split at e;.rename_i h;cases e;cases t;show(l,n,a,b,r,s,u,z,h.1,h.2.1,h.2.2,q _ IT)
 .cases e
noncomputable abbrev dI(ns:Ϝ):D:=d9<|ns.map bo
abbrev dM(rs:Λ):D:=d9<|rs.map dI
def LQ(ns:Ϝ):FX (ns.map bo)=aK (ns.map aA8):=by induction ns with
 |nil=>rfl
 |cons n ns l=>simp[FX,py,l]
def abf ns:py (dI ns)=aK (zY ns):=by simp?[py,LQ];rfl
def Uq(rs:Λ):FX (rs.map dI)=aK (rs.map zY):=by induction rs with
 |nil=>rfl
 |cons r rs l=>change FX (dI r::rs.map dI)=_;simp?[FX,abf,l];rfl
def ad0 rs:py (dM rs)=aK (Hw rs):=by simp?[py,Uq];rfl
def HX r:mG (zY r)=t_:=by
 have h2:=sd r;have l:gE (zY r)<=64:=by simp?[zY,gE];lia
 change(hJ (zY r) && decide (gE (zY r)<=64))=t_;rw[iE];show(by show nM r,d7 l)
@[simp] theorem aaW ns ms:yi (dI ns) (dI ms)=aK (fb<|decide<|ns=ms):=by unfold yi;rw[abf,abf];change(if _ then _ else _)=_;rw[qz (HX ns,HX ms,by show rr ns ms)];simp?[zY,g0,sF]
@[simp] theorem Qe rs l:yi (dM rs) (dM l)=aK (fb<|decide<|rs=l):=by unfold yi;rw[ad0,ad0];change(if _ then _ else _)=_;rw[qz (FU rs,FU l,by show Hj rs l)];simp?[Hw,g0,IV]
@[simp] theorem VE ns ms:zO (dI ns) (dI ms)=aK (fb<|!decide (ns=ms)):=by unfold zO;rw[aaW];rfl
@[simp] theorem acH rs l:zO (dM rs) (dM l)=aK (fb<|!decide (rs=l)):=by unfold zO;rw[Qe];rfl
def CZ(l:ML):MK:=λS=>(l S).map λx=>%[el<|x.1.map b8|x.2]
def Kf(l:ML):MK:=λS=>cc (l S) λx=>cc (su x.1) λns=>wa (aX ns<64)<|aK %[el<|(qY ns).map λn=>b8<|bo n|x.2]
def uz:List D->Option Λ
 | []=>aK []
 | d9 ds::es=>cc (su ds) λr=>(uz es).map (r :: ·)
 |_=>n_
theorem JO:∀{ds}{rs},uz ds=aK rs->ds=rs.map dI
 | [],rs,h=>by cases h;rfl
 |d::ds,rs,h=>by cases d with
  |list n=>have(r,h1,h):=oBq.mp<|h;have(s,h2,l):=oMq.mp h;subst l;rw[JO h2,uZ h1];rfl
  |_=>cases h
@[simp] theorem tx rs:uz (rs.map dI)=aK rs:=by induction rs with
 |nil=>rfl
 |cons r rs l=>change(su<|r.map bo).bind (λr=>(uz<|rs.map dI).map (r :: ·))=_;rw[rP,l];rfl
def afA(l:ML):MK:=λS=>cc (l S) λx=>cc (uz x.1) λrs=>wa (aX rs<64)<|aK %[el<|(Fe rs).map λr=>b8<|dI r|x.2]
def ZN(hl:SQ K te l):SK K (Ng (λxs H Q=>∃p ys,xs=[cx p]/\(sN K H p ys∨zd K H p ys)/\∀l,H l=n_->Q (cx l) (rG H l<|et ys))<|uK te wV)<|CZ l:=by intro H₀ n J S σ H L M O R e Q q;have(x,y,e):=oMq.mp e;cases e;show hl R y _ λz P Fs1 B r s t h1 C=>(B,r,rfl,jB h1,λp u=>?_);have(E,G,I,U,X):=t.new u;show q _ _ _ (cx p) [p] (hU s E) G (x4 pW I C)<|(q5 t u).back s
def BZ(ns:Ϝ):(ns.map λn=>b8<|bo n)=(ns.map bo).map b8:=by rw[mPq];rfl
def Kz{x:Option α}{y}(e:wa c x=aK y):c/\x=aK y:=by
 obtain h|h:=qe e;.show h
 .cases h
def LM(hl:SQ K te l):SK K (Ng (λxs H Q=>∃a ns,xs=[cx a]/\aX ns<64/\sN K H a (ns.map c8)/\∀p,H p=n_->Q (cx p) (rG H p<|et<|(qY ns).map c8))<|uK te wV)<|Kf l:=by intro H₀ n M S σ H O P U R e Q q;have(x,z,e):=oBq.mp e;have(ns,B,e):=oBq.mp e;have(r,e):=Kz e;cases e;show hl R z _ λC X Fs1 E G s t h1 u=>?_;rw[uZ B]at u;rw[qP u]at h1;show(E,ns,rfl,r,h1,λp y=>?_);have(I,J,L,Y,n3):=t.new y;rw[BZ]at q;show q _ _ _ (cx p) [p] (hU s I) J (x4 pW L<|wj _)<|(q5 t y).back s
theorem C1:∀{rs}{vs},qo K H (rs.map dI) vs->∃ps,vs=ps.map cx/\uh H ps rs
 | [],vs,h=>([],h8 h,.nil)
 |r::rs,vs,h=>by have(v,u,rfl,h1,h2):=eC h;have(p,x,rfl,n,s):=l5 h1;rw[qP s]at n;have(ps,rfl,t):=C1 h2;show(p::ps,rfl,e8 uh.cons_iff (n,t))
noncomputable def tyD:String->D->Bool
 |T,d9 _=>T == "list"
 |T,ov _=>T == "list"
 |T,j5 _=>T == "str"
 |_,_=>f_
def Oj(T:String)(f:D->List D->Option D)(a:ME)(as:ML):ME:=λS=>cc (a S) λx=>if tyD T x.1=t_ then cc (as x.2) λy=>(f x.1 y.1).map λd=>%[d|y.2]else n_
def BmD(K:Ζ)(r:V->List V->Hp->VK->Prop)(f:D->List D->Option D):Prop:=∀{x}{vs}{H}{Q}{l}{ds}{d},rq K H l x->qo K H ds vs->f l ds=aK d->(∀v,rq K H d v->Q v H)->r x vs H Q
set_option tactic.hygienic true in
def acd(h:tyD T d=t_)(n:rq K H d v):tyV K T v H:=by
 cases n <;> simp?[tyD]at h;all_goals first|(simp at h;done)|skip
 .show eq_of_beq h
 .rename_i p s t h1 l e;show jB (eq_of_beq h,s,kc h1)
 .rename_i p u h1;show .inl (eq_of_beq h,_,h1)
def Na(hr:BmD K r f)(ha:SR K te a)(t:WJ K ta as):SR K (Ui K T r te ta)<|Oj T f a as:=by
 intro H₀ l P S σ H U d X R e Q q;have(x,u,e):=oBq.mp e;split at e;.rename_i B;have(y,C,e):=oBq.mp e;have(z,E,e):=oMq.mp e;cases e;show ha R u _ λG Y Fs1 v I J n=>(acd B n,t J C _ λL H2 Fs2 vs s R2 M=>?_);show hr (Qf n s.sh) M E λv O=>q _ _ _ v (hU I s) R2 O
 .cases e
def Ez:D->List D->Option D
 | d9 ds,[bo k]=>cc (su ds) λns=>if k∈ns then aK<|bo (ns.idxOf k:Nat)else n_
 |_,_=>n_
set_option tactic.hygienic true in
def UK:BmD K (Vv K) Ez:=by
 intro x y H Q z B d l rs e q;unfold Ez at e;split at e
 .rename_i C k;have(s,t,e):=oBq.mp e;split at e;.rename_i hk;cases e;have(v,E,rfl,h1,h2):=eC rs;rw[h8 h2];cases h1;rw[uZ t]at l;have(p,G,rfl,n,u):=l5 l;rw[qP u]at n;show(p,s,k,rfl,rfl,kc n,hk,q _ rE)
  .cases e
 .cases e
def IX(a:ME):ME:=λS=>cc (a S) λx=>match x.1 with
 | d9 ds=>(uz ds).map λrs=>%[bo (rs.countP (·=([]:Ϝ)):Nat)|x.2]
 |_=>n_
def Zv(ha:SR K te a):SR K (Ui K "list" Vl te<|uK (abI wV) wV)<|IX a:=by
 intro H₀ l O S σ H P d U R e Q q;have(x,z,e):=oBq.mp e;show ha R (d:=x.1) (S':=x.2) z _ λB C Fs1 v E G t=>?_;split at e;.rename_i X I;have(rs,J,e):=oMq.mp e;cases e;rw[I,JO J]at t;have(p,Y,rfl,n,L):=l5 t;have(ps,rfl,u):=C1 L;show(jB (rfl,_,kc n),aH _,λb s=>?_);have(y,M,n1,n2,n3):=G.new (o:=et []) s;show(p,b,ps,rs,[],rfl,rfl,(by rw[pI<|ri n s];show n),u.same y.sh,pW,u.free (H:=C) s,q _ _ _ _ (hU E y) M rE)
 .cases e
noncomputable def afX:D->Option Bool
 | kR=>aK f_
 | fb b=>aK b
 | bo i=>aK<|i != 0
 | d9 ds=>aK<|!ds.isEmpty
 | eH ds=>aK<|!ds.isEmpty
 | mA ds=>aK<|!ds.isEmpty
 |_=>n_
def ag4(a:ME):MT:=λS=>cc (a S) λx=>(afX x.1).map λb=>%[b|x.2]
noncomputable def si:AV->Θ->Option (List AV)
 | el l,[]=>aK l
 | el l,j::js=>cc (l[j]?) λa=>si a js
 |_,_=>n_
noncomputable def putAt:AV->Θ->List AV->AV
 | el _,[],as=>el as
 | el l,j::n,as=>match l[j]? with
  |aK a=>el<|i8 l j<|putAt a n as
  |n_=>el l
 |a,_,_=>a
def Kv(H:Hp):V->Θ->V->Prop
 |v,[],w=>v=w
 |v,j::js,w=>∃p vs u,v = cx p/\H p=aK (et vs)/\vs[j]?=aK u/\Kv H u js w
section
variable {S:AS}
theorem Bh:∀{Fs:List Δ}{F G}i,c9 (bf Fs)->Fs[i]?=aK G->c9 F->(∀p∈F,p∈G∨p∉bf Fs)->c9 (i8 Fs i F).flatten
 | [],F,G,i,h,e,_,_=>by simp at e
 |E::Gs,F,G,0,h,e,hF,hd=>by
  simp at e;subst e;rw[fY,fCq,nAq];rw[fCq,nAq]at h;show(hF,h.2.1,λa ha b l e=>?_);subst e;obtain z|z:=hd a ha;.show h.2.2 a z a l rfl
  .show z<|by show ay _ l
 |E::Gs,F,G,i+1,h,e,hF,hd=>by
  rw[ik,fCq,nAq];rw[fCq,nAq]at h;have n:=by show e
  show(h.1,Bh i h.2.1 n hF λp r=>(hd p r).imp id λz m=>z<|by show ay _ m,λa ha b l e=>?_);subst e;obtain q|q:=uP l
  .obtain z|z:=hd a q;.show h.2.2 a ha a (e8 mFq (G,mGq n,z)) rfl
   .show z<|by show bw _ ha
  .show h.2.2 a ha a q rfl
theorem Hr:∀{Fs:List Δ}{F G}{i j:Nat}{p},c9 (bf Fs)->Fs[i]?=aK F->Fs[j]?=aK G->i≠j->p∈F->p∉G
 | [],F,G,i,j,p,_,e,_,_,_,_=>by simp at e
 |E::Es,F,G,0,0,p,h,e,f,n,_,_=>n rfl
 |E::Es,F,G,0,j+1,p,h,e,f,n,hp,m=>by simp at e;subst e;rw[fCq,nAq]at h;show h.2.2 p hp p (e8 mFq (G,mGq<|by show f,m)) rfl
 |E::Es,F,G,i+1,0,p,h,e,f,n,hp,m=>by simp at f;subst f;rw[fCq,nAq]at h;show h.2.2 p m p (e8 mFq (F,mGq<|by show e,hp)) rfl
 |E::Es,F,G,i+1,j+1,p,h,e,f,n,hp,m=>by rw[fCq,nAq]at h;show Hr h.2.1 (by show e) (by show f) (λz=>n<|by rw[z]) hp m
theorem qA.path:∀{path}{L}{v}{F}{as},qA K Hf H L v F->c9 F->si L path=aK as->∃p vs I,Kv H v path (cx p)/\H p=aK (et vs)/\Hf p=n_/\qF K Hf H as vs I/\p∈F/\p∉bf I/\c9 (bf I)/\(∀q∈bf I,q∈F) /\
  ∀t s l,qF K Hf (rG H p<|et s) t s l->c9 (p::bf l)->(∀q∈bf l,q∈bf I∨q∉F)->∃P,qA K Hf (rG H p<|et s) (putAt L path t) v P/\c9 P/\∀q∈P,q∈F∨q∈bf l
 | [],L,v,F,as,r,nd,e=>by cases L with
  |ow u=>
   cases e;have(p,vs,I,rfl,rfl,h1,h2,C):=r.ow_inv;have n:=az.mp nd;show(p,vs,I,rfl,h1,h2,C,by simp,n.1,n.2,λq B=>mCo _ B,λt s l r' M Z=>(p::bf l,Mw pW h2 r',M,λq B=>?_));obtain z|z:=ag.mp B;.show jB<|by rw[z];simp
   .show ir z
  |_=>cases e
 |j::js,L,v,F,as,r,nd,e=>by cases L with
  |ow u=>
   have(a,e1,e2):=oBq.mp<|show(u[j]?).bind (λa=>si a js)=aK as from e;have(J,E,Gs0,rfl,rfl,h1,h2,C):=r.ow_inv;have n:=az.mp nd;have Q:j<aX u:=(gSq.mp e1).1;have Y:E[j]?=aK (E[j]'(C.1 ▸ Q)):=gEg _;have R:Gs0[j]?=aK (Gs0[j]'(C.2.1 ▸ Q)):=gEg _;generalize E[j]'(C.1 ▸ Q)=vj at Y;generalize Gs0[j]'(C.2.1 ▸ Q)=Fj at R;have rj:=C.2.2 j a vj Fj e1 Y R;have ndj:c9 Fj:=bp.sublist (aM<|mGq R) n.2;have sub:∀q∈Fj,q∈bf Gs0:=λq B=>rB R B;have(p,vs,I,g1,g2,g3,g4,g5,g6,g6',g7,g8):=qA.path rj ndj e2;have pne:J≠p:=λz=>n.1<|z ▸ sub p g5;show(p,vs,I,(J,E,vj,rfl,h1,Y,g1),g2,g3,g4,mCo _<|sub p g5,g6,g6',λq B=>mCo _<|sub q<|g7 q B,λt s l r' M hd=>?_);have(P,k1,k2,k3):=g8 t s l r' M λq B=>(hd q B).imp id λz m=>z<|mCo _<|sub q m;have hF':∀q∈P,q∈Fj∨q∉bf Gs0:=λq B=>by
    obtain z|z:=k3 q B;.show jB z
    .obtain y|y:=hd q z;.show jB<|g7 q y
     .show ir λm=>y<|mCo _ m
   show(J::bf (i8 Gs0 j P),?_,e8 az (λm=>?_,Bh j n.2 R k2 hF'),λq B=>?_)
   .change qA K Hf (rG H p<|et s) (match u[j]? with|aK a=>el<|i8 u j<|putAt a js t|n_=>el u) (cx J) _;rw[e1];show .ow (vs:=E) (by rw[pI pne];show h1) h2 (by rw[lZq];show C.1) (by rw[lZq,lZq];show C.2.1) λi b w G X q2 U=>?_;rw[bM]at X U;by_cases O:j=i;.subst O;rw[qz rfl,qz Q]at X;rw[qz rfl,qz<|C.2.1 ▸ Q]at U;rw[Y]at q2;cases X;cases q2;cases U;show k1
    .rw[qE O]at X U;show(C.2.2 i b w G X q2 U).keepUpd λm=>Hr n.2 R U O g5 m
   .obtain z|z:=uP m
    .obtain y|y:=k3 J z;.show n.1<|sub J y
     .obtain x|x:=hd J y;.show n.1<|sub J<|g7 J x
      .show x ⋯
    .show n.1 z
   .obtain z|z:=ag.mp B;.show jB<|by rw[z];simp
    .obtain z|z:=uP z;.show(k3 q z).imp (λy=>mCo _<|sub q y) id
     .show jB<|mCo _ z
  |_=>cases e
def qI.turnAny(R:qI K H₀ Hf₀ Hf S σ H Fs)(E:σ[i]?=aK (aK v))(C:Fs[i]?=aK F)(s:p∈F)(r:qA K Hf (rG H p o) B v x)(nd:c9 x)
  (hf:∀q∈x,H₀ q=n_/\q∉bf (i8 Fs i [])):qI K H₀ Hf₀ Hf (i8 S i<|aK B) σ (rG H p o)<|i8 Fs i x:=by
 have t:=e8 mFq (F,mGq C,s);have pn:=(R.mem t).2;have I:=R.fresh p t;have out:=wL R.nd C s;have J:qI K H₀ Hf₀ Hf (i8 S i n_) σ (rG H p o)<|i8 Fs i []:=by
  show(by simp[R.len],by simp[R.lenF],λj a n=>?_,λj n=>?_,uB i R.nd aW (λp s=>by cases s),λp s=>R.fresh p<|tJ s,λb u e=>?_,λb u e=>?_,R.lim,R.sf)
  .rw[bM]at n;by_cases l:i=j;.subst l;rw[qz rfl]at n;split at n <;> cases n
   .rw[qE l]at n;have(w,G,f1,f2,q):=R.rep j a n;show(w,G,f1,by rw[aJ l];show f2,q.keep (j9 _) (λc y=>pI λe=>out ?_) λc y=>(y8 q c y).2);cases e;show e8 mFq (G,mGq<|by rw[aJ l];show f2,y)
  .rw[bM]at n;by_cases l:i=j
   .subst l;rw[qz rfl]at n;split at n;.rename_i L;rw[aV<|fQ R.lenF ▸ L]
    .cases n
   .rw[qE l]at n;rw[aJ l];show R.emp j n
  .rw[pI λz=>by rw[z,pn]at e;cases e];show R.sub b u e
  .rw[pI λz=>by rw[z,I]at e;cases e];show R.fr b u e
 show J.again (F:=F) E r nd hf
def qI.kill(R:qI K H₀ Hf₀ Hf S σ H Fs)x:qI K H₀ Hf₀ Hf (i8 S x n_) σ H<|i8 Fs x []:=by
 show(by simp[R.len],by simp[R.lenF],λj a n=>?_,λj n=>?_,uB x R.nd aW (λp r=>by cases r),λp r=>R.fresh p<|tJ r,R.sub,R.fr,R.lim,R.sf)
 .rw[bM]at n;by_cases l:x=j;.subst l;rw[qz rfl]at n;split at n <;> cases n
  .rw[qE l]at n;have(w,G,f1,f2,q):=R.rep j a n;show(w,G,f1,by rw[aJ l];show f2,q)
 .rw[bM]at n;by_cases l:x=j
  .subst l;rw[qz rfl]at n;split at n;.rename_i s;rw[aV<|fQ R.lenF ▸ s]
   .cases n
  .rw[qE l]at n;rw[aJ l];show R.emp j n
def qI.any(R:qI K H₀ Hf₀ Hf (i8 S x n_) σ H Fs)v:qI K H₀ Hf₀ Hf (i8 S x n_) (i8 σ x<|aK v) H Fs where
 len:=by rw[R.len,lZq]
 lenF:=R.lenF
 rep:=λi n e=>by
  by_cases l:x=i;.subst l;rw[bM]at e;rw[qz rfl]at e;split at e <;> cases e
  .have(w,G,f1,f2,q):=R.rep i n e;show(w,G,by rw[aJ l];show f1,f2,q)
 emp:=R.emp
 nd:=R.nd
 fresh:=R.fresh
 sub:=R.sub
 fr:=R.fr
 lim:=R.lim
 sf:=R.sf
end
noncomputable abbrev aI(ns:Ϝ):AV:=el<|ns.map λn=>b8<|bo n
noncomputable def JQ:List AV->Option Ϝ
 | []=>aK []
 | b8 (bo i)::r=>(JQ r).map (i :: ·)
 |_=>n_
def Jo:List AV->Option Λ
 | []=>aK []
 | el as::r=>cc (JQ as) λns=>(Jo r).map (ns :: ·)
 |_=>n_
theorem Mh:∀{as}{ns},JQ as=aK ns->as=ns.map λn=>b8<|bo n
 | [],ns,h=>by cases h;rfl
 |a::as,ns,h=>by cases a with
  |sh d=>cases d with
   |int i=>have(l,h1,h2):=oMq.mp<|h;subst h2;rw[Mh h1];rfl
   |_=>cases h
  |_=>cases h
theorem Nk:∀{as}{rs},Jo as=aK rs->as=rs.map aI
 | [],rs,h=>by cases h;rfl
 |a::as,rs,h=>by cases a with
  |ow n=>have(r,h1,h):=oBq.mp<|h;have(s,h2,l):=oMq.mp h;subst l;rw[Nk h2,Mh h1];rfl
  |_=>cases h
@[simp] theorem Tw ns:JQ (ns.map λn=>b8<|bo n)=aK ns:=by induction ns with
 |nil=>rfl
 |cons n ns l=>change(JQ<|ns.map λn=>b8<|bo n).map (n :: ·)=_;rw[l];rfl
@[simp] theorem S6 rs:Jo (rs.map aI)=aK rs:=by induction rs with
 |nil=>rfl
 |cons r rs l=>change(JQ<|r.map λn=>b8<|bo n).bind (λs=>(Jo<|rs.map aI).map (s :: ·))=_;rw[Tw,l];rfl
def J8(k:MK):MK:=λS=>cc (k S) λx=>match x.1 with
 | el l=>cc (Jo l) λrs=>wa (aX rs<64)<|aK %[el<|(Fe rs).map aI|x.2]
 |_=>n_
def OY(h:qA K Hf H (aI ns) v F):∃p,v = cx p/\F=[p]/\H p=aK (et<|ns.map c8)/\Hf p=n_:=by
 have(p,l,r,rfl,rfl,h1,h2,s):=h.ow_inv;have e:∀{ns:Ϝ}{l:List V}{r:List Δ},qF K Hf H (ns.map λn=>b8<|bo n) l r->l=ns.map c8/\bf r=[]:=by intro ns;induction ns with
  |nil=>intro l r h;have(a,b):=h.nil_inv;show(a,by rw[b];rfl)
  |cons n ns t=>intro l r h;have(v,E,F,u,rfl,rfl,x,y):=qF.cons_inv h;have(f1,f2):=pR x;subst f1;cases f2;have(z,g2):=t y;rw[z];show(rfl,by rw[fCq,g2];rfl)
 have(B,C):=e s;rw[C];subst B;show(p,rfl,rfl,h1,h2)
def ab9(h1:H p=aK (et<|ns.map c8))(h2:Hf p=n_):qA K Hf H (aI ns) (cx p) [p]:=by have:=x4 (K:=K) h1 h2<|wj ns;rw[←BZ]at this;show this
theorem Bz:∀{rs}{vs}{l},qF K Hf H (rs.map aI) vs l->∃ps,vs=ps.map cx/\l=ps.map (λp=>[p])/\uh H ps rs/\∀p∈ps,Hf p=n_
 | [],vs,l,h=>by have(a,b):=h.nil_inv;show([],a,b,.nil,λp n=>by cases n)
 |r::rs,vs,l,h=>by have(v,B,F,s,rfl,rfl,t,u):=qF.cons_inv h;have(p,rfl,rfl,h1,h2):=OY t;have(ps,rfl,rfl,x,y):=Bz u;show(p::ps,rfl,rfl,e8 uh.cons_iff (h1,x),λq z=>(ag.mp z).elim (λe=>e ▸ h2)<|y q)
theorem GS:∀{rs}{ps},uh H ps rs->(∀p∈ps,Hf p=n_)->qF K Hf H (rs.map aI) (ps.map cx) (ps.map λp=>[p])
 | [],[],_,_=>.nil
 | [],_::_,h,_=>by have:=h.length;simp at this
 |_::_,[],h,_=>by have:=h.length;simp at this
 |r::rs,p::ps,h,n=>by have(h1,h2):=uh.cons_iff.mp h;show .cons (ab9 h1<|n p ⋯)<|GS h2 λq l=>n q<|mCo _ l
def L7(ps:Δ):bf (ps.map λp=>[p])=ps:=by induction ps with
 |nil=>rfl
 |cons p ps l=>rw[ax,fCq,l];rfl
def SV(hk:SK K te k):SK K (Ng (λxs H Q=>∃a ps rs,xs=[cx a]/\aX ps<64/\sN K H a (ps.map cx)/\uh H ps rs /\
  ∀p n,H p=n_->dg n ps->uh (rG H p<|et<|n.map cx) n (Fe rs)->Q (cx p) (rG H p<|et<|n.map cx))<|uK te wV)<|J8 k:=by
 intro H₀ t Hf S σ H Fs av S' R e Q q;have(x,M,e):=oBq.mp e;show hk R M _ λO P Fs1 v F I U J r=>?_;split at e
 .rename_i X Y;have(rs,e2,e):=oBq.mp e;have(u,e):=Kz e;cases e;rw[Y,Nk e2]at J;have(L,vs,Gs,rfl,rfl,h1,h2,h3):=J.ow_inv;have(ps,rfl,rfl,B,hn):=Bz h3;rw[L7]at r;show(L,ps,rs,rfl,by rw[B.length];show u,kc h1,B,λp n C s E=>?_);have(t4,R4,n1,n2,n3):=U.new C;have pq:=λm=>B.free (H:=P) C<|s.mem_iff.mp m;have G:∀z∈n,z∈L::ps:=λz l=>mCo _<|s.mem_iff.mp l;show q _ _ _ (cx p) (p::bf (n.map λp=>[p])) (hU I t4) R4 (Mw pW n1<|GS E λz l=>hn z<|s.mem_iff.mp l) ?_;rw[L7];show(e8 az (pq,e8 (l8 s) (az.mp r.nd).2),λz l=>?_,λz l=>?_,λz l=>?_)
  .obtain y|y:=ag.mp l;.rw[y];show n2
   .show r.fr z<|G z y
  .obtain y|y:=ag.mp l;.rw[y];show n3
   .show r.out z<|G z y
  .obtain y|y:=ag.mp l;.rw[y];show jB<|I.sh.free C
   .show r.new z<|G z y
 .cases e
def Sf:AV->Option D
 | b8 d=>if d.scal=t_ then aK d else n_
 |_=>n_
def qO(f:MF)(a:ML):ME:=λS=>cc (a S) λx=>cc (f x.1) λr=>(Sf r).map λd=>%[d|x.2]
def ug(ha:WJ K u a):SR K (Mv (sH K f) [] E0 u)<|qO f a:=by intro H₀ t Hf S σ H X d Y R e Q q;have(x,C,e):=oBq.mp e;have(r,E,e):=oBq.mp e;have(z,n,e):=oMq.mp e;cases e;show ha R C _ λs y Fs1 vs G I J=>?_;rw[aNq];show(y,x.1,r,j9 _,J,E,λL M v F s1 B s3 l O nd fr=>?_);have P:zW s y Fs1 s M Fs1:=(j9 _,B,λZ h=>h,λb h g=>absurd h g);cases r with
 |sh d'=>
  simp?[Sf]at n;split at n;.rename_i U;cases n;show q _ _ _ v (hU G P) (I.laid B)<|(pR O).2.scal U
  .cases n
 |_=>cases n
section
variable (S:AS)
@[simp] theorem adH i:oR i S=(rg S[i]?).map λa=>%[pE a|S]:=rfl
@[simp] theorem adx i:pD i S=(rg S[i]?).map λa=>%[b8<|pE a|i8 S i<|aK<|b8<|pE a]:=rfl
@[simp] theorem aeW i:Bl i S=(rg S[i]?).map λa=>%[a|i8 S i n_]:=rfl
@[simp] theorem agf k:rOf k S=(k S).map λx=>%[pE x.1|x.2]:=rfl
@[simp] theorem afz m:kSc m S=cc (m S) λx=>if x.1.scal then aK %[b8 x.1|x.2]else n_:=rfl
@[simp] theorem aed k:vN k S=(k S).map λx=>%[b8<|pE x.1|x.2]:=rfl
@[simp] theorem rC_ d:rC d S=if d.scal then aK %[d|S]else n_:=rfl
@[simp] theorem afU f a b:pU f a b S=cc (a S) λx=>cc (b x.2) λy=>(f x.1 y.1).map λd=>%[d|y.2]:=rfl
@[simp] theorem agc f a:Bn f a S=cc (a S) λx=>(f x.1).map λd=>%[d|x.2]:=rfl
@[simp] theorem adR a:ack a S=cc (a S) λx=>(Sm x.1).map λd=>%[d|x.2]:=rfl
@[simp] theorem abc a b:CL a b S=cc (a S) λx=>if x.1=t_ then b x.2 else aK %[f_|x.2]:=rfl
@[simp] theorem aeC a b:yf a b S=cc (a S) λx=>if x.1=t_ then aK %[t_|x.2]else b x.2:=rfl
@[simp] theorem abz a:wo a S=(a S).map λx=>%[!x.1|x.2]:=rfl
@[simp] theorem af0 c a b:rIf c a b S=cc (c S) λx=>if x.1=t_ then a x.2 else b x.2:=rfl
noncomputable def abO:D->Option Bool
 | fb b=>aK b
 |_=>n_
@[simp] theorem afR a:rH a S=cc (a S) λx=>(abO x.1).map λb=>%[b|x.2]:=by change(a S).bind _=_;congr 1;funext x;have(d,l):=x;cases d <;> rfl
set_option tactic.hygienic true in
@[simp] theorem aea a b:IQ a b S=cc (a S) λx=>cc (abO x.1) λc=>if c=t_ then b x.2 else aK %[fb f_|x.2]:=by
 change(a S).bind _=_;congr 1;funext x;have(d,l):=x;cases d <;> try rfl
 rename_i c;cases c <;> rfl
@[simp] theorem Y0 b:abO (fb b)=aK b:=rfl
@[simp] theorem adD:pJ S=aK %[[]|S]:=rfl
@[simp] theorem acv k r:oU k r S=cc (k S) λx=>(r x.2).map λy=>%[x.1::y.1|y.2]:=rfl
@[simp] theorem acM:oV S=aK %[[]|S]:=rfl
@[simp] theorem ZC k r:oQ k r S=cc (k S) λx=>(r x.2).map λy=>%[x.1::y.1|y.2]:=rfl
@[simp] theorem aeO a:tF a S=cc (a S) λx=>wa (aX x.1<=qZ)<|aK %[el x.1|x.2]:=rfl
@[simp] theorem adu a:EM a S=cc (a S) λx=>wa (aX x.1<=qZ)<|aK %[b8<|eH<|x.1.map pE|x.2]:=rfl
@[simp] theorem aeG a b:EV a b S=cc (a S) λx=>cc (b x.2) λy=>wa (aX x.1+aX y.1<=qZ)<|aK %[el<|(x.1++y.1).map b8|y.2]:=rfl
@[simp] theorem ac0:xT S=aK %[n_|S]:=rfl
@[simp] theorem acD m:tX m S=cc (m S) λx=>(intOf x.1).map λi=>%[aK i|x.2]:=by change(m S).bind _=_;congr 1;funext x;have(d,l):=x;cases d <;> rfl
@[simp] theorem Sw i:intOf (bo i)=aK i:=rfl
@[simp] theorem af9 l lo n:JZ l lo n S=cc (l S) λx=>cc (lo x.2) λy=>(n y.2).map λz=>%[el<|(Ak x.1 y.1 z.1).map b8|z.2]:=rfl
@[simp] theorem afP l b:NY l b S=cc (l S) λx=>cc (b x.2) λy=>cc (intOf y.1) λi=>(atI x.1 i).map λd=>%[b8 d|y.2]:=by change(l S).bind _=_;congr 1;funext x;congr 1;funext y;have(d,n):=y;cases d <;> rfl
@[simp] theorem agm f a:tY f a S=cc (a S) λx=>(f x.1).map λd=>%[d|x.2]:=rfl
@[simp] theorem acn f a:pQ f a S=cc (a S) λx=>(f<|x.1.map pE).map λr=>%[r|x.2]:=rfl
@[simp] theorem aca f a:qO f a S=cc (a S) λx=>cc (f x.1) λr=>(Sf r).map λd=>%[d|x.2]:=rfl
@[simp] theorem ab7:qm S=aK (k4 S):=rfl
@[simp] theorem YU:K8 S=n_:=rfl
noncomputable def Rj(o:Option RM)(b:MS):Option RM:=cc o λo=>match o with
 | k4 S'=>b S'
 |o=>aK o
@[simp] theorem VZ b:Rj (aK<|k4 S) b=b S:=rfl
@[simp] theorem V2 a b:Rj (aK<|.rt a) b=aK (.rt a):=rfl
@[simp] theorem adh a b:oZ a b S=Rj (a S) b:=rfl
@[simp] theorem ae1 i k:pX i k S=(k S).map λx=>k4<|i8 x.2 i<|aK x.1:=rfl
@[simp] theorem acu k:Vr k S=(k S).map λx=>k4 x.2:=rfl
@[simp] theorem aex k:qB k S=(k S).map λx=>.rt x.1:=rfl
@[simp] theorem afE c a b:wz c a b S=cc (c S) λx=>if x.1=t_ then a x.2 else b x.2:=rfl
@[simp] theorem aeA i k:zS i k S=cc (tD S i) λQ=>cc (k S) λx=>cc (tD x.2 i) λl=>wa (aX l<qZ)<|aK<|k4<|i8 x.2 i<|aK<|el<|l++[x.1]:=rfl
@[simp] theorem adP i l:LZ i l S=cc (tD S i) λQ=>cc (l S) λx=>cc (tD x.2 i) λn=>wa (aX n+aX x.1<=qZ)<|aK<|k4<|i8 x.2 i<|aK<|el<|n++x.1.map b8:=rfl
@[simp] theorem abS i b k:xS i b k S=cc (vN k S) λx=>cc (xO x.2 i) λQ=>cc (b x.2) λy=>cc (xO y.2 i) λkvs=>cc (xI y.1) λkey=>wa (aX kvs<qZ)<|aK<|k4<|i8 y.2 i<|aK<|eu<|xj kvs key<|pE x.1:=rfl
noncomputable def dictOf:D->Option (List<|pZ×D)
 | mA kvs=>aK kvs
 |_=>n_
@[simp] theorem MW kvs:dictOf (mA kvs)=aK kvs:=rfl
@[simp] theorem TM i:xI (bo i)=aK (ak i):=rfl
@[simp] theorem WE a b:wM a b S=cc (a S) λx=>cc (b x.2) λy=>cc (dictOf y.1) λkvs=>(xI x.1).map λkey=>%[fb<|!j3 (getD kvs key)|y.2]:=by change(a S).bind _=_;congr 1;funext x;congr 1;funext y;have(d,l):=y;cases d <;> rfl
@[simp] theorem adb a b:tZ a b S=cc (a S) λx=>cc (b x.2) λy=>cc (dictOf x.1) λkvs=>cc (xI y.1) λkey=>(getD kvs key).map λd=>%[d|y.2]:=by change(a S).bind _=_;congr 1;funext x;have(d,l):=x;cases d <;> rfl
@[simp] theorem abP:C2 S=aK %[eu []|S]:=rfl
@[simp] theorem aeD x k body:A4 x k body S=cc (vN k S) λy=>cc (vD<|pE y.1) λds=>sD x body ds y.2:=rfl
@[simp] theorem Yv x a body:BB x a body S=cc (a S) λy=>cc (ET y.1) λds=>sD x body ds y.2:=rfl
@[simp] theorem aaS x y k body:Nf x y k body S=cc (vN k S) λz=>cc (vD<|pE z.1) λds=>De x y body 0 ds z.2:=rfl
@[simp] theorem aa2 x y k l body:VH x y k l body S=cc (vN k S) λz=>cc (vN l z.2) λw=>cc (vD<|pE z.1) λds=>cc (vD<|pE w.1) λes=>if aX ds=aX es then Dl x y body ds es w.2 else n_:=rfl
@[simp] theorem aa3 l fr r te:rF l fr r te S=cc (l S) λy=>cc (fzAll fr y.2) λs=>cc (J6 s fr) λcap=>wa (aX y.1<=qZ)<|(qJ r te cap y.1).map λn=>%[el n|s]:=rfl
@[simp] theorem adm k:wC k S=cc (vN k S) λy=>(vD<|pE y.1).map λds=>%[ds|y.2]:=rfl
@[simp] theorem afF a:iR1 a S=cc (a S) λy=>(ET y.1).map λds=>%[ds|y.2]:=rfl
@[simp] theorem Sk:fzAll [] S=aK S:=rfl
@[simp] theorem O7 j(l:Θ):fzAll (j::l) S=cc (rg S[j]?) λa=>fzAll l<|i8 S j<|aK<|b8<|pE a:=rfl
@[simp] theorem WW:J6 S []=aK []:=rfl
@[simp] theorem TF j(l:Θ):J6 S (j::l)=cc (ab5<|rg S[j]?) λa=>(J6 S l).map (aK a :: ·):=rfl
@[simp] theorem ab1 l:CZ l S=(l S).map λx=>%[el<|x.1.map b8|x.2]:=rfl
@[simp] theorem Yy l:Kf l S=cc (l S) λx=>cc (su x.1) λns=>wa (aX ns<64)<|aK %[el<|(qY ns).map λn=>b8<|bo n|x.2]:=rfl
noncomputable def acr:AV->Option (List AV)
 | el l=>aK l
 |_=>n_
@[simp] theorem Y9 l:acr (el l)=aK l:=rfl
@[simp] theorem VT k:J8 k S=cc (k S) λx=>cc (acr x.1) λl=>cc (Jo l) λrs=>wa (aX rs<64)<|aK %[el<|(Fe rs).map aI|x.2]:=by change(k S).bind _=_;congr 1;funext x;have(d,n):=x;cases d <;> rfl
@[simp] theorem agg T f a as:Oj T f a as S=cc (a S) λx=>if tyD T x.1=t_ then cc (as x.2) λy=>(f x.1 y.1).map λd=>%[d|y.2]else n_:=rfl
noncomputable def aaK:D->Option (List D)
 | d9 ds=>aK ds
 |_=>n_
@[simp] theorem PV ds:aaK (d9 ds)=aK ds:=rfl
@[simp] theorem abn a:IX a S=cc (a S) λx=>cc (aaK x.1) λds=>(uz ds).map λrs=>%[bo (rs.countP (·=([]:Ϝ)):Nat)|x.2]:=by change(a S).bind _=_;congr 1;funext x;have(d,l):=x;cases d <;> rfl
def lsA:AV->Option (List D)
 | b8 (d9 ds)=>aK ds
 | el l=>aK<|l.map pE
 |_=>n_
@[simp] theorem abT ds:lsA (b8<|d9 ds)=aK ds:=rfl
@[simp] theorem ab3 l:lsA (el l)=aK (l.map pE):=rfl
@[simp] theorem afS k:lOf k S=cc (k S) λx=>(lsA x.1).map λds=>%[ds|x.2]:=by change(k S).bind _=_;congr 1;funext x;have(a,l):=x;cases a with
 |sh d=>cases d <;> rfl
 |_=>rfl
end
@[simp] theorem Xv (ds:List D):(ds.map b8).map pE=ds:=by
 rw[mPq];have:pE∘b8=id:=by funext d;rfl
 rw[this,cZ]
def hlf:AV->AV
 | el l=>el<|(l.map pE).map b8
 |a=>a
@[simp] theorem acf d:hlf (b8 d) = b8 d:=rfl
@[simp] theorem abl l:hlf (el l) = el ((l.map pE).map b8):=rfl
def GT{S:AS}(h:S[i]?=aK (aK a)):i8 S i (aK a)=S:=by have(hk,l):=gSq.mp h;rw[←l];show gC hk
@[simp] theorem ad3 S i:DT i S=cc (rg S[i]?) λa=>(lsA a).map λds=>%[ds|i8 S i<|aK<|hlf a]:=by unfold DT;cases e:rg S[i]? with
 |none=>rfl
 |some a=>cases a with
  |sh d=>cases d with
   |list ds=>change aK %[ds|S]=aK %[ds|i8 S i<|i4 ds];rw[GT<|qR e]
   |_=>rfl
  |ow n=>rfl
  |owd l=>rfl
  |owl l=>rfl
def lsQ:AV->Option (List D)
 | b8 (ov ns)=>aK<|ns.map bo
 |a=>lsA a
@[simp] theorem YW ns:lsQ (b8<|ov ns)=aK (ns.map bo):=rfl
@[simp] theorem acQ ds:lsQ (b8<|d9 ds)=aK ds:=rfl
@[simp] theorem acy l:lsQ (el l)=aK (l.map pE):=rfl
@[simp] theorem aeB S i:sX i S=cc (rg S[i]?) λa=>(lsQ a).map λds=>%[ds|i8 S i<|aK<|hlf a]:=by unfold sX;cases e:rg S[i]? with
 |none=>rfl
 |some a=>cases a with
  |sh d=>cases d with
   |list ds=>change aK %[ds|S]=aK %[ds|i8 S i<|i4 ds];rw[GT<|qR e]
   |scr l=>change aK %[l.map bo|S]=aK %[l.map bo|i8 S i<|aK<|b8<|ov l];rw[GT<|qR e]
   |_=>rfl
  |ow r=>rfl
  |owd n=>rfl
  |owl n=>rfl
@[simp] theorem Xq i:(bo i).scal=t_:=rfl
@[simp] theorem Yd i:(fb i).scal=t_:=rfl
@[simp] theorem Xn i:(j5 i).scal=t_:=rfl
@[simp] theorem UU:D.non.scal=t_:=rfl
@[simp] theorem ZD i:(D.ty i).scal=t_:=rfl
@[simp] theorem Vq i:Sf (b8<|bo i)=aK (bo i):=rfl
@[simp] theorem ZS i:Sf (b8<|fb i)=aK (fb i):=rfl
@[simp] theorem WX:Sf (b8 kR)=aK kR:=rfl
@[simp] theorem Yh i j:Al (bo i) (bo j)=aK (fb<|decide<|i=j):=rfl
@[simp] theorem YY i j:Al (j5 i) (j5 j)=aK (fb<|decide<|i=j):=rfl
@[simp] theorem YA b:Sm (fb b)=aK (fb<|!b):=rfl
@[simp] theorem QU i j:Gb (bo i) (bo j)=aK (fb<|!decide (i=j)):=rfl
@[simp] theorem YD i j:Gb (j5 i) (j5 j)=aK (fb<|!decide (i=j)):=rfl
@[simp] theorem SF ds:qV [d9 ds]=aK (bo<|aX ds):=rfl
@[simp] theorem UE ns:qV [ov ns]=aK (bo<|aX ns):=rfl
@[simp] theorem Tq i j:LS [bo i,bo j]=aK (bo<|if j<i then j else i):=rfl
@[simp] theorem Wz i:zZ [bo i,.ty "int"]=aK (fb t_):=by rfl
@[simp] theorem T4 i:zZ [bo i,.ty "bool"]=aK (fb f_):=by rfl
@[simp] theorem Lh ds:vD (d9 ds)=aK ds:=rfl
@[simp] theorem U0 ds i:DF (d9 ds) (bo i)=atI ds i:=rfl
@[simp] theorem Zg ns i:DF (ov ns) (bo i)=(atI ns i).map bo:=rfl
@[simp] theorem Yn d:ab5 (aK<|b8 d)=aK (b8 d):=rfl
@[simp] theorem Vm ds:tyD "list" (d9 ds)=t_:=rfl
def ZI(S)i:tD S i=cc (rg S[i]?) acr:=by unfold tD;cases rg S[i]? with
 |none=>rfl
 |some a=>cases a <;> rfl
noncomputable def aay:AV->Option (List<|pZ×D)
 | eu kvs=>aK kvs
 |_=>n_
@[simp] theorem R8 kvs:aay (eu kvs)=aK kvs:=rfl
def Wk(S)i:xO S i=cc (rg S[i]?) aay:=by unfold xO;cases rg S[i]? with
 |none=>rfl
 |some a=>cases a <;> rfl
theorem MN(P:Nat->AS->Prop):∀{ds}{S}{k},P k S->(∀i d S,ds[i]?=aK d->P (k+i) S->∃S',(body (i8 S x<|aK<|b8 d)=aK (k4 S')∨body (i8 S x<|aK<|b8 d)=aK (.ct S'))/\P (k+i+1) S')->∃S',sD x body ds S=aK (k4 S')/\P (k+aX ds) S'
 | [],S,k,h0,_=>(S,rfl,h0)
 |d::ds,S,k,h0,hs=>by
  have(S',e,h1):=hs 0 d S rfl h0;have l:=λi d S h p=>by
   have:=hs (i+1) d S (by show h)<|by rw[show k+(i+1)=k+1+i by lia];show p
   rw[show k+(i+1)=k+1+i by lia]at this;show this
  have(n,r,h2):=MN P h1 l;show(n,?_,by rw[lCq,show k+(aX ds+1)=k+1+aX ds by rfl'];show h2);change(body _).bind _=_;obtain e|e:=e <;> (rw[e];show r)
def uL(P:Nat->AS->Prop)(h0:P 0 S)(l:∀i d S,ds[i]?=aK d->P i S->∃S',body (i8 S x<|aK<|b8 d)=aK (k4 S')/\P (i+1) S'):∃S',sD x body ds S=aK (k4 S')/\P (aX ds) S':=by
 have:=MN P h0 λi d S h p=>by rw[aU]at p ⊢;have(S',e,q):=l i d S h p;show(S',jB e,q)
 rw[aU]at this;show this
theorem Qz(P:Nat->AS->Prop):∀{ds}{S}{k},P k S->(∀i d S,ds[i]?=aK d->P (k+i) S->∃S',body (i8 (i8 S x<|i0 (k+i:Nat)) y<|aK<|b8 d)=aK (k4 S')/\P (k+i+1) S')->∃S',De x y body k ds S=aK (k4 S')/\P (k+aX ds) S'
 | [],S,k,h0,_=>(S,rfl,h0)
 |d::ds,S,k,h0,hs=>by
  have(S',e,h1):=hs 0 d S rfl h0;have l:=λi d S h p=>by
   have:=hs (i+1) d S (by show h)<|by rw[show k+(i+1)=k+1+i by lia];show p
   rw[show k+(i+1)=k+1+i by lia]at this;show this
  have(n,r,h2):=Qz P h1 l;show(n,?_,by rw[lCq,show k+(aX ds+1)=k+1+aX ds by rfl'];show h2);change(body<|i8 (i8 S x<|i0<|k) y<|aK<|b8 d).bind _=_;rw[jq]at e;rw[e];show r
theorem aaA(P:Nat->AS->Prop):∀{ds es}{S}{k},aX ds=aX es->P k S->(∀i d e S,ds[i]?=aK d->es[i]?=aK e->P (k+i) S->∃S',body (i8 (i8 S x<|aK<|b8 d) y<|aK<|b8 e)=aK (k4 S')/\P (k+i+1) S')->∃S',Dl x y body ds es S=aK (k4 S')/\P (k+aX ds) S'
 | [],[],S,k,_,h0,_=>(S,rfl,h0)
 | [],_::_,S,k,hl,_,_=>by simp at hl
 |_::_,[],S,k,hl,_,_=>by simp at hl
 |d::ds,b::es,S,k,hl,h0,hs=>by
  have(S',e,h1):=hs 0 d b S rfl rfl h0;have l:=λi d e S h n p=>by
   have:=hs (i+1) d e S (by show h) (by show n)<|by rw[show k+(i+1)=k+1+i by lia];show p
   rw[show k+(i+1)=k+1+i by lia]at this;show this
  have(r,s,h2):=aaA P (by simpa using hl) h1 l;show(r,?_,by rw[lCq,show k+(aX ds+1)=k+1+aX ds by rfl'];show h2);change(body _).bind _=_;rw[e];show s
theorem qN{cap:AS}g:∀{ds},(∀d∈ds,∃S',te (aK (b8 d)::cap)=aK %[g d|S'])->qJ qi te cap ds=aK (ds.map g)
 | [],_=>rfl
 |d::ds,h=>by have(S',e):=h d ⋯;change(te<|aK (b8 d)::cap).bind (λa=>(qJ qi te cap ds).map (a.1 :: ·))=_;rw[e,qN g λx l=>h x<|mCo _ l];rfl
theorem B1{cap:AS}p g:∀{ds},(∀d∈ds,∃n,l (aK (b8 d)::cap)=aK %[p d|n]/\(p d=t_->∃S',te n=aK %[g d|S']))->qJ l te cap ds=aK ((ds.filter p).map g)
 | [],_=>rfl
 |d::ds,h=>by
  have(n,s,t):=h d ⋯;have r:=B1 p g λx u=>h x<|mCo _ u;change(l<|aK (b8 d)::cap).bind _=_;rw[s];change(if p d=t_ then _ else _)=_;by_cases c:p d=t_;.have(S',y):=t c;rw[qz c,y,List.filter_cons_of_pos c];rw[r];rfl
  .rw[qE c,List.filter_cons_of_neg c,r]
def Ac(f:α->β)xs lo l:Ak (xs.map f) lo l=(Ak xs lo l).map f:=by unfold Ak;rw[lMq,fK,ke]
def Ar(xs:List α)i(h:i<=aX xs):Ak xs (aK (i:Int)) n_=xs.drop i:=by unfold Ak;rw[HT.Gr,dY h,bV<|by rw[aL];show ab _]
def Cp(xs:List α)i(h:i<=aX xs):Ak xs n_ (aK (i:Int))=xs.take i:=by unfold Ak;simp?[HT.Gr,HT.Vs,dY h,hX,gU]
def NZ(xs:List α)(i j:Nat):Ak xs (aK (i:Int)) (aK (j:Int))=(xs.drop i).take (j-i):=by
 unfold Ak;rw[HT.Gr,HT.Gr];by_cases h:i<=aX xs
 .rw[dY h];by_cases h2:j<=aX xs;.rw[dY h2]
  .rw[jG ∅,bV<|by rw[aL];show ab _,bV<|by rw[aL];lia]
 .have e:min i (aX xs)=aX xs:=jG ∅;rw[e,bX<|ab<|aX xs,bX ∅];simp
def D7{xs:List α}(h0:0<=i):atI xs i=xs[jz i]?:=by
 unfold atI LV;rw[qz h0];by_cases h:i<aX xs;.rw[qz h];rfl
 .rw[qE h,aR ∅];rfl
def Yq(f:α->β)xs i:atI (xs.map f) i=(atI xs i).map f:=by unfold atI;rw[lMq];cases LV (aX xs) i with
 |none=>rfl
 |some j=>change(xs.map f)[j]?=_;rw[gMq];rfl
def QP(h:i<n):LV n (i:Int)=aK i:=by unfold LV;rw[qz<|by rfl',qz<|by ac_nf];simp
def Gw(ns:Ϝ):(ns.map bo).map b8=ns.map λn=>b8<|bo n:=by rw[mPq];rfl
def Lm(ns:Ϝ):(ns.map λn=>b8<|bo n).map pE=ns.map bo:=by rw[mPq];show mCq λn Q=>by rfl
def DY(rs:Λ):(rs.map aI).map pE=rs.map dI:=by rw[mPq];show mCq λr Q=>?_;change pE (el<|r.map λn=>b8<|bo n)=_;rw[sV,Lm]
def YO(rs:Λ):(rs.map dI).map b8=rs.map λr=>b8<|dI r:=by rw[mPq];rfl
def KF(rs:Λ):(rs.map λr=>b8<|dI r).map pE=rs.map dI:=by rw[mPq];show mCq λn Q=>by rfl
def pM ns:pE (aI ns)=dI ns:=by rw[sV,Lm]
def ZQ i j:yS (bo i) (bo j)=aK (bo<|i+j):=yB _
def Z1 i j:D3 (bo i) (bo j)=aK (bo<|i-j):=yB _
def acU i j:Qt (bo i) (bo j)=aK (fb<|decide<|i<j):=yB _
def aaU i j:dLe (bo i) (bo j)=aK (fb<|decide<|i<=j):=yB _
def abV i j:Iy (bo i) (bo j)=aK (fb<|decide<|j<i):=yB _
def aci i:vf (bo i)=aK (bo<|-i):=rfl
def p40:NW (bo 10) (bo 40)=aK (bo<|10 ^ 40):=xy (by decide,by decide,by decide) _
def p57:NW (bo 10) (bo 57)=aK (bo<|10 ^ 57):=xy (by decide,by decide,by decide) _
def Jc(h1:-(2 ^ 64)<i)(h2:i<2 ^ 64):Du (bo i) (bo j)=aK (bo<|i*j):=xy (jB (h1,h2)) _
def JA(h1:-(2 ^ 64)<j)(h2:j<2 ^ 64):Du (bo i) (bo j)=aK (bo<|i*j):=xy (ir (h1,h2)) _
def sG(h:0<j):rX (bo i) (bo j)=aK (bo<|i % j):=xy h _
def uR(h:0<j)(h2:j<1073741824):ve (bo i) (bo j)=aK (bo<|i / j):=xy (h,h2) _
def ad5:(0:Nat)<=qZ:=by decide
def aeg:(1:Nat)<=qZ:=by decide
def adT:(2:Nat)<=qZ:=by decide
def adU:(3:Nat)<=qZ:=by decide
def adq:(4:Nat)<=qZ:=by decide
def uq(h:n<=16777216):n<=qZ:=h
def Hl(h:n<16777216):n<qZ:=h
def vX{n:Nat}(h:n<1000000):ET [bo (n:Int)]=aK (qD 0 n):=by have e:ET [bo<|n]=aK (qD 0<|jz (n:Int)):=xy (by rfl',by lia) _;rw[e,cB]
def zG n:qD 0 n=(bD n).map λi:Nat=>bo i:=by show mCq λi Q=>by rw[iH]
def aeI(l n)m ds:sL l n m ds=if aX ds=l then cc (m<|ds.map (λd=>aK<|b8 d)++aF (n-aX ds) n_) λo=>match o with
  | .rt a=>aK a
  | k4 _=>aK<|b8 kR
  |_=>n_
 else n_:=rfl
def gt1{α:Type}{a b:α}{l}:(a::b::l)[1]?=aK b:=rfl
def Zm{α:Type}{a b v:α}{l}:i8 (a::b::l) 1 v=a::v::l:=rfl
def gt2{α:Type}{a b c:α}{l}:(a::b::c::l)[2]?=aK c:=rfl
def LJ{α:Type}{a b c v:α}{l}:i8 (a::b::c::l) 2 v=a::b::v::l:=rfl
def gt3{α:Type}{a b c d:α}{l}:(a::b::c::d::l)[3]?=aK d:=rfl
def st3{α:Type}{a b c d v:α}{l}:i8 (a::b::c::d::l) 3 v=a::b::c::v::l:=rfl
def gt4{α:Type}{a b c d:α}{l}:(a::b::c::d::l)[n+4]?=l[n]?:=rfl
def st4{α:Type}{a b c d v:α}{l}:i8 (a::b::c::d::l) (n+4) v=a::b::c::d::i8 l n v:=rfl
def ZP(h:∀ns:Ϝ,aX ns<=63->f [ov ns]=i5 t_):∀vs H Q E,Qr K vs H Q E->sH K f vs H Q E:=by rintro vs H Q E ⟨a,ns,rfl,hS,hl,q⟩;show(H,[ov ns],_,j9 _,.cons (.scr hS) .nil,h ns hl,λl n v F Z Z Z Z r Z Z=>?_);cases (pR r).2;show q n
end Z
open Z.D renaming int->bo,list->d9,tup->eH,bl->fb,str->j5,non->kR,dict->mA,scr->ov
open Z.AV renaming sh->b8,ow->el,owd->eu
open Z.qo renaming cons_inv->eC,nil_inv->h8
open Z renaming getD->e9,qN->Pv
open Z.SR renaming kSc->gi
open Z.zW renaming trans->hU
open Z.RM renaming nx->k4
open Z.rq renaming list_inv->l5,tup_inv->oe,bl->IT,mono->Qf
open Z.qA renaming sh_inv->pR,new->x4,news->Mw
open Z.zQ renaming one->q5
open Z.SK renaming lOf->sk,rOf->t6
namespace Mr
open PySem PySem.Spec PyProof.Rows L2
def Qh{α:Type}(P:α->Prop):List α->Prop
 | []=>True
 |a::l=>P a/\Qh P l
theorem Qh.mem{P:α->Prop}:∀{l},Qh P l->∀a∈l,P a
 | [],_,a,h=>by cases h
 |b::l,hp,a,h=>(ag.mp h).elim (λe=>e ▸ hp.1)<|Qh.mem hp.2 a
def sI.of(h1:c9 N)(h2:N[0]?=aK x)(n:aX N=aX fr+1)
  (r:Qh (λp=>X.env.cells.lookup p.1=aK p.2) cl) (l:Qh (λp=>(p.2 = o6∨p.2 = p4)->∃c,cl.lookup p.1=aK c)<|hZ<|mN scope<|iI X)
  (s:Qh (λp=>X.N[p.1]?=aK p.2/\X.env.scope.names.lookup p.2=aK o6/\(mN scope<|iI X).names.lookup p.2=aK o6)<|ph fr<|N.drop 1):sI X scope cl x N fr where
 names:=h1
 own:=h2
 len:=n
 sub:=λy c e=>r.mem %[y|c]<|eL e
 has:=λy e=>by
  obtain e|e:=e;.show l.mem _ (eL e)<|jB rfl
  .show l.mem _ (eL e)<|ir rfl
 get:=λk j y t u=>by
  have z:%[j|y]∈ph fr (N.drop 1):=by show mGq (i:=k) ?_;rw[bY];show(t,by rw[eW,gc];show u)
  show s.mem _ z
end Mr
open Mr.sI renaming of->p7
namespace Z
open PySem L2 Mr
def iRv(k:MK):MI:=λS=>cc (vN k S) λy=>(vD<|pE y.1).map λds=>%[hY ds|y.2]
def afQ(a b:ME):ME:=λS=>cc (a S) λx=>cc (b x.2) λy=>cc (dictOf x.1) λkvs=>(xI y.1).map λkey=>%[rh (getD kvs key) kR|y.2]
def abr ds:Bj [mA ds]=aK (bo<|aX ds):=rfl
end Z
namespace Mr
open PySem PySem.W PySem.Spec PyProof.Rows L2
abbrev g2(K:Ζ):TG:=OW K 2<|Bg (uv 0)<|Bg (uv 1) OF
end Mr
namespace Xe
open PySem PySem.Spec PySem.W PyProof.Rows L2 Mr
noncomputable def Itk(o:Obj)(d:Addr)(kvs:List<|pZ×V):It:=(λi H=>H d=aK (pT o<|nB kvs)/\∃p,kvs[i]?=aK p,
   λi H x l=>l=H/\∃p,kvs[i]?=aK p/\x=kV p.1,
   λi H=>H d=aK (pT o<|nB kvs)/\aX kvs<=i)
def SZ{K:Frag}o d n kvs vs ep(hne:d≠n)
  (S:∀h:Heap,c7 h d=aK o->h.DictAt (rK P w) d vs ep) (kv:KV kvs vs):Lf P w K tg (Itk o d kvs) [n] n<|λi h=>h.IsKeyIter n d i (aX vs) ep where
 mem:=by simp
 obj:=λi h st b r=>by
  have e:b=n:=by simpa using r
  subst e;have(B,e,c,dd):=st;show(B,e,λv z=>by rw[dd]at z;cases z)
 keep:=λi h C st k=>by have(B,e,c,dd):=st;show(B,k n ⋯ _ e,c,dd)
 item:=by
  intro X hP hw G U i Y s σ H E I hf st J;subst hP hw G;have(hd,p,hp):=J;have L:c7 (b7 s) d=aK o:=(show tE X.prog X.w H s.heap d (pT o<|nB kvs)from t7 I d _ hd).1;have(u,hx,ru):=aaY kv hp;have(M,f1,f2,O,Q,R):=hf n ⋯;show wpAny_pyNext_dict_item st (S _ L) hx λkey C x y sb=>?_;have I1:L2.Inv X Y σ H { s with heap:=C }:=I.turned (t':=nc s) (λb o r e=>eI (sb.2 b r) e) M f1 O Q R;have rk:qW (kV p.1) key:=by
   obtain⟨j,t,e,rfl⟩|⟨z,t,e,rfl⟩:=rY x;.rw[e];show(t,rfl)
   .rw[e];show(t,rfl)
  have(B,e,c,dd):=id y;show(key,rfl,Q5 (s:={ s with heap:=C }) e c dd (by rfl) (_,H,I1,rk,(rfl,p,hp,rfl),y,λb r=>(hf b r).1))
 done:=by intro X hP hw G U i Y s σ H E I hf st J;subst hP hw G;have(hd,hl):=J;have L:c7 (b7 s) d=aK o:=(show tE X.prog X.w H s.heap d (pT o<|nB kvs)from t7 I d _ hd).1;have l:=nE kv;have(M,f1,f2,O,Q,R):=hf n ⋯;show wpAny_pyNext_dict_end (I.ok.hd U) st (S _ L) (aR ∅) λC eb=>(rfl,I.turned (t':=nc s) (λb o r e=>eb b o r e) M f1 O Q R)
 self:=λZ Z Z Z Z st h=>wpAny_pyIter_keyiter st h
def Vy(te:TE):TI:=λσ H R=>te σ H λx l=>∃d kvs,x = cx d/\l d=aK (nB kvs)/\∀o,R (Itk o d kvs)<|rG l d<|pT o<|nB kvs
def Re(O:PE X o te):PI X M o<|Vy te:=by
 intro G s σ H R I h;show ua (O G s σ H _ I h) λv l C=>?_;have(x,J,z,P,d,r,ex,ha,q):=C;subst ex;obtain rfl:=(show v=ao d from P);have(Q,L,t,kv,dd):=(show tE X.prog X.w J l.heap d (nB r)from t7 z d _ ha);have(B,ob,S,n,tG):=dd.dictAt;have E:∀h:Heap,c7 h d=aK ob->h.DictAt (rK X.prog X.w) d t B:=λh e=>(ob,S,e,tG);have y:d<l⁻¹:=ae n;show wpAny_pyIter_dict L (E _ n) ?_;have kp:∀b u,c7 (b7 l) b=aK u->c7 (ig (b7 l) { cls:=iD "dict_keyiterator", data:=fT #[ao d,iT 0 0,iT (aX t) 0,iT B 0] }) b=aK u:=λb u e=>aa _ e;have U:L2.Inv X G σ (rG J d<|pT ob<|nB r) { l with heap:=ig (b7 l) { cls:=iD "dict_keyiterator", data:=fT #[ao d,iT 0 0,iT (aX t) 0,iT B 0] } }:=(z.kept (t':=nc l) kp).write (x:=d) (e:=d) (o:=pT ob<|nB r) (t':=nc l) (by rw[ha];trivial) (jB rfl) (λb u Z e=>e) (_,kp _ _ n) (kp _ _ n,Q,L,t,kv,(E _<|kp _ _ n).dictOf);show(l⁻¹,[l⁻¹],_,_,_,rfl,U,SZ ob d _ r t B (ar y) E kv,?_,λb Y=>?_,q ob);.show(_,aA _ rfl,rfl,rfl)
 .have e:b=l⁻¹:=by simpa using Y
  subst e;show z.fpOk (ab _)<|by rw[pI<|aY y];show l6 (t7 z)<|ab _
end Xe
namespace Z
open PySem L2 Mr
def La(c)body n S:tW c body (n+1) S=cc (c S) λx=>if x.1=t_ then cc (body x.2) λo=>match o with
   | k4 l=>tW c body n l
   | .ct l=>tW c body n l
   | .bk l=>aK<|k4 l
   | .rt a=>aK<|.rt a
  else aK<|k4 x.2:=rfl
end Z
namespace Z
open PySem L2 Mr Xe
inductive Res where
 |ok (a:AV)|ex (c:Str) (fs:List<|Str×Int)
abbrev MFx:=List D->Option Res
inductive abZ where
 |ok (o:RM)|ex (c:Str) (fs:List<|Str×Int)
abbrev MX:=AS->Option abZ
noncomputable def kD:pZ->D
 | ak i=>bo i
 | iy x=>j5 x
def Q9{K}k:rq K H (kD k)<|kV k:=by cases k with
 |inl i=>show .int
 |inr x=>show .str
def qI.fix(R:qI K H₀ l B S σ H E)(h1:p∉bf E)(h2:B p=n_)(G:H₀ p=n_):qI K H₀ l (rG B p o) S σ (rG H p o) E:=by
 have s:qk B<|rG B p o:=vR h2;show(R.len,R.lenF,λi L e=>?_,R.emp,R.nd,R.fresh,λb u z=>?_,λb u z=>?_,λb M I=>?_,eM R.sf s)
 .have(v,F,O,J,r):=R.rep i L e;have C:∀q∈F,q≠p:=λq n z=>h1<|by rw[←z];show e8 mFq (F,mGq J,n)
  show(v,F,O,J,r.keep s (λq n=>pI<|C q n) λq n=>by rw[pI<|C q n];show(r.owned q n).2)
 .by_cases t:b=p;.subst t;rw[pW]at z ⊢;show z
  .rw[pI t]at z ⊢;show R.sub b u z
 .have t:b≠p:=λq=>by rw[q,G]at z;cases z
  rw[pI t];show R.fr b u z
 .have t:b≠p:=λq=>I<|by rw[q];show G
  rw[pI t];show R.lim b M I
noncomputable def aec(f:AV->Option abZ):Res->Option abZ
 | .ok r=>f r
 | .ex c fs=>aK<|.ex c fs
noncomputable def aff:D->List D->Option D
 | j5 a,[j5 b]=>aK<|fb<|Txt.startswith a b
 |_,_=>n_
noncomputable def acw(x y:D):Option D:=match y with
 | kR=>(match x with|kR=>aK<|fb t_|bo _=>aK<|fb f_|j5 _=>aK<|fb f_|fb _=>aK<|fb f_|d9 _=>aK<|fb f_|eH _=>aK<|fb f_|_=>n_)
 |_=>n_
noncomputable def yd:List D->Option (List Bool)
 | []=>aK []
 | fb b::ds=>(yd ds).map (b :: ·)
 |_=>n_
def OP:List D->Option D
 | [d9 ds]=>(yd ds).map λbs=>fb<|bs.all id
 |_=>n_
theorem Dr:∀{ds}{bs},yd ds=aK bs->ds=bs.map fb
 | [],bs,h=>by cases h;rfl
 |d::ds,bs,h=>by cases d with
  |bl b=>have(l,h1,h2):=oMq.mp (show(yd ds).map (b :: ·)=aK bs from h);subst h2;rw[Dr h1];rfl
  |_=>cases h
def Fx bs:yd (bs.map fb)=aK bs:=by induction bs with
 |nil=>rfl
 |cons b bs l=>change(yd<|bs.map fb).map (b :: ·)=_;rw[l];rfl
theorem yK:∀{bs:List Bool}{vs},qo K H (bs.map fb) vs->vs=bs.map lR
 | [],vs,h=>h8 h
 |b::bs,vs,h=>by have(v,l,rfl,h1,h2):=eC (d:=fb b) (ds:=bs.map fb) h;cases h1;rw[yK h2];rfl
def abw:Ex K (λx y H Q=>y = pd/\Q (lR<|decide<|x = pd) H) acw:=by
 intro x y H Q r s d l n e q;cases n <;> first|(cases e;)|skip
 cases l <;> first|(cases e;done)|(cases e;show(rfl,q _<|by show IT))
def WB:S0 K (λxs H Q=>∃(a:Addr) (bs:List Bool),xs=[cx a]/\sN K H a (bs.map lR)/\Q (lR<|bs.all id) H) OP:=by
 intro t H Q u d r e q;unfold OP at e;split at e;.have(bs,n,e):=oMq.mp e;cases e;have(v,x,rfl,h1,h2):=eC r;rw[h8 h2];rw[Dr n]at h1;have(p,y,rfl,l,s):=l5 h1;rw[yK s]at l;show(p,bs,rfl,kc l,q _ IT)
 .cases e
def aeq ds:OP [d9 ds]=(yd ds).map λbs=>fb<|bs.all id:=rfl
abbrev Ur:=Qc Vh λi j=>bo<|i / j
def SM(K:Ζ)(te:TE)(m:ME):Prop:=∀{H₀ l s}{S}{σ}{H}{u}{d}{S'},qI K H₀ l s S σ H u->m S=aK %[d|S']->∀Q:VK,
 (∀n t r v,qk s n->qI K H₀ l n S' σ t r->rq K n d v->Q v t)->te σ H Q
noncomputable def shD:AV->Option D
 | b8 d=>aK d
 |_=>n_
def Xm(h:shD a=aK d):a = b8 d:=by unfold shD at h;split at h <;> cases h;rfl
def Ba(i:Nat)(b:ME):ME:=λS=>cc (tD S i) λQ=>cc (b S) λy=>cc (intOf y.1) λz=>cc (tD y.2 i) λl=>wa (0<=z/\z<aX l/\aX l<=qZ)<|(cc l[jz z]? shD).map λd=>%[d|i8 y.2 i<|aK<|el<|fC l<|jz z]
def FE(i:Nat):ME:=λS=>cc (tD S i) λl=>(cc l[aX l-1]? shD).map λd=>%[d|i8 S i<|aK<|el<|o5 l]
noncomputable def aes(kvs:List<|pZ×D)(k:pZ):List<|pZ×D:=kvs.filter λkv=>decide<|kv.1≠k
def agP(i:Nat)(b:ME):ME:=λS=>cc (xO S i) λQ=>cc (b S) λy=>cc (xI y.1) λkey=>cc (xO y.2 i) λkvs=>(getD kvs key).map λd=>%[d|i8 y.2 i<|aK<|eu<|aes kvs key]
def ZF:Ex K (rI Vh λi j=>c8<|i / j) Ur:=Mu λQ Q Q=>.int
def qF.erase(r:qF K t H as vs u)k:qF K t H (fC as k) (fC vs k)<|fC u k:=by
 have(h1,h2,x):=r;show(by rw[fy,fy,h1],by rw[fy,fy,h2],λi b w G s l n=>?_);rw[List.getElem?_eraseIdx]at s l n;split at s;.rename_i q;rw[qz q]at l n;show x i b w G s l n
 .rename_i q;rw[qE q]at l n;show x (i+1) b w G s l n
def O5{l:List Δ}(h:l[k]?=aK []):bf (fC l k)=bf l:=by induction l generalizing k with
 |nil=>cases h
 |cons g r n=>cases k with
  |zero=>simp at h;subst h;rfl
  |succ k=>simp?[cG,fCq,fCq,n<|by show h]
def qI.lose(R:qI K H₀ l s S σ H u)(h:S[i]?=aK (aK<|el n))(hk:n[k]?=aK (b8 d)) :
  ∃p vs y I,σ[i]?=aK (aK<|cx p)/\H p=aK (et vs)/\aX n=aX vs/\vs[k]?=aK y/\rq K s d y/\qI K H₀ l s (i8 S i<|aK<|el<|fC n k) σ (rG H p<|et<|fC vs k) (i8 u i I):=by
 have(p,vs,x,z,J,h1,h2,r,B,L,M):=R.ow h;have lk:=(gSq.mp hk).1;obtain⟨y,C⟩:∃y,vs[k]?=aK y:=(_,gEg<|by rw[←r.1];show lk);obtain⟨G,E⟩:∃G,x[k]?=aK G:=(_,gEg<|by rw[←r.2.1];show lk);have(t,O):=pR<|r.2.2 k _ _ _ hk C E;subst t;have hf:=O5 E;show(p,vs,y,p::bf (fC x k),z,h1,r.1,C,O,R.turn z J ⋯ (Mw pW h2<|(r.keepUpd B).erase k) ?_ ?_);.rw[hf];show e8 az (B,L)
 .rw[hf];show M
def U3(E:SR K tb b):SM K (Ui K "list" XM (Ax i)<|uK tb wV)<|Ba i b:=by
 intro H₀ r Hf S σ H Fs d S' R e Q q;have(a0,G,e):=oBq.mp e;have(y,I,e):=oBq.mp e;have(z,s,e):=oBq.mp e;have(l,J,e):=oBq.mp e;obtain⟨⟨L,M,O⟩,e⟩|e:=qe e
 .have(d',t,e):=oMq.mp e;cases e;have(a,t,u):=oBq.mp t;have u:=Xm u;subst u;have(p,P,Gs,B,_,h1,_):=R.ow<|qL G;show(cx p,B,jB (rfl,P,kc h1),E R (d:=y.1) (S':=y.2) I _ λU H1 Fs1 v X Y C=>?_);have(p',x,w,F',n,hp,hl,hw,Ct,R2):=Y.lose (qL J) t;rw[B]at n;cases n;have hv:v = c8 z:=by
   have:y.1 = bo z:=by revert s;unfold intOf;split <;> intro s <;> cases s;assumption
   rw[this]at C;cases C;rfl
  subst hv;have hz:(aX l:Int)<=16777216:=by have:aX l<=16777216:=O;lia
  show(p,x,z,jz z,w,rfl,rfl,hp,by lia,by lia,?_,hw,q _ _ _ _ X.sf R2 Ct);rw[←hl];unfold aeH;have n1:¬ z<0:=by ac_nf
  have n2:(decide (0<=z) && decide (z<(aX l:Int)))=t_:=by rw[d7 L,d7 M];rfl
  simp?[n1,if_false];show qz n2
 .cases e
def abq:SM K (Ui K "list" aaP (Ax i) wV)<|FE i:=by intro H₀ l z S σ H B d C R e Q q;have(u,x,e):=oBq.mp e;have(E,n,e):=oMq.mp e;cases e;have(a,n,r):=oBq.mp n;have r:=Xm r;subst r;have(p,s,w,G,y,t,hl,hw,Ct,R2):=R.lose (qL x) n;show(cx p,y,jB (rfl,s,kc t),p,s,w,rfl,rfl,t,by rw[←hl];show hw,?_);rw[Dt,hl,Dt]at R2;show q _ _ _ _ (j9 _) R2 Ct
noncomputable def GA(i:Nat)(m:ME):MS:=λS=>(m S).map λx=>k4<|i8 x.2 i<|aK<|b8 x.1
def Zi(h:SM K te m):SS K (Hk te<|uv i)<|GA i m:=by intro H₀ l y S σ H z o R e D hd;have(x,n,e):=oMq.mp e;cases e;show h R n _ λr B Fs1 v s t u=>?_;show hd _ _ _ _ s<|t.setD i u
def UB(i:Nat)(m:ME):MS:=λS=>cc (tD S i) λQ=>cc (m S) λx=>cc (tD x.2 i) λl=>wa (aX l<qZ)<|aK<|k4<|i8 x.2 i<|aK<|el<|l++[b8 x.1]
def Zs(hk:SM K te m):SS K (CM<|Ui K "list" Cz (Ax i)<|uK te wV)<|UB i m:=by
 intro H₀ s Hf S σ H Fs o R e D h;have(a0,J,e):=oBq.mp e;have(x,L,e):=oBq.mp e;have(M,O,e):=oBq.mp e;obtain⟨hl,e⟩|e:=qe e
 .cases e;have(p,P,Gs,t,_,h1,_):=R.ow<|qL J;show(cx p,t,jB (rfl,P,kc h1),hk R L _ λQ H1 Fs1 v U G X=>?_);have(p',u,Y,l,y,z,B,n,r,C,E):=G.ow<|qL O;rw[t]at l;cases l;show(p,u,v,rfl,rfl,z,by rw[←n.1];show hl,h _ _ _ _ U<|G.turn t y ⋯ (Mw pW B<|(n.keepUpd r).snoc<|.sh X) ?_ λq I=>?_);.rw[fAq,aB,aNq];show e8 az (r,C)
  .rw[fAq,aB,aNq]at I;show E q I
 .cases e
def aga(i:Nat)(b:ME)(m:ME):MS:=λS=>cc (m S) λx=>cc (xO x.2 i) λQ=>cc (b x.2) λy=>cc (xO y.2 i) λkvs=>cc (xI y.1) λkey=>wa (aX kvs<qZ)<|aK<|k4<|i8 y.2 i<|aK<|eu<|xj kvs key x.1
def acG d:shD (b8 d)=aK d:=rfl
def WD(S)i b:Ba i b S=cc (tD S i) λQ=>cc (b S) λy=>cc (intOf y.1) λz=>cc (tD y.2 i) λl=>wa (0<=z/\z<aX l/\aX l<=qZ)<|(cc l[jz z]? shD).map λd=>%[d|i8 y.2 i<|aK<|el<|fC l<|jz z]:=rfl
def abj(S)i:FE i S=cc (tD S i) λl=>(cc l[aX l-1]? shD).map λd=>%[d|i8 S i<|aK<|el<|o5 l]:=rfl
def ace(S)i m:GA i m S=(m S).map λx=>k4<|i8 x.2 i<|aK<|b8 x.1:=rfl
def acb(S)i m:UB i m S=cc (tD S i) λQ=>cc (m S) λx=>cc (tD x.2 i) λl=>wa (aX l<qZ)<|aK<|k4<|i8 x.2 i<|aK<|el<|l++[b8 x.1]:=rfl
end Z
namespace Z
open PySem L2 Mr
noncomputable def Y8:D->Option (List D)
 | eH ds=>aK ds
 |_=>n_
noncomputable def HB:Θ->List D->AS->AS
 |i::is,d::ds,S=>HB is ds<|i8 S i<|aK<|b8 d
 |_,_,S=>S
def IW(is:Θ)(k:MK):MS:=λS=>cc (k S) λx=>cc (Y8<|pE x.1) λds=>if aX ds=aX is then aK<|k4<|HB is ds x.2else n_
def UW(is)k S:IW is k S=cc (k S) λx=>cc (Y8<|pE x.1) λds=>if aX ds=aX is then aK<|k4<|HB is ds x.2else n_:=rfl
def aaH ds:Y8 (eH ds)=aK ds:=rfl
def QS i(is:Θ)d ds S:HB (i::is) (d::ds) S=HB is ds (i8 S i<|aK<|b8 d):=rfl
def Rl S:HB [] [] S=S:=rfl
def gNs:Θ->TGs
 | []=>OF
 |i::is=>Bg (uv i)<|gNs is
theorem WG{Q:St->Hp->Prop}:∀is {ds}{vs}{S}{σ}{t},aX ds=aX is->qo K s ds vs->qI K H₀ l s S σ H t->(∀n u,qI K H₀ l s (HB is ds S) n H u->Q n H)->gNs is vs σ H Q
 | [],[],vs,S,σ,t,_,r,R,h=>(h8 r,h _ _ R)
 |i::is,d::ds,vs,S,σ,t,e,r,R,h=>by have(v,x,rfl,y,z):=eC r;show(v,x,rfl,WG is (Nat.succ.inj e) z (R.setD i y) h)
def X0 is(hk:SK K te k):SS K (Hk te<|OW K (aX is)<|gNs is)<|IW is k:=by
 intro H₀ n O S σ H P o R e D h;have(x,z,e):=oBq.mp e;have(u,l,e):=oBq.mp e;have s:SK K te<|vN k:=SK.frz hk;show s R (a:=b8<|pE x.1) (S':=x.2) (by change(k S).map _=_;rw[z];rfl) _ λB Q Fs1 v F C y E U=>?_;have(X,r):=pR E;have G:pE x.1 = eH u:=by
  unfold Y8 at l;split at l;.rename_i hd;cases l;show hd
  .cases l
 rw[G]at r;by_cases hl:aX u=aX is;.rw[qz hl]at e;cases e;have(t,I,rfl,h1,h2):=oe r;show(t,I,rfl,o8<|y.sub _ _ h1,by rw[←h2.1];show hl,WG is hl h2 y λJ L M=>h _ _ _ _ C.sf M)
 .rw[qE hl]at e;cases e
end Z
namespace Z
open PySem L2 Mr Xe
def GP(x y:D):Option D:=match x with
 | eH _=>vE x y
 |_=>DF x y
def abm:Ex K (λx y H Q=>UV K x y H Q∨ZY K x y H Q) GP:=by
 intro x y H Q r s d l n e q;unfold GP at e;split at e;.show ir<|yw l n e q
 .show jB<|Fu l n e q
noncomputable def isN:D->String->Option D
 | bo _,T=>if T = "list" ∨ T = "tuple" ∨ T = "str" then aK (fb f_)else n_
 | j5 _,T=>if T = "list" ∨ T = "tuple" then aK (fb f_)else n_
 | kR,T=>if T = "list" ∨ T = "tuple" then aK (fb f_)else n_
 | d9 _,T=>if T = "tuple" then aK (fb f_)else n_
 | eH _,T=>if T = "list" then aK (fb f_)else n_
 |_,_=>n_
def aby:List D->Option D
 | [x,.ty T]=>isN x T
 |_=>n_
def Sz(ds:List D):Option D:=match zZ ds with
 |aK d=>aK d
 |n_=>aby ds
set_option tactic.hygienic true in
def aa5:S0 K (λxs H Q=>∃x T,xs=[x,.ty T]/\abH K x H T/\Q (lR f_) H) aby:=by
 intro t H Q y d r e q;unfold aby at e;split at e;rotate_left;.cases e
 rename_i x T;have(v,z,rfl,h1,h2):=eC r;have(u,B,rfl,n,s):=eC h2;rw[h8 s];cases n;unfold isN at e;cases x <;> first|(cases e;)|dsimp only at e
 all_goals
  split at e;rotate_left;.cases e
  rename_i l;cases e
 .cases h1;show(_,_,rfl,l,q _ .bl)
 .cases h1;show(_,_,rfl,l,q _ .bl)
 .cases h1;show(_,_,rfl,l,q _ .bl)
 .have(p,xs,rfl,h,_):=h1.list_inv;show(_,_,rfl,.inl (l,xs,sN.of h),q _ .bl)
 .have(p,xs,rfl,h,_):=h1.tup_inv;show(_,_,rfl,.inr (l,xs,zd.of h),q _ .bl)
def abv:S0 K (λxs H Q=>(∃x T b,xs=[x,.ty T]/\aaV K x H T b/\Q (lR b) H)∨∃x T,xs=[x,.ty T]/\abH K x H T/\Q (lR f_) H) Sz:=by
 intro n H Q s d r e q;unfold Sz at e;split at e;.rename_i l;cases e;show jB<|Vc r l q
 .show ir<|aa5 r e q
def qI.poke(R:qI K H₀ Hf₀ Hf S σ H Fs)(pn:Hf p=n_)(n:H₀ p=n_)(pf:p∉bf Fs):qI K H₀ Hf₀ Hf S σ (rG H p o) Fs:=by
 show(R.len,R.lenF,λj a r=>?_,R.emp,R.nd,R.fresh,λb u e=>?_,λb u e=>?_,R.lim,R.sf);.have(w,G,f1,f2,q):=R.rep j a r;show(w,G,f1,f2,q.keep (j9 _) (λc l=>pI λe=>pf ?_) λc l=>(q.owned c l).2);subst e;show rB f2 l
 .rw[pI λz=>by rw[z,pn]at e;cases e];show R.sub b u e
 .rw[pI λz=>by rw[z,n]at e;cases e];show R.fr b u e
def zW.stays(t:zW Hf H Fs l r n)(pn:Hf p=n_)(s:H p≠n_)(pf:p∉bf Fs):l p=n_/\p∉bf n:=by
 show(?_,λm=>pf<|t.own p m);by_cases h:l p=n_;.show h
 .show((t.gr p pn h).elim (λe=>absurd e s) λm=>absurd m pf)
def G3(b:ME)(k:MK):MK:=λS=>cc (b S) λy=>cc (vN k y.2) λx=>(xI y.1).map λkey=>%[eu [%[key|pE x.1]]|x.2]
def V5(M:SR K tb b)(hk:SK K te k):SK K (aah [%[tb|te]])<|G3 b k:=by
 intro H₀ Hf₀ Hf S σ H Fs av S' R e Q q;have(y,O,e):=oBq.mp e;have(x,E,e):=oBq.mp e;have(key,P,e):=oMq.mp e;cases e;have r:SK K te<|vN k:=SK.frz hk;intro p s;have(t0,U,X,G,Y):=R.new s;show M U O _ λHf1 H1 Fs1 w t R1 r1=>?_;have I:rG H p (nB []) p=aK (nB []):=pW;have J:=t.sh p _ I;have(a1,a2):=t.stays X (by rw[I];simp) Y;show r R1 E _ λB H2 Fs2 v F C R2 L o2=>?_;have p2:=C.sh p _ J;have(b1,b2):=C.stays a1 (by rw[J];simp) a2;obtain⟨x1,n⟩:∃d,x.1 = b8 d:=by have(w,_,e):=oMq.mp E;rw[←e];show(_,rfl)
 rw[n]at L;have rv:=(pR L).2;have hw:=As P r1;subst hw;show(p2,[%[key|v]],rfl,by simp,?_);have l:=hU (hU t0 t) C;have hs:qk H<|rG H2 p<|nB<|E7 [] [%[key|v]]:=λc u e=>by rw[pI λz=>by rw[z,s]at e;cases e];show l.sh c u e
 show q B _ Fs2 (cx p) [p] (l.sf,hs,l.own,l.gr) (R2.poke b1 G b2) (.owd pW b1 (rfl,λi d u h1 h2=>?_)) (by simp,λc h=>by rw[mSq.mp h];show G,λc h=>by rw[mSq.mp h];show b2,λc h=>by rw[mSq.mp h];show jB s);match i,h1,h2 with
 |0,h1,h2=>cases h1;cases h2;rw[n];show rv
 |i+1,h1,_=>simp at h1
def Z0:SM K (aeP K "list" aaP<|Ax i)<|FE i:=abq
noncomputable def zX:List (pZ×D)->Option Ϝ
 | []=>aK []
 | %[ak i|_]::r=>(zX r).map (i :: ·)
 |_=>n_
theorem HW:∀{kvs}{ns},zX kvs=aK ns->kvs.map (·.1)=ns.map ak
 | [],ns,h=>by cases h;rfl
 | %[ak i|d]::r,ns,h=>by have(l,h1,h2):=oMq.mp<|h;subst h2;rw[ax,ax,HW h1]
 | %[iy _|_]::_,_,h=>by cases h
def Fd(a:ME):MK:=λS=>cc (a S) λx=>match x.1 with
 | mA kvs=>cc (zX kvs) λns=>wa (aX ns<64)<|aK %[el<|(qY ns).map λn=>b8<|bo n|x.2]
 |_=>n_
def GG(u:SR K te b):SK K (Ng (λxs H Q=>∃(a:Addr) (kvs:List (pZ×V)) (ns:Ϝ),xs=[cx a]/\aX ns<64/\H a=aK (nB kvs)/\kvs.map (·.1)=ns.map ak/\∀p,H p=n_->Q (cx p) (rG H p<|et<|(qY ns).map c8))<|uK te wV)<|Fd b:=by intro H₀ Hf₀ Hf S σ H Fs y z R e Q q;have(x,B,e):=oBq.mp e;have(C,E):=x;cases C with
 |dict kvs=>have(ns,G,e):=oBq.mp<|show(zX kvs).bind (λns=>wa (aX ns<64)<|aK %[el<|(qY ns).map λn=>b8<|bo n|E])=aK %[y|z]from e;have(l,e):=Kz e;cases e;show u R B _ λI X Fs1 w r s J=>?_;have(L,M,rfl,h1,h2):=J.dict_inv;show(L,M,ns,rfl,l,h1,by rw[←h2.1];show HW G,λp t=>?_);have(O,P,U,Y,n3):=s.new t;rw[BZ]at q;show q _ _ _ (cx p) [p] (hU r O) P (x4 pW U<|wj _)<|(q5 s t).back r
 |_=>cases e
def J9(S)b k:G3 b k S=cc (b S) λy=>cc (vN k y.2) λx=>(xI y.1).map λkey=>%[eu [%[key|pE x.1]]|x.2]:=rfl
def aaC:D->AS->Option (AV×AS)
 | mA kvs,S=>cc (zX kvs) λns=>wa (aX ns<64)<|aK %[el<|(qY ns).map λn=>b8<|bo n|S]
 |_,_=>n_
def QQ(S)a:Fd a S=cc (a S) λx=>aaC x.1 x.2:=by unfold Fd;congr 1;funext x;have(l,n):=x;cases l <;> rfl
def UT(kvs)S:aaC (mA kvs) S=cc (zX kvs) λns=>wa (aX ns<64)<|aK %[el<|(qY ns).map λn=>b8<|bo n|S]:=rfl
theorem EL{α:Type}f(g:α->D):∀l:List α,zX (l.map λx=>%[ak<|f x|g x])=aK (l.map f)
 | []=>rfl
 |x::l=>by change(zX<|l.map λx=>%[ak<|f x|g x]).map (f x :: ·)=_;rw[EL f g l];rfl
noncomputable def JH:D->D->Option D
 | kR,kR=>aK<|fb f_
 | bo _,kR=>aK<|fb t_
 | j5 _,kR=>aK<|fb t_
 | fb _,kR=>aK<|fb t_
 | d9 _,kR=>aK<|fb t_
 | eH _,kR=>aK<|fb t_
 | mA _,kR=>aK<|fb t_
 |_,_=>n_
def Yw:Ex K (λx y H Q=>y = pd/\Q (lR<|!decide (x = pd)) H) JH:=by
 intro x y H Q s t d l n e q;unfold JH at e;split at e;all_goals first|(cases e;done)|skip
 .cases e;cases l;cases n;show(rfl,q _<|by show IT)
 .cases e;cases l;cases n;show(rfl,q _<|by show IT)
 .cases e;cases l;cases n;show(rfl,q _<|by show IT)
 .cases e;cases l;cases n;show(rfl,q _<|by show IT)
 .cases e;cases n;have(p,r,rfl,_):=l5 l;show(rfl,q _<|by show IT)
 .cases e;cases n;have(p,r,rfl,_):=oe l;show(rfl,q _<|by show IT)
 .cases e;cases n;have(p,r,rfl,_):=l.dict_inv;show(rfl,q _<|by show IT)
def Sq:JH kR kR=aK (fb f_):=rfl
theorem Kv.same(s:qk H H'):∀{path}{v w},Kv H v path w->Kv H' v path w
 | [],v,w,h=>h
 |j::js,v,w,⟨p,vs,u,h1,h2,h3,h4⟩=>(p,vs,u,h1,s _ _ h2,h3,Kv.same s h4)
theorem Kv.one:∀{path}{v w l},Kv H v path w->Kv H v path l->w=l
 | [],v,w,l,h,s=>eI (fQ h) s
 |j::js,v,w,l,hz,hy=>by have(p,B,u,h1,h2,t,x):=hz;have(C,y,E,n,g2,r,z):=hy;rw[h1]at n;cases n;rw[h2]at g2;cases g2;rw[t]at r;cases r;show x.one z
theorem Kv.snoc:∀{path}{v}{p}{vs}{n}{u},Kv H v path (cx p)->H p=aK (et vs)->vs[n]?=aK u->Kv H v (path++[n]) u
 | [],v,p,vs,n,u,h,h1,h2=>(p,vs,u,h,h1,h2,rfl)
 |j::js,v,p,vs,n,u,⟨p',vs',u',g1,g2,g3,g4⟩,h1,h2=>(p',vs',u',g1,g2,g3,g4.snoc h1 h2)
theorem Kv.kept:∀{path}{l}{v w}{F}{as},qA K Hf H l v F->si l path=aK as->Kv H v path w->(∀q∈F,H' q=H q)->Kv H' v path w
 | [],l,v,w,F,as,_,_,h,_=>h
 |j::js,l,v,w,F,as,r,e,hz,hk=>by have(p,C,u,h1,h2,n,E):=hz;cases l with
  |ow G=>have(O,I,P,s,t,x,Q,y):=r.ow_inv;rw[h1]at s;cases s;rw[h2]at x;cases x;have(a,z,e):=oBq.mp<|e;have J:=(gSq.mp z).1;have B:=gEg<|y.2.1 ▸ J;have L:=y.2.2 j a u _ z n B;show(p,C,u,h1,by rw[hk p<|by rw[t];simp];show h2,n,E.kept L e λq M=>hk q ?_);rw[t];show mCo _<|rB B M
  |_=>cases e
noncomputable def frm(H₀ H:Hp)(F:Δ):Hp:=λb=>if b∈F then H b else H₀ b
def Lj(h:b∈F):frm H₀ H F b=H b:=qz h
def Ca(h:b∉F):frm H₀ H F b=H₀ b:=qE h
def qI.frame(R:qI K H₀ Hf₀ Hf S σ H Fs)(r:Fs[i]?=aK F):qI K (frm H₀ H F) Hf₀ Hf (i8 S i n_) σ H<|i8 Fs i []:=by
 have l:=R.kill i;have t:∀q∈F,q∈bf Fs:=λq x=>rB r x;show(l.len,l.lenF,l.rep,l.emp,l.nd,λp s=>?_,l.sub,λb u e=>?_,λb h1 h2=>?_,l.sf);.have hn:=λz=>wL R.nd r z s;rw[Ca hn];show l.fresh p s
 .by_cases n:b∈F;.rw[Lj n]at e;show e
  .rw[Ca n]at e;show R.fr b u e
 .by_cases n:b∈F;.show(R.mem<|t b n).2
  .rw[Ca n]at h2;show R.lim b h1 h2
def LA{α:Type}{l:List α}{a}(h:l[i]?=aK a):i8 l i a=l:=by have(hk,n):=gSq.mp h;rw[←n];show gC hk
def qI.unframe(R:qI K H₀ Hf₀ Hf S σ H Fs)(t:Fs[i]?=aK F)(r:qA K Hf H s v F)(nd:c9 F)(h0:∀q∈F,H₀ q=n_)
  (l:qI K (frm H₀ H F) Hf₀ Hf' S' σ' H' Fs') (x:S'[i]?=aK n_) (G:σ'[i]?=aK (aK v)) (sf:qk Hf Hf') :
  (∀q∈F,H' q=H q)/\qA K Hf' H' s v F/\qI K H₀ Hf₀ Hf' (i8 S' i<|aK s) σ' H' (i8 Fs' i F):=by
 have hk:∀q∈F,H' q=H q:=λq n=>by have hn:=(R.mem<|rB t n).1;cases B:H q with
  |none=>show absurd B hn
  |some u=>show l.fr q u<|by rw[Lj n];show B
 have hf:∀q∈F,Hf' q=n_:=λq n=>by
  have y:=R.mem<|rB t n;show l.lim q ?_<|by rw[Lj n];show y.1
  cases I:Hf₀ q with
  |none=>rfl
  |some u=>rw[R.sf q u I]at y;show absurd y.2 ⋯
 have C:=r.keep sf hk hf;show(hk,C,?_);have J:qI K H₀ Hf₀ Hf' (i8 S' i n_) σ' H'<|i8 Fs' i []:=by
  rw[LA x,LA<|l.emp i x];show(l.len,l.lenF,l.rep,l.emp,l.nd,λp L=>?_,l.sub,λb u e=>?_,λb h1 h2=>?_,l.sf)
  .have:=l.fresh p L;by_cases E:p∈F;.show h0 p E
   .rwa [Ca E]at this
  .show l.fr b u ?_;rw[Ca λz=>by rw[h0 b z]at e;cases e];show e
  .show l.lim b h1 ?_;rw[Ca λz=>h2<|h0 b z];show h2
 show J.again (F:=F) G C nd λq n=>(h0 q n,λm=>?_);rw[LA<|l.emp i x]at m;have:=l.fresh q m;rw[Lj n]at this;show(R.mem<|rB t n).1 this
abbrev MP:=AS->Option (List Nat×AS)
def Ww(i:Nat):MP:=λS=>(tD S i).map λQ=>%[[]|S]
def pIx(i:Nat)(pf:MP)(b:ME):MP:=λS=>cc (pf S) λx=>cc (b x.2) λy=>cc (intOf y.1) λj=>cc (tD y.2 i) λl=>cc (si (el l) x.1) λas=>(LV (aX as) j).map λn=>%[x.1++[n]|y.2]
def SPh(K:Ζ)(i:Nat)(te:TE)(pf:MP):Prop:=∀{H₀ l t}{S}{σ}{H}{u}{path:Θ}{S'},qI K H₀ l t S σ H u->pf S=aK %[path|S']->∀Q:VK,
 (∀n s r v w,zW t H u n s r->qI K H₀ l n S' σ s r->σ[i]?=aK (aK v)->Kv s v path w->Q w s)->te σ H Q
def YK i:SPh K i (Ax i)<|Ww i:=by intro H₀ l t S σ H u path x R e Q q;have(r,s,e):=oMq.mp e;cases e;have(p,y,z,n,_):=R.ow<|qL s;show(_,n,q _ _ _ _ _ .refl R n rfl)
def D4{i:Nat}(R:qI K H₀ l t S σ H u)(e:S[i]?=aK (aK<|el n))(x:σ[i]?=aK (aK v))(y:si (el n) path=aK as)(h:Kv H v path w) :
  ∃p vs,w = cx p/\H p=aK (et vs)/\aX vs=aX as:=by have(C,F,s,E,r,nd,_):=R.move e;rw[x]at s;cases s;have(p,vs,G,z,g2,I,B,_):=r.path nd y;show(p,vs,h.one z,g2,fQ B.1)
def abd(J:SPh K i te pf)(L:SR K tb b):SPh K i (XX (UV K) te tb)<|pIx i pf b:=by
 intro H₀ l Hf S σ H Fs path S' R e Q q;have(x,M,e):=oBq.mp e;have(y,O,e):=oBq.mp e;have(j,r,e):=oBq.mp e;have(P,U,e):=oBq.mp e;have(as,X,e):=oBq.mp e;have(n,z,e):=oMq.mp e;cases e;show J R M _ λY H1 Fs1 v w t1 R1 B a1=>L R1 O _ λHf2 H2 Fs2 u C R2 E=>?_;have hy:y.1 = bo j:=by cases hx:y.1 <;> rw[hx]at r <;> first|(cases r;rfl)|cases r
 rw[hy]at E;cases E;have G:=a1.same C.sh;have(p,s,rfl,h1,h2):=D4 R2 (qL U) B X G;have(_,hn,_):=Q1 z;have t:n<aX s:=by rw[h2];show hn
 obtain⟨u,I⟩:∃u,s[n]?=aK u:=(_,gEg t);show(p,s,j,u,rfl,rfl,kc h1,?_,q _ _ _ v _ (hU t1 C) R2 B<|G.snoc h1 I);unfold atI;rw[h2,z];show I
def qI.grow(R:qI K H₀ l B S σ H J)(e:S[i]?=aK (aK<|el n))(L:σ[i]?=aK (aK v))(en:si (el n) path=aK as)(h:Kv H v path<|cx p) :
  ∃vs,H p=aK (et vs)/\aX as=aX vs/\∀bs ws s,qF K B H bs ws s->c9 (bf s)->(∀q∈bf s,H₀ q=n_/\q∉bf J) ->
   ∃C,qI K H₀ l B (i8 S i<|aK<|putAt (el n) path<|as++bs) σ (rG H p<|et<|vs++ws) C:=by
 have(v',F,M,x,r,nd,O,_):=R.move e;rw[L]at M;cases M;have(p',vs,E,g1,g2,g3,P,Q,U,G,X,g8):=r.path nd en;have I:=h.one g1;cases I;show(vs,g2,P.1,λbs ws s rb nG u=>?_);have Y:=λm=>(u p m).2<|rB x Q;have t:bf (E++s)=bf E++bf s:=fAq;have(F',k1,k2,k3):=g8 (as++bs) (vs++ws) (E++s) ((P.keepUpd U).append<|rb.keepUpd Y) (by rw[t];show e8 az (λm=>(mAq.mp m).elim U Y,e8 nAq (G,nG,λa ha b hb z=>(u b hb).2<|rB x<|X b<|z ▸ ha))) (λq y=>by rw[t]at y;show(mAq.mp y).imp id λm z=>(u q m).2<|rB x z);show(_,R.turnAny L x Q k1 k2 λq y=>?_);obtain z|z:=k3 q y;.show O q z
 .rw[t]at z;obtain z|z:=mAq.mp z;.show O q<|X q z
  .show((u q z).1,λm=>(u q z).2<|tJ m)
def agD(i:Nat)(pf:MP)(k:MK):MS:=λS=>cc (pf S) λx=>cc (tD x.2 i) λn=>cc (si (el n) x.1) λQ=>cc (k x.2) λy=>cc (tD y.2 i) λl=>cc (si (el l) x.1) λas=>wa (aX as<qZ)<|aK<|k4<|i8 y.2 i<|aK<|putAt (el l) x.1<|as++[y.1]
def agJ(i:Nat)(pf:MP)(l:ML):MS:=λS=>cc (pf S) λx=>cc (tD x.2 i) λr=>cc (si (el r) x.1) λQ=>cc (l x.2) λy=>cc (tD y.2 i) λn=>cc (si (el n) x.1) λas=>wa (aX as+aX y.1<=qZ)<|aK<|k4<|i8 y.2 i<|aK<|putAt (el n) x.1<|as++y.1.map b8
def Als(x i:Nat)(path:Θ)(S:AS)(σ:St)(H:Hp):Prop:=∃v p l as,S[i]?=aK (aK<|el l)/\si (el l) path=aK as/\σ[x]?=aK (aK<|cx p)/\σ[i]?=aK (aK v)/\Kv H v path (cx p)
def WY(K:Ζ)(x i:Nat)(t:TS)(m:Θ->MS):Prop:=∀{path}{H₀ l n}{S}{σ}{H}{r}{o},qI K H₀ l n S σ H r->Als x i path S σ H->m path S=aK o->∀D:BD,Jp K H₀ l n D o->t D σ H
def ZG(x i:Nat)(pf:MP)(m:Θ->MS):MS:=λS=>cc (pf S) λy=>cc (tD y.2 i) λl=>cc (si (el l) y.1) λQ=>wa (x≠i/\x<aX y.2)<|m y.1<|i8 y.2 x n_
def ac9(G:SPh K i te pf)(I:WY K x i t m):SS K (U4 (Hk te<|uv x) t)<|ZG x i pf m:=by
 intro H₀ n P S σ H Q o R e D h;have(y,J,e):=oBq.mp e;have(r,z,e):=oBq.mp e;have(L,B,e):=oBq.mp e;obtain⟨⟨l,s⟩,e⟩|e:=qe e
 .show G R (path:=y.1) (S':=y.2) J _ λM U Fs1 v w O u C E=>?_;have(p,X,rfl,h1,h2):=D4 u (qL z) C B E;have R2:=(u.kill x).any<|cx p;show I R2 (v,p,r,L,?_,B,?_,?_,E) e D<|h.mono O.sf;.rw[aJ l];show qL z
  .show aV<|by rw[←u.len];show s
  .rw[aJ l];show C
 .cases e
def aeY(h:SS K t m):WY K x i t<|λQ=>m:=λR Q e D o=>h R e D o
def ab8(ha:WY K x i t a)(n:SS K u b):WY K x i (U4 t u)<|λpath=>oZ (a path) b:=by intro path H₀ l G S σ H I o R A e D h;have(y,r,e):=oBq.mp e;show ha R A r _ ?_;cases y with
 |nx J=>show λz B L C s E=>n E e D<|h.mono s
 |rt a=>cases e;show h
 |bk a=>cases e;show h
 |ct a=>cases e;show h
def Oc(i:Nat)(c:MT)(a b:Θ->MS):Θ->MS:=λpath S=>cc (c S) λy=>cc (tD y.2 i) λl=>cc (si (el l) path) λQ=>if y.1=t_ then a path y.2 else b path y.2
def aem(E:Gy K c m)(ha:WY K x i t a)(G:WY K x i u b):WY K x i (Y6 c t u)<|Oc i m a b:=by
 intro path H₀ n X S σ H Y o R A e D h;have(y,I,e):=oBq.mp e;have(r,J,e):=oBq.mp e;have(L,M,e):=oBq.mp e;have(v,p,_,_,_,_,O,P,s):=A;show E R (b:=y.1) (S':=y.2) I _ λQ U Fs1 z B=>?_;have C:Als x i path y.2 σ U:=(v,p,r,L,qL J,M,O,P,s.same z.sh);split at e;.rename_i l;rw[l];show Kd<|ha B C e D<|h.mono z.sf
 .rename_i l;rw[dq]at l;rw[l];show ID<|G B C e D<|h.mono z.sf
def Ro(i:Nat)(k:MK):Θ->MS:=λpath S=>cc (k S) λy=>cc (tD y.2 i) λl=>cc (si (el l) path) λas=>wa (aX as<qZ)<|aK<|k4<|i8 y.2 i<|aK<|putAt (el l) path<|as++[y.1]
def acT(hk:SK K te k):WY K x i (CM<|Ui K "list" Cz (Ax x)<|uK te wV)<|Ro i k:=by
 intro path H₀ n Hf S σ H Fs o R A e D h;have(y,C,e):=oBq.mp e;have(E,G,e):=oBq.mp e;have(as,I,e):=oBq.mp e;obtain⟨hl,e⟩|e:=qe e
 .cases e;have(v,p,a0,n0,J,L,M,z,l):=A;have(p',O,P,h1,h2):=D4 R J z L l;cases P;show(cx p,M,jB (rfl,O,kc h1),hk R (a:=y.1) (S':=y.2) C _ λQ H2 Fs2 u F B R2 U r=>?_);have(s,X,g2,Y):=R2.grow (qL G) z I<|l.same B.sh;have(Fs',R3):=Y [y.1] [u] [F] (qF.nil.snoc U) (by rw[aB];show r.nd)<|λq t=>by rw[aB]at t;show(r.fr q t,r.out q t)
  show(p,s,u,rfl,rfl,X,by rw[K5,←g2];show hl,h _ _ _ _ B.sf R3)
 .cases e
def agE(i:Nat)(l:ML):Θ->MS:=λpath S=>cc (l S) λy=>cc (tD y.2 i) λn=>cc (si (el n) path) λas=>wa (aX as+aX y.1<=qZ)<|aK<|k4<|i8 y.2 i<|aK<|putAt (el n) path<|as++y.1.map b8
def LG(i:Nat)(n:ME):Θ->MS:=λpath S=>cc (tD S i) λl=>cc (si (el l) path) λas=>cc (n<|i8 S i n_) λy=>wa (y.2[i]?=aK n_/\aX as<qZ)<|aK<|k4<|i8 y.2 i<|aK<|putAt (el l) path<|as++[b8 y.1]
def Z6(hk:SM K te I):WY K x i (CM<|Ui K "list" Cz (Ax x)<|uK te wV)<|LG i I:=by
 intro path H₀ z Hf S σ H Fs o R A e D h;have(l,P,e):=oBq.mp e;have(as,B,e):=oBq.mp e;have(y,Q,e):=oBq.mp e;obtain⟨⟨hn,hl⟩,e⟩|e:=qe e
 .cases e;have(v,p,a0,n0,_,_,U,t,n):=A;have s:=qL P;have(p',X,Y,h1,h2):=D4 R s t B n;cases Y;have(v',F,J,L,r,nd,oo,_):=R.move s;rw[t]at J;cases J;show(cx p,U,jB (rfl,X,kc h1),hk (R.frame L) (d:=y.1) (S':=y.2) Q _ λHf2 H2 Fs2 u M R2 r2=>?_);have(k1,k2,R3):=R.unframe L r nd (λq C=>(oo q C).1) R2 hn t M;have E:i<aX y.2:=(gSq.mp hn).1;have e5:(i8 y.2 i<|aK<|el l)[i]?=aK (aK<|el l):=aV E;have(G,g1,g2,g3):=R3.grow e5 t B<|n.kept r B k1;have(Fs',O):=g3 [b8 y.1] [u] [[]] (qF.nil.snoc<|.sh r2) ⋯<|λq C=>by simp at C
  rw[gV]at O;show(p,G,u,rfl,rfl,g1,by rw[K5,←g2];show hl,h _ _ _ _ M O)
 .cases e
def SSk(K:Ζ)(J:Θ)(t:TS)(m:MS):Prop:=∀{H₀ l u}{S}{σ}{H}{y}{S'},qI K H₀ l u S σ H y->m S=aK (k4 S')->∀D:BD,(∀r n x s,qk u r->qI K H₀ l r S' n x s->(∀j∈J,n[j]?=σ[j]?)->D.nx n x)->t D σ H
def WR(h:∀D σ H,D.nx σ H->t D σ H):SSk K J t qm:=by intro H₀ l n S σ H r s R e D q;cases e;show h _ _ _<|q _ _ _ _ (j9 _) R λQ Q=>rfl
def Y2(hk:SK K te k)(s:y∉J):SSk K J (Hk te<|uv y)<|pX y k:=by intro H₀ l I S σ H L M R e D q;have(x,t,e):=oMq.mp e;cases e;show hk R t _ λu O Fs1 v F B C E n=>?_;show q _ _ _ _ B.sf (C.set y E n.nd λq r=>(n.fr q r,n.out q r)) λj G=>aJ<|λz=>s<|by rw[z];show G
def XT(hk:SM K te m)(n:y∉J):SSk K J (Hk te<|uv y)<|GA y m:=by intro H₀ l E S σ H G I R e D q;have(x,r,e):=oMq.mp e;cases e;show hk R r _ λs L Fs1 v t u B=>?_;show q _ _ _ _ t (u.setD y B) λj C=>aJ<|λz=>n<|by rw[z];show C
def acq(G:Gy K c m)(ha:SSk K J t a)(I:SSk K J u b):SSk K J (Y6 c t u)<|wz m a b:=by
 intro H₀ n P S σ H Q U R e D q;have(x,L,e):=oBq.mp e;show G R L _ λM X Fs1 C E=>?_;split at e;.rename_i l;rw[l];show Kd<|ha E e D λr y O z s B j=>q _ _ _ _ (eM C.sf s) B j
 .rename_i l;rw[dq]at l;rw[l];show ID<|I E e D λr y O z s B j=>q _ _ _ _ (eM C.sf s) B j
def Oe(i:Nat)(a:MS)(m:Θ->MS):Θ->MS:=λpath S=>cc (tD S i) λl=>cc (a<|i8 S i n_) λo=>match o with
 | k4 n=>wa (n[i]?=aK n_)<|m path<|i8 n i<|aK<|el l
 |_=>n_
def aaZ(ha:SSk K [x,i] t a)(Q:WY K x i u m):WY K x i (U4 t u)<|Oe i a m:=by intro path H₀ z Hf S σ H Fs o R A e D h;have(l,U,e):=oBq.mp e;have(X,Y,e):=oBq.mp e;cases X with
 |nx B=>
  obtain⟨hn,e⟩|e:=qe<|show wa (B[i]?=aK n_) (m path<|i8 B i<|aK<|el l)=aK o from e;.have(v,p,a0,n0,n,I,s2,C,E):=A;have J:=qL U;rw[J]at n;cases n;have(v',F,L,M,r,nd,ow,_):=R.move J;rw[C]at L;cases L;show ha (R.frame M) Y _ λHf' y H' Fs' s R' O=>?_;have j1:y[x]?=σ[x]?:=O x ⋯;have P:y[i]?=σ[i]?:=O i ⋯;have(k1,k2,R3):=R.unframe M r nd (λq hq=>(ow q hq).1) R' hn (eI P C) s;have G:i<aX B:=(gSq.mp hn).1;show Q R3 (v,p,l,n0,aV G,I,eI j1 s2,eI P C,E.kept r I k1) e D<|h.mono s
  .cases e
 |_=>cases e
def ae6(S)i:Ww i S=(tD S i).map λQ=>%[[]|S]:=rfl
def afL(S)i pf b:pIx i pf b S=cc (pf S) λx=>cc (b x.2) λy=>cc (intOf y.1) λj=>cc (tD y.2 i) λl=>cc (si (el l) x.1) λas=>(LV (aX as) j).map λn=>%[x.1++[n]|y.2]:=rfl
def aeS(S)x i pf m:ZG x i pf m S=cc (pf S) λy=>cc (tD y.2 i) λl=>cc (si (el l) y.1) λQ=>wa (x≠i/\x<aX y.2)<|m y.1<|i8 y.2 x n_:=rfl
def aeR(S)i c a b path:Oc i c a b path S=cc (c S) λy=>cc (tD y.2 i) λl=>cc (si (el l) path) λQ=>if y.1=t_ then a path y.2 else b path y.2:=rfl
def aaN(S)i k path:Ro i k path S=cc (k S) λy=>cc (tD y.2 i) λl=>cc (si (el l) path) λas=>wa (aX as<qZ)<|aK<|k4<|i8 y.2 i<|aK<|putAt (el l) path<|as++[y.1]:=rfl
def X3(S)i n path:LG i n path S=cc (tD S i) λl=>cc (si (el l) path) λas=>cc (n<|i8 S i n_) λy=>wa (y.2[i]?=aK n_/\aX as<qZ)<|aK<|k4<|i8 y.2 i<|aK<|putAt (el l) path<|as++[b8 y.1]:=rfl
def aeT(i:Nat)(l:List AV)(m:Θ->MS)(path:Θ):RM->Option RM
 | k4 n=>wa (n[i]?=aK n_)<|m path<|i8 n i<|aK<|el l
 |_=>n_
def adn(S)i a m path:Oe i a m path S=cc (tD S i) λl=>cc (a<|i8 S i n_)<|aeT i l m path:=by congr 1
def Y7(i)l m path n:aeT i l m path (k4 n)=wa (n[i]?=aK n_) (m path<|i8 n i<|aK<|el l):=rfl
def Oz l:si (el l) []=aK l:=rfl
def MU(l)j(n:Θ):si (el l) (j::n)=cc (l[j]?) λa=>si a n:=rfl
def Pu{n:Θ}(h:l[j]?=aK a):putAt (el l) (j::n) as = el (i8 l j<|putAt a n as):=by change(match l[j]? with|aK a=>_|n_=>_)=_;rw[h]
noncomputable def KZ(m:ME):MS:=λS=>(m S).map λx=>k4 x.2
def Vx(h:SM K te m):SS K (CM te)<|KZ m:=by intro H₀ l u S σ H y o R e D hd;have(x,n,e):=oMq.mp e;cases e;show h R (d:=x.1) (S':=x.2) n _ λr z Fs1 v s t B=>hd _ _ _ _ s t
def ahh(i:Nat):MS:=λS=>(tD S i).map λl=>k4<|i8 S i<|aK<|el<|hY l
def Zh(S)m:KZ m S=(m S).map λx=>k4 x.2:=rfl
def rq.fd_inv(h:rq K H (.fd ds) v):∃p o kvs,v = cx p/\H p=aK (pT o<|nB kvs)/\vM K H ds kvs:=by cases h with
 |fd h l e=>show(_,_,_,rfl,h,l,e)
noncomputable def YT:D->Option (List<|pZ×D)
 | .fd kvs=>aK kvs
 |_=>n_
def Yt(h:YT d=aK kvs):d = .fd kvs:=by cases d <;> first|(cases h;rfl)|cases h
def KC(a b:ME):ME:=λS=>cc (a S) λx=>cc (b x.2) λy=>cc (YT x.1) λkvs=>cc (xI y.1) λkey=>(getD kvs key).map λd=>%[d|y.2]
def Ni(ha:SR K n a)(t:SR K tb b):SR K (Xy n tb)<|KC a b:=by intro H₀ l X S σ H Y d S' R e Q q;have(x,u,e):=oBq.mp e;have(y,z,e):=oBq.mp e;have(B,C,e):=oBq.mp e;have(key,E,e):=oBq.mp e;have(d',G,e):=oMq.mp e;cases e;show ha R u _ λI H1 Fs1 v1 J L r=>t L z _ λM H2 Fs2 v2 s R2 O=>?_;rw[Yt C]at r;have(p,o,P,rfl,h1,h2):=(Qf r s.sh).fd_inv;have g:=Ej (key:=key) h2;rw[G]at g;have(v,U,g2):=g;show(p,v,rfl,by rw[As E O,←U];show jB (P,key,ir (o,h1),rfl,rfl),q _ _ _ _ (hU J s) R2 g2)
def Uo{tb:TS}{D:BD}(l:Nat->St->Hp->Prop)(h0:l 0 σ H)(hl:∀i σ H,l i σ H->H d=aK (pT ob<|nB kvs))
  (B:∀i p σ H,kvs[i]?=aK p->l i σ H->tb { D with nx:=l (i+1),ct:=l (i+1),bk:=D.nx } (i8 σ u<|aK<|kV p.1) H) (hd:∀σ H,l (aX kvs) σ H->D.nx σ H) :
  ∃W:Nat->Nat->St->Hp->Prop,(∃m,W 0 m σ H)/\∀i m σ H,W i m σ H ->
   ((Itk ob d kvs).stop i H/\D.nx σ H)∨((Itk ob d kvs).go i H/\∃N:St->Hp->Prop,(∀r n,N r n->∃z,z<m/\W (i+1) z r n)/\∀x n,(Itk ob d kvs).yld i H x n->uv u x σ n λt C=>tb { D with nx:=N,ct:=N,bk:=D.nx } t C):=by
 show(λi m σ H=>m=aX kvs-i/\i<=aX kvs/\l i σ H,(aX kvs,by simp,aH _,h0),?_);rintro i m σ H ⟨rfl,I,p⟩;have q:=hl i σ H p;by_cases s:i<aX kvs;.show ir ((q,kvs[i],by simp[s]),l<|i+1,λr n E=>(aX kvs-(i+1),by omega,rfl,s,E),λv n y=>?_);have(rfl,x,G,rfl):=y;show B i x σ n G p
 .have e:i=aX kvs:=by rfl'
  subst e;show jB ((q,ab _),hd σ H p)
def Wf(x i:Nat)(body:MS):MS:=λS=>cc (xO S i) λkvs=>wa (x≠i)<|sD x body (kvs.map λp=>kD p.1)<|i8 S i<|aK<|b8<|.fd kvs
def Zx(hb:SS K tb body):SS K (Ov (Vy<|Ax i) (uv x) tb)<|Wf x i body:=by
 intro H₀ t I S σ H Fs o R e D h;have(y,e1,e):=oBq.mp e;obtain⟨hne,e⟩|e:=qe e
 .have J:=AK e1;have(p,s,s1,s2,h1,h2,Y,h4,h5):=R.owd J;show(_,s1,p,s,rfl,h1,λob=>?_);have(v,F,t1,t2,r,nd,oo,R1):=R.move J;rw[s2]at t2;cases t2;have R2:=qI.fix R1 (p:=p) (o:=pT ob<|nB s) h5 h2 h4;have s3:qk I<|rG I p<|pT ob<|nB s:=vR h2;have L:vM K (rG I p<|pT ob<|nB s) y s:=(Y.1,λi d v a b=>Qf (Y.2 i d v a b) s3);have R3:qI K H₀ t (rG I p<|pT ob<|nB s) (i8 S i<|aK<|b8<|.fd y) σ (rG H p<|pT ob<|nB s)<|i8 Fs i []:=R2.again (F:=[]) s1 (.sh<|.fd pW L.1 L.2) aW λq hq=>by cases hq
  have E:aX y=aX s:=by have:=congrArg aX Y.1;simpa using this
  show Uo (λn z H'=>∃u M B,qI K H₀ t u M z H' B/\qk (rG I p<|pT ob<|nB s) u/\sD x body ((y.map λp=>kD p.1).drop n) M=aK o) (_,_,_,R3,j9 _,e)
   (λn z H' ⟨u,M,B,O,G,_⟩=>O.sub _ _<|G _ _ pW) ?_ ?_
  .rintro n w z H' hw ⟨u,M,B,O,G,P⟩;have hn:n<aX y:=by rw[E];show(gSq.mp hw).1
   have hk:(y.map λp=>kD p.1)[n]?=aK (kD w.1):=by have:=congrArg (λl=>l[n]?) Y.1;simp?[gMq,hw,bJ]at this;rw[gMq];cases hd:y[n]? with
    |none=>rw[hd]at this;cases this
    |some dd=>rw[hd]at this;rw[bJ,show dd.1=w.1 from aK.inj this]
   have hlt:n<aX (y.map λp=>kD p.1):=by rw[lMq];show hn
   rw[aC hlt,(gSq.mp hk).2]at P;have(o2,e3,e4):=oBq.mp P;show hb (O.setD x<|Q9 w.1) e3 _ ?_;cases o2 with
   |nx S2=>show λC Q H2 Fs2 U X=>(C,S2,Fs2,X,eM G U,e4)
   |ct S2=>show λC Q H2 Fs2 U X=>(C,S2,Fs2,X,eM G U,e4)
   |bk S2=>cases e4;show λC Q H2 Fs2 U X=>h _ _ _ _ (eM (eM s3 G) U) X
   |rt a=>cases e4;show h
  .rintro z H' ⟨u,M,B,O,G,P⟩;rw[←E,show aX y=aX (y.map λp=>kD p.1) from fQ (lMq _),eK]at P;cases P;show h _ _ _ _ (eM s3 G) O
 .cases e
def Kl kvs:YT (.fd kvs)=aK kvs:=rfl
def Ks(S)a b:KC a b S=cc (a S) λx=>cc (b x.2) λy=>cc (YT x.1) λkvs=>cc (xI y.1) λkey=>(getD kvs key).map λd=>%[d|y.2]:=rfl
def acK(S)x i body:Wf x i body S=cc (xO S i) λkvs=>wa (x≠i)<|sD x body (kvs.map λp=>kD p.1)<|i8 S i<|aK<|b8<|.fd kvs:=rfl
end Z
namespace HT
open PySem PyProof.Rows
open PySem.SeqAt
open PySem.AutoSeq1 (wpAny_loadPart')
open PySem.MeetsSeq PySem.MeetsSeq2 PySem.MeetsSeq3
def qC:Λ->Λ->Bool
 |_,[]=>f_
 | [],_::_=>t_
 |x::xs,y::ys=>if x=y then qC xs ys else rM x y
theorem xM:∀xs:Λ,qC xs xs=f_
 | []=>rfl
 |x::xs=>by rw[qC,qz rfl];show xM xs
theorem xh:∀xs ys:Λ,qC xs ys=t_->qC ys xs=f_
 |xs,[],h=>by cases xs <;> cases h
 | [],y::ys,_=>rfl
 |x::xs,y::ys,h=>by
  rw[qC]at h ⊢;by_cases e:x=y;.rw[qz e]at h;rw[qz<|fQ e];show xh xs ys h
  .rw[qE e]at h;rw[qE<|λq=>e<|fQ q];show Mr.B5 _ _ h
theorem uV:∀xs ys:Λ,qC xs ys=f_->qC ys xs=f_->xs=ys
 | [],[],_,_=>rfl
 | [],y::ys,h,_=>by cases h
 |x::xs,[],_,h=>by cases h
 |x::xs,y::ys,h1,h2=>by
  rw[qC]at h1 h2;by_cases e:x=y;.rw[qz e]at h1;rw[qz<|fQ e]at h2;rw[e,uV xs ys h1 h2]
  .rw[qE e]at h1;rw[qE<|λq=>e<|fQ q]at h2;show absurd (Mr.DS _ _ h1 h2) e
theorem uN:∀xs ys n:Λ,qC ys xs=f_->qC n ys=f_->qC n xs=f_
 | [],ys,n,_,_=>by cases n <;> rfl
 |x::xs,[],n,h1,_=>by cases h1
 |x::xs,y::ys,[],_,h2=>by cases h2
 |x::xs,y::ys,z::n,h1,h2=>by
  simp?[qC]at h1 h2 ⊢;by_cases r:y=x
  .rw[qz r]at h1;by_cases l:z=y;.rw[qz l]at h2;rw[qz<|eI l r];show uN xs ys n h1 h2
   .rw[qE l]at h2;rw[qE<|by rw[←r];show l,←r];show h2
  .rw[qE r]at h1;by_cases l:z=y;.rw[qE<|by rw[l];show r,l];show h1
   .rw[qE l]at h2;by_cases s:z=x;.rw[s]at h2;show absurd (Mr.DS _ _ h1 h2) r
    .rw[qE s];show Mr.Am _ _ _ h1 h2
end HT
open HT renaming qC->eP,uV->aA4,uN->aAk
namespace Mr
open PySem PySem.Spec PyProof.Rows L2
def Za(x y:Λ):Bool:=!eP y x
def Bm(ms:List Λ):List Λ:=ms.mergeSort Za
def uX ms:dg (Bm ms) ms:=gY _ _
def TR x y z(h1:Za x y=t_)(h2:Za y z=t_):Za x z=t_:=by unfold Za at *;rw[gg]at *;show aAk _ _ _ h1 h2
def Ue x y:(Za x y || Za y x)=t_:=by unfold Za;cases h:eP y x with
 |false=>rfl
 |true=>rw[HT.xh _ _ h];rfl
def wq ms:(Bm ms).Pairwise<|λx y=>eP y x=f_:=by have:=gd (λa b c=>TR a b c) (λa b=>Ue a b) ms;show this.imp λh=>by unfold Za at h;rwa [gg]at h
def CF(l:dg xs ms)(h:xs.Pairwise<|λx y=>eP y x=f_):xs=Bm ms:=dg.eq_of_pairwise (λa b Q Q n r=>aA4 a b r n) h (wq ms)<|kT l<|T1<|uX ms
def ltM(r:Addr->Λ)(x y:kH):Bool:=match x.1,y.1 with
 | ao p,ao q=>eP (r p)<|r q
 |_,_=>f_
end Mr
namespace Z
open PySem L2 Mr Xe
def X5(f:D->D->Option D)(m b:ME):ME:=λS=>cc (m S) λx=>cc (b x.2) λy=>cc (f x.1 y.1) λd=>if d.scal then aK %[d|y.2]else n_
def Oq(i:Nat)(g:Int->Int->Int)(b:ME):MS:=λS=>cc (oR i S) λx=>cc (intOf x.1) λa=>cc (b x.2) λy=>(intOf y.1).map λc=>k4<|i8 y.2 i<|i0<|g a c
def OG(i:Nat)(pf:MP)(n:ME):MS:=λS=>cc (pf S) λx=>cc (tD x.2 i) λl=>cc (si (el l) x.1) λas=>cc (n<|i8 x.2 i n_) λy=>wa (y.2[i]?=aK n_/\aX as<qZ)<|aK<|k4<|i8 y.2 i<|aK<|putAt (el l) x.1<|as++[b8 y.1]
def agU(g:MF)(f:MFx)(a:MA):MX:=λS=>cc (a S) λx=>cc (f<|x.1.map pE)<|aec λr=>(g [pE r]).map λz=>.ok<|.rt z
def NV(h:intOf d=aK z):d = bo z:=by cases d <;> first|(cases h;rfl)|cases h
def aep(hr:Ex K r f)(ha:SM K n m)(u:SR K tb b):SM K (XX r n tb)<|X5 f m b:=by
 intro H₀ l U S σ H X d Y R e Q q;have(x,B,e):=oBq.mp e;have(y,C,e):=oBq.mp e;have(z,E,e):=oBq.mp e;split at e;.rename_i G;cases e;show ha R B _ λI H1 Fs1 v1 J s L=>u s C _ λM H2 Fs2 v2 t R2 O=>?_;show hr (Qf (Qf L s.sub) t.sh) O E λv P=>q _ _ _ v (eM J t.sf) R2<|P.scal G
 .cases e
def OM(u:SR K te b):SS K (aef i te<|ipI g)<|Oq i g b:=by intro H₀ l Q S σ H U o R e D hd;have(x,B,e):=oBq.mp e;have(a,C,e):=oBq.mp e;have(y,E,e):=oBq.mp e;have(c,G,e):=oMq.mp e;cases e;show oY i R (d:=x.1) (S':=x.2) B (λv n=>te σ n λw r=>ipI g v w r λz I=>D.nx (i8 σ i<|aK z) I) λJ n Fs1 v L M s=>?_;show u M (d:=y.1) (S':=y.2) E _ λO r Fs2 w P R2 t=>?_;rw[NV C]at s;rw[NV G]at t;cases s;cases t;show(a,c,rfl,rfl,hd _ _ _ _ (eM L.sf P.sf)<|R2.setD i .int)
def Vf(U:SPh K i J pf)(hk:SM K te L):SS K (CM<|Ui K "list" Cz J<|uK te wV)<|OG i pf L:=by
 intro H₀ B Hf S σ H Fs o R e D h;have(x,X,e):=oBq.mp e;have(l,Y,e):=oBq.mp e;have(as,C,e):=oBq.mp e;have(y,e4,e):=oBq.mp e;obtain⟨⟨hn,hl⟩,e⟩|e:=qe e
 .cases e;show U R (path:=x.1) (S':=x.2) X _ λHf1 H1 Fs1 v w t1 t z n=>?_;have s:=qL Y;have(p,vs,rfl,h1,h2):=D4 t s z C n;have(v',F,M,O,r,nd,oo,_):=t.move s;rw[z]at M;cases M;show(jB (rfl,vs,kc h1),hk (t.frame O) (d:=y.1) (S':=y.2) e4 _ λHf2 H2 Fs2 u P R2 r2=>?_);have(k1,k2,R3):=t.unframe O r nd (λq E=>(oo q E).1) R2 hn z P;have G:i<aX y.2:=(gSq.mp hn).1;have e5:(i8 y.2 i<|aK<|el l)[i]?=aK (aK<|el l):=aV G;have(I,g1,g2,g3):=R3.grow e5 z C<|n.kept r C k1;have(Fs',Q):=g3 [b8 y.1] [u] [[]] (qF.nil.snoc<|.sh r2) ⋯<|λq E=>by simp at E
  rw[gV]at Q;show(p,I,u,rfl,rfl,g1,by rw[K5,←g2];show hl,h _ _ _ _ (eM t1.sf P) Q)
 .cases e
def ads(S)f m b:X5 f m b S=cc (m S) λx=>cc (b x.2) λy=>cc (f x.1 y.1) λd=>if d.scal then aK %[d|y.2]else n_:=rfl
def JE(S)i g b:Oq i g b S=cc (oR i S) λx=>cc (intOf x.1) λa=>cc (b x.2) λy=>(intOf y.1).map λc=>k4<|i8 y.2 i<|i0<|g a c:=rfl
def YH(S)i pf n:OG i pf n S=cc (pf S) λx=>cc (tD x.2 i) λl=>cc (si (el l) x.1) λas=>cc (n<|i8 x.2 i n_) λy=>wa (y.2[i]?=aK n_/\aX as<qZ)<|aK<|k4<|i8 y.2 i<|aK<|putAt (el l) x.1<|as++[b8 y.1]:=rfl
noncomputable def KB(l:ML):MK:=λS=>(l S).map λx=>%[b8<|eH x.1|x.2]
def Xb(hl:SQ K te l):SK K (Ng (λxs H Q=>∃p ys,xs=[cx p]/\((sN K H p ys/\∀l,H l=n_->Q (cx l) (rG H l<|j6 ys))∨(zd K H p ys/\Q (cx p) H)))<|uK te wV)<|KB l:=by intro H₀ r I S σ H J L M R e Q q;have(x,t,e):=oMq.mp e;cases e;show hl R (ds:=x.1) (S':=x.2) t _ λu O Fs1 y n z B h1 C=>(y,n,rfl,jB (h1,λp E=>?_));have(s,G):=B.layF (o:=j6 n) E;show q _ _ _ (cx p) [] (hU z s) G (.sh<|.mk_tup pW<|C.mono s.sf) .nil
def X4(S)l:KB l S=(l S).map λx=>%[b8<|eH x.1|x.2]:=rfl
noncomputable def E4:D->Option (List D)
 | eH ds=>aK ds
 |_=>n_
def GJ(x:Nat)(k:MK)(body:MS):MS:=λS=>cc (vN k S) λy=>cc (E4<|pE y.1) λds=>sD x body ds y.2
def iTp(k:MK):MI:=λS=>cc (vN k S) λy=>(E4<|pE y.1).map λds=>%[ds|y.2]
def GK(e:E4 d=aK ds)(r:rq K H d v):∃a vs,v = cx a/\H a=aK (j6 vs)/\qo K H ds vs:=by cases d with
 |tup l=>cases e;have(p,vs,rfl,h1,h2):=oe r;show(p,vs,rfl,h1,h2)
 |_=>cases e
def WV(hk:SK K te k)(hb:SS K tb body):SS K (Ov (acW K te) (uv x) tb)<|GJ x k body:=by
 intro H₀ u Hf S σ H Fs o R e D h;have(z,Y,e):=oBq.mp e;have(Q,e2,e):=oBq.mp e;have U:SK K te<|vN k:=SK.frz hk;show U R (a:=z.1) (S':=z.2) Y _ λB H1 Fs1 v F t1 R1 r1 o1=>?_;have(d,hd):=yz (te:=te) Y;rw[hd]at r1;rw[hd,sA]at e2;have(a,vs,rfl,g1,g2):=GK e2 (pR r1).2;show(a,rfl,(vs,o8<|R1.sub _ _ g1),ZX (xs:=vs) (λi n M=>∃l C r,qI K H₀ u l C n M r/\qk B l/\sD x body (Q.drop i) C=aK o) (B,z.2,Fs1,R1,j9 _,e)
  (λi n M _ ⟨l,C,r,E,t,_⟩=>o8<|E.sub _ _<|t _ _ g1) ?_ ?_);.rintro i w n M hw ⟨l,C,r,E,t,y⟩;have(di,G,Ct):=g2.get' hw;have X:i<aX Q:=(gSq.mp G).1;rw[aC X]at y;have I:Q[i]=di:=(gSq.mp G).2;rw[I]at y;have(ob,e3,O):=oBq.mp y;show hb (E.setD x<|Qf Ct t) e3 _ ?_;cases ob with
  |nx P=>show λs J H2 Fs2 L R2=>(s,P,Fs2,R2,eM t L,O)
  |ct P=>show λs J H2 Fs2 L R2=>(s,P,Fs2,R2,eM t L,O)
  |bk P=>cases O;show λs J H2 Fs2 L R2=>h _ _ _ _ (eM (eM t1.sf t) L) R2
  |rt a=>cases O;show h
 .rintro n M ⟨l,C,r,E,t,y⟩;rw[←g2.1,eK]at y;cases y;show h _ _ _ _ (eM t1.sf t) E
def Ss(hk:SK K tl k)(hf:Gy K tf mf)(O:SK K te me):SK K (JC (acW K tl) fr tf te)<|rF (iTp k) fr mf me:=by
 intro H₀ B Hf S σ H Fs av S' R e Q q;have(y,l,e):=oBq.mp e;have(z,I,l):=oBq.mp l;have(ds,J,l):=oMq.mp l;subst l;have(S2,P,e):=oBq.mp e;have(U,X,e):=oBq.mp e;obtain⟨hl,e⟩|e:=qe e;.have(Y,e5,e):=oMq.mp e;cases e;have C:SK K tl<|vN k:=SK.frz hk;show C R (a:=z.1) (S':=z.2) I _ λHf1 H1 Fs1 v F L R1 M o1=>?_;have(d,hd):=yz (te:=tl) I;rw[hd]at M;rw[hd,sA]at J;have(Hf2,Fs2,E,R2):=R1.fzAll P;have(a,n,rfl,u,g2):=GK J<|Qf (pR M).2 E.sf;show(a,rfl,(n,o8<|R2.sub _ _ u),Cu (K:=K) hf O R2 X hl e5 (λi H s G=>(n,n[i]'(g2.1 ▸ G),o8<|s _ _ u,gEg<|g2.1 ▸ G)) (λH s=>(n,o8<|s _ _ u,dX<|fQ g2.1)) (λi H x H' s G y=>?_) λHf' H' v F t R' r o=>q _ _ _ v F (hU (hU L E) t) R' r<|o.back<|hU L E);have(y1,y2):=y;have(di,h1,h2):=g2.get'<|y2 n<|o8<|s _ _ u;show(y1,di,h1,h2)
 .cases e
def Os ds:E4 (eH ds)=aK ds:=rfl
def ZH(S)x k body:GJ x k body S=cc (vN k S) λy=>cc (E4<|pE y.1) λds=>sD x body ds y.2:=rfl
def af8(S)k:iTp k S=cc (vN k S) λy=>(E4<|pE y.1).map λds=>%[ds|y.2]:=rfl
end Z
namespace HT
open PySem PyProof.Rows
open PySem.SeqAt
open PySem.AutoSeq1 (wpAny_loadPart')
open PySem.MeetsSeq PySem.MeetsSeq2 PySem.MeetsSeq3
def abi(A:Around)(s:Shared)(op:CmpOp)(y x:Value)(b:Bool):Prop:=∀P w (E Q:Ψ),Q (eF b) s->kE (kG P w) A (nq op y x) Q E s
noncomputable def L9(e c:Nat->Bool)(z:Bool):Θ->Bool
 | []=>z
 |j::l=>if e j then L9 e c z l else c j
def N2(h:i<m):(bD m).drop i=i::(bD m).drop (i+1):=by rw[aC<|by simpa using h];simp
section
variable (l b:Addr)(xs ys:Ω)(n n2:Nat)(dd dd2:Option Addr)(sl sl2:Array Υ)(e c:Nat->Bool)
def ada:Meets (Builtin.«tuple.__lt__» ([ao l,ao b],[]))<|λA R s=>c7 (b7 s) l=aK { cls:=iD "tuple", dict:=dd,data:=k6 xs n,slots:=sl }/\c7 (b7 s) b=aK { cls:=iD "tuple", dict:=dd2,data:=k6 ys n2,slots:=sl2 }/\(∀j h1 (h2:j<ys.size),EqAt A.in1 s xs[j] ys[j]<|e j)/\(∀j h1 (h2:j<ys.size),e j=f_->abi A.in1 s .Lt xs[j] ys[j] (c j))/\R (T3<|pG<|eF<|L9 e c (decide<|xs.size<ys.size)<|bD<|min xs.size ys.size) s:=aB2 λprog w A R s h=>by
  have(H,g,d,I,os):=s;have(hl,P,S,U,h):=h;have f2:=pe;have O:aX (ph (km xs)<|km ys)=min xs.size ys.size:=by simp
  wp_walk using wpAny_loadPart' hl,wpAny_loadPart' P,wpAny_forIn_list _ (λtG b J=>b.1=n_/\J=(H,g,d,I,os)/\∃i,tG=(ph (km xs)<|km ys).drop i/\R (T3<|pG<|eF<|L9 e c (decide<|xs.size<ys.size)<|(bD<|min xs.size ys.size).drop i) (H,g,d,I,os)) _;case turn=>
   rintro⟨y,x⟩ tG b J ⟨t,rfl,i,u,r⟩;have C:i<aX (ph (km xs)<|km ys):=Nat.lt_of_not_le λz=>by rw[bX z]at u;cases u
   have X:i<min xs.size ys.size:=O ▸ C;have h1:i<xs.size:=by lia
   have h2:i<ys.size:=by lia
   rw[aC C]at u;injection u with G B;have Y:y=xs[i]:=by simpa using congrArg ko G
   have hx:x=ys[i]:=by simpa using congrArg kr G
   subst Y hx;rw[N2 X,L9]at r;show kC<|S i h1 h2 prog w _ _ ?_;cases q:e i with
   |true=>rw[q,qz rfl]at r;wp_walk;show(rfl,rfl,i+1,B,r)
   |false=>rw[q,qE ⋯]at r;have L:∀(E Q:Ψ),Q (eF<|c i) (H,g,d,I,os)->kE (kG prog w) A.in1 (nq .Lt xs[i] ys[i]) Q E (H,g,d,I,os):=λE Q z=>U i h1 h2 q prog w E Q z;wp_walk using L;show(_,rfl,r)
  case fin=>
   rintro⟨b1,b2⟩ J ⟨t,rfl,i,u,r⟩;simp only at t;subst t;have M:min xs.size ys.size<=i:=fD λz=>by rw[aC<|O ▸ z]at u;cases u
   rw[bX<|by simpa using M]at r;wp_walk;show(_,rfl,by simpa[q9,L9]using r)
  case h=>show(rfl,rfl,0,rfl,by simpa using h)
end
noncomputable def tRow(r:Ϝ):PyData:=pP<|r.map aA8
def U7 r t:aBo (tRow r) (tRow t)=decide (r=t):=by rw[←same_eq_eqv _ _<|by simp[tRow,j4,rr r t]];simp[tRow,g0,sF r t]
def xF(h:Heap)(q:Addr)(r:Ϝ):Prop:=∃vs:Ξ,rT h q (b9 vs)/\lI vs r
def vh(h:Heap)(p:Addr)(c:Λ):Prop:=∃l:Δ,rT h p (b9<|l.map ao)/\aX l=aX c/\∀(i:Nat) q (r:Ϝ),l[i]?=aK q->c[i]?=aK r->xF h q r
def xF.reads(t:xF h q r):Reads h (ao q) (tRow r) []:=by have(x,(o,l,s,n,hd),u):=t;show aA3 l s hd<|by show W.readsAll_of_ints u
def xF.eq(h:xF s.heap q r)(n:xF s.heap l r')(t:ic A+4<lg):EqAt A s (ao q) (ao l)<|decide<|r=r':=by
 rw[←U7];have d1:=sd r;show eqAt_reads (tRow r) (tRow r') A s (ao q) (ao l) [] [] h.reads n.reads (by simp[tRow,hJ,nM r]) (by simp[tRow,hJ,nM r']) ?_;have:gE (tRow r)<=2:=by simp?[tRow,gE];rfl'
 lia
def xF.lt(h:xF s.heap q r)(n:xF s.heap l r')(u:ic A+4<lg):abi A s .Lt (ao q) (ao l)<|rM r r':=by have(x,h1,h2):=h;have(y,t,g2):=n;show λP w E Q z=>Qg h1 t h2 g2 ∅ z
theorem N3(c d:Λ):∀k i,min (aX c) (aX d)-i=k->i<=aX c->i<=aX d->L9 (λj=>decide<|dk c j []=dk d j []) (λj=>rM (dk c j [])<|dk d j []) (decide<|aX c<aX d) ((bD<|min (aX c)<|aX d).drop i)=qC (c.drop i) (d.drop i)
 |0,i,hk,h1,h2=>by
  rw[bX<|by simp;lia,L9];by_cases q:i=aX c
  .rw[bX (l:=c) ∅];by_cases n:i<aX d;.rw[aC n];show d7 ∅
   .rw[bX (l:=d)<|by rfl'];show d8 ∅
  .have n:i=aX d:=by lia
   rw[bX (l:=d) ∅,aC<|show i<aX c by lia];show d8 ∅
 |k+1,i,hk,h1,h2=>by
  have r:i<aX c:=by omega
  have s:i<aX d:=by lia
  rw[N2 ∅,L9,aC r,aC s,qC];have t:dk c i []=c[i]:=by rw[gDq,gEg r];rfl
  have u:dk d i []=d[i]:=by rw[gDq,gEg s];rfl
  simp?[t,u,N3 c d k (i+1) ∅ ∅ ∅];generalize c[i]=x;generalize d[i]=y;by_cases q:x=y <;> simp[q]
def KL{l:Δ}{j:Nat}h:∃q,l[j]?=aK q/\(b9<|l.map ao)[j] = ao q:=by
 have n:j<aX l:=by simpa using h
 show(l[j],gEg n,by simp)
def Ga{l:Δ}{c:Λ}(hl:aX l=aX c)(hr:∀(i:Nat) q (r:Ϝ),l[i]?=aK q->c[i]?=aK r->xF h q r)(n:l[j]?=aK q):xF h q<|dk c j []:=by
 have s:j<aX c:=by rw[←hl];show(gSq.mp n).1
 show hr j q _ n ?_;rw[gDq,gEg s];rfl
def vh.lt(h:vh s.heap p c)(h':vh s.heap u d)(hu:ic A+8<lg):abi A s .Lt (ao p) (ao u)<|qC c d:=by
 have(qs,((cls,dd,R,sl),S,U,n,hd),l1,X):=h;have(y,((Y,B,C,G),l,r,n',t),l2,r2):=h';simp only at U hd r t;subst U hd r t;intro P w E Q z;have key:=N3 c d _ 0 rfl (aH _)<|aH _;rw[hX,hX,hX]at key;have hi:ic (p9 A)+4<lg:=by change ic A+1+4<lg;lia
 show oD (op:=.Lt) (_,S,rfl) (_,l,rfl) aAi aAb (aA7 _ _) (ada p u (b9<|qs.map ao) (b9<|y.map ao) n n' dd B sl G (λj=>decide<|dk c j []=dk d j []) λj=>rM (dk c j [])<|dk d j []) (S,l,λj H I=>?_,λj H I Z=>?_,((λx=>nomatch x),?_)) ∅;.have(q,J,L):=KL H;have(q',M,O):=KL I;rw[L,O];show(Ga l1 X J).eq (Ga l2 r2 M) hi
 .have(q,J,L):=KL H;have(q',M,O):=KL I;rw[L,O];show(Ga l1 X J).lt (Ga l2 r2 M) hi
 .simp?[aq,lMq,l1,l2];rw[key];show z
def xF.keep(k:∀b o,c7 h b=aK o->c7 l b=aK o)(t:xF h q r):xF l q r:=by have(n,(o,s,tG),u):=t;show(n,(o,k _ _ s,tG),u)
def vh.keep(k:∀b o,c7 h b=aK o->c7 l b=aK o)(t:vh h p c):vh l p c:=by have(n,(o,s,tG),l1,u):=t;show(n,(o,k _ _ s,tG),l1,λi q r x y=>(u i q r x y).keep k)
section
variable {fp wr:Δ}{St:Nat->Heap->Prop}
def acO(P0:kJ)(w0:kM)(A:Around)(P:Nat->Value->Prop)(t:Nat->Nat->Bool)(G:Heap->Prop):Prop:=∀i j l r s (Q E:Ψ),G s.heap->P i l->P j r->Q (eF<|t i j) s->kE (kG P0 w0) A (nq .Lt l r) Q E s
def SC(W:Walks P0 w0 A.in1 I fp wr n P St)C S(Q:∀h E:Heap,G h->(∀b o,b∉wr->b≠S->c7 h b=aK o->c7 E b=aK o)->G E)(hc:acO P0 w0 A.in1 P C G)(hS:S∉fp) :
  ∀k j s v0 c,n-(j+1)=k->j+1<=n->G s.heap->St (j+1) s.heap->P (mL C j) v0->c7 (b7 s) S=aK { cls:=iD "list", dict:=n_,data:=k6 #[v0,v0] c,slots:=#[] } ->
  (∀v E tk,P (mL C<|n-1) v->(∀b o,b∉wr->b≠S->c7 (b7 s) b=aK o->c7 E b=aK o)->R (T3<|pG v) { s with heap:=E,toks:=tk })->mq (kG P0 w0) A (x8 "min.loop" ([ao I,gX,ao S],[])) R s:=by
 have hw:S∉wr:=λz=>hS<|W.sub _ z;have nm:(toString "min" ++ toString ".loop" : String) = "min.loop" := by rfl
 intro k;induction k with
 |zero=>
  intro j s v0 c hk hj U st r h0 H;have X:j+1=n:=by lia
  show kY gj ?_;rw[eo cM _];change kE _ A.in1 (nT (ao S) >>= _) _ _ s;show kC<|lU h0 rfl ?_;change kE _ A.in1 (tryCatch (lZ<|ao I) _ >>= _) _ _ s;show kC<|lM<|W.done s _ _ (X ▸ st) λh1 Y x=>?_;have l:=x S _ hw h0;change kE _ A.in1 (ox S (λZ=>#[]) >>= _) _ _ _;show kC ?_;show mh l rfl<|kC<|mr<|kF<|H v0 _ Y (by rw[←X];show r) λb o t u z=>?_;show(eI<|bO _ _<|h7 u)<|x b o t z
 |succ k ih=>
  intro j s v0 c hk hj U st r h0 H;have lt:j+1<n:=by lia
  show kY gj ?_;rw[eo cM _];change kE _ A.in1 (nT (ao S) >>= _) _ _ s;show kC<|lU h0 rfl ?_;change kE _ A.in1 (tryCatch (lZ<|ao I) _ >>= _) _ _ s;show kC<|lM<|W.item (j+1) s _ _ lt st λv h1 Y hP Zm x=>?_;have l:=x S _ hw h0;have J:G h1:=Q _ _ U λb o t Z z=>x b o t z;change kE _ A.in1 (tryCatch (aeU [v,v]<|nq .Lt v v0 >>= _) _ >>= _) _ _ _;show kC<|lM<|kX<|kC<|hc (j+1) (mL C j) v v0 _ _ _ J hP r ?_;show kC<|kX<|lJ ?_;show kC<|mr<|kF ?_;cases q:C (j+1) (mL C j)with
  |true=>simp?[if_true];show kC ?_;show mh l rfl<|kC<|mr ?_;rw[nm];show kF (lD cM _,ih (j+1) _ v _ ∅ lt (Q _ _ J λb o Z u z=>eI (bO _ _<|h7 u) z) (W.frame _ _ _ Zm λb hb o z=>eI (bO _ _<|λy:S=b=>hS<|by rw[y];show hb) z) (by simp?[mL,q,if_true];show hP) (gD _ l rfl) λL h2 M B O=>H L h2 M B λb o t u z=>O b o t u<|eI (bO _ _<|h7 u)<|x b o t z)
  |false=>simp?[bT,if_false];show kC<|mr ?_;rw[nm];show kF (lD cM _,ih (j+1) _ v0 c ∅ lt J Zm (by simp?[mL,q,bT,if_false];show r) l λL h2 M B O=>H L h2 M B λb o t u z=>O b o t u<|x b o t z)
def PL(W:Walks P0 w0 A.in1 I fp wr n P St)x S(B:∀h l:Heap,G h->(∀b o,b∉wr->b≠S->c7 h b=aK o->c7 l b=aK o)->G l)(H:acO P0 w0 A.in1 P x G)(hS:S∉fp)(hn:0<n)(J:G<|b7 s)(st:St 0<|b7 s)
  (h0:c7 (b7 s) S=aK { cls:=iD "list", dict:=n_,data:=k6 #[] c,slots:=#[] }) (L:∀v l tk,P (mL x<|n-1) v->(∀b o,b∉wr->b≠S->c7 (b7 s) b=aK o->c7 l b=aK o)->R (T3<|pG v) { s with heap:=l,toks:=tk }) :
  mq (kG P0 w0) A (x8 "min.loop" ([ao I,gX,ao S],[])) R s:=by
 have hw:S∉wr:=λz=>hS<|W.sub _ z;have nm:(toString "min" ++ toString ".loop" : String) = "min.loop" := by rfl
 show kY gj ?_;rw[eo cM _];change kE _ A.in1 (nT (ao S) >>= _) _ _ s;show kC<|lU h0 rfl ?_;change kE _ A.in1 (tryCatch (lZ<|ao I) _ >>= _) _ _ s;show kC<|lM<|W.item 0 s _ _ hn st λv h1 Y hP Zm C=>?_;have r:=C S _ hw h0;have M:G h1:=B _ _ J λb o t Z z=>C b o t z;change kE _ A.in1 (ox S (λZ=>#[v,v]) >>= _) _ _ _;show kC ?_;show mh r rfl ?_;rw[nm];show kF (lD cM _,SC W x S B H hS _ 0 _ v _ rfl hn (B _ _ M λb o Z u z=>eI (bO _ _<|h7 u) z) (W.frame _ _ _ Zm λb O o z=>eI (bO _ _<|λy:S=b=>hS<|by rw[y];show O) z) hP (gD _ r rfl) λQ h2 U E X=>L Q h2 U E λb o t u z=>X b o t u<|eI (bO _ _<|h7 u)<|C b o t z)
end
section
variable {E:Ψ}
def Sb{Q:Ψ}(h:kE (kG P0 w0) A.in1 (pyIter x) (λy l=>∃(I:Addr) (fp t:Δ) (n:Nat) (P:Nat->Value->Prop) (St:Nat->Heap->Prop) (u:Nat->Nat->Bool) (G:Heap->Prop),y = ao I/\Walks P0 w0 A.in1 I fp t n P St/\St 0 l.heap/\(∀b∈fp,b<l⁻¹)/\0<n/\G l.heap/\(∀h r:Heap,G h->(∀b o,b∉t->b≠l⁻¹->c7 h b=aK o->c7 r b=aK o)->G r)/\acO P0 w0 A.in1 P u G /\
   ∀v r tk,P (mL u<|n-1) v->(∀b o,b∉t->c7 (b7 l) b=aK o->c7 r b=aK o)->Q v { l with heap:=r,toks:=tk }) E s):kE (kG P0 w0) A (call (kj "min") [x]) Q E s:=by
 have nm:(toString "min" ++ toString ".loop" : String) = "min.loop" := by rfl
 show call_function_tree aBk aB7 aB8 (F.args_min1 _) ?_;change kE _ A.in1 (k5 "min" ["key","default"] 0 ([],[]) >>= _) _ _ s;show kC<|wpAny_of_eq (show k5 "min" ["key","default"] 0 ([],[])=pure [n_,n_]from rfl) ?_;show kC<|kF ?_;show kC<|lj h (λy l z=>?_) λZ Z e=>e;have(I,fp,t,n,P,St,u,G,rfl,W,st,hf,hn,g,B,C,H):=z;show kC<|wpAny_newObj_type ?_;have hS:l⁻¹∉fp:=λm=>cF _<|hf _ m;rw[nm];show kF (lD cM _,PL W u l⁻¹ B C hS hn (B _ _ g λb o Z Z z=>aa _ z) (W.frame _ _ _ st λb Z o z=>aa _ z) (aA _ rfl) λv h1 tk hP J=>?_);show H v h1 tk hP λb o L z=>J b o L (ar<|ae z)<|aa _ z
end
end HT
open HT renaming tRow->m4,vh->zT,xF->OE
namespace Mr
open PySem L2
open PySem.Spec PyProof.Rows
def Ai(K:Ζ)(H:Hp)(p:Addr)(c:Λ):Prop:=∃l:Δ,zd K H p (l.map cx)/\aX l=aX c/\∀(i:Nat) q (r:Ϝ),l[i]?=aK q->c[i]?=aK r->zd K H q (r.map c8)
def Ck{σ:St}(I:Inv X u σ H s)(h:Ai X.K H p c):zT s.heap p c:=by have(x,h1,h2,y):=h;have(l,n,t,_):=I.tuple h1;have z:=uC n;subst z;show(x,t,h2,λi q r B C=>?_);have(l,n,t,_):=I.tuple<|y i q r B C;show(l,t,yJ n)
def ady(cs:List Λ)(i:Nat):Prop:=∀(j:Nat) c d,cs[j]?=aK c->cs[i]?=aK d->eP c d=f_
theorem LU{cs:List Λ}:∀k,k<aX cs->mL (λi j=>eP (dk cs i [])<|dk cs j []) k<=k/\∀j,j<=k->eP (dk cs j []) (dk cs (mL (λi j=>eP (dk cs i [])<|dk cs j []) k) [])=f_
 |0,_=>(ab _,λj n=>by
  have:j=0:=by lia
  subst this;show HT.xM _)
 |k+1,hk=>by
  have(h1,h2):=LU (cs:=cs) k<|by rfl'
  simp?[mL];by_cases c:eP (dk cs (k+1) []) (dk cs (mL (λi j=>eP (dk cs i [])<|dk cs j []) k) [])=t_
  .rw[qz c];show(ab _,λj n=>?_);by_cases l:j<=k;.show aAk _ _ _ (HT.xh _ _ c)<|h2 j l
   .have:j=k+1:=by lia
    subst this;show HT.xM _
  .rw[qE c];show(by rfl',λj n=>?_);by_cases l:j<=k;.show h2 j l
   .have:j=k+1:=by lia
    subst this;show e8 jw c
def Jm(P:X.calm=t_)(hu:ic X.A+64<lg):uM X (kj "min")<|λxs H Q=>∃(a:Addr) (ps:Δ) (cs:List Λ),xs=[cx a]/\sN X.K H a (ps.map cx)/\0<aX ps/\aX ps=aX cs/\(∀(i:Nat) p c,ps[i]?=aK p->cs[i]?=aK c->Ai X.K H p c)/\∀i p,ps[i]?=aK p->ady cs i->Q (cx p) H:=by
 intro oO s σ H xs us Q I r h;have(a,ps,cs,rfl,hS,t,hl,R,q):=h;have(u,rfl,S):=vL r;cases S;have(U,Y,pl,hz):=oG I hS;have ei:=uC Y;subst ei;have C:=eQ pl;have x:a<s⁻¹:=by have(o,e,_):=C;show ae e
 have l:∀i p,ps[i]?=aK p->zT s.heap p (dk cs i []):=λi p J=>by
  have G:i<aX cs:=by rw[←hl];show(gSq.mp J).1
  show Ck I<|R i p _ J<|by rw[gDq,gEg G];rfl
 show HT.Sb<|mD C ?_;have n:∀b o,c7 (b7 s) b=aK o->b≠s⁻¹/\b≠s⁻¹+1:=λb o e=>(ar<|ae e,ar<|bS<|ae e);show(_,_,_,_,_,_,λi j=>eP (dk cs i [])<|dk cs j [],λh=>∀b o,c7 (b7 s) b=aK o->c7 h b=aK o,rfl,pa (A:=p9 X.A) (I.ok.hd P) _ a (ar x)<|b9<|ps.map ao,((_,aA _ rfl,rfl,rfl),C.push _),λb y=>?_,by simpa using t,λb o e=>aa _ e,λh h' g k b o e=>k b o ?_ ?_<|g b o e,λi j vi vj s' Q E g G L z=>?_,λv h' tk hP hk=>?_)
 .change b<(ig (b7 s) _).objs.size;rw[hW];obtain rfl|y:=ag.mp y;.show eG _
  .rw[mSq.mp y];show bS x
 .intro m;show(n b o e).1<|mSq.mp m
 .change b≠(ig (b7 s) _).objs.size;rw[hW];show(n b o e).2
 .have M:∀{i:Nat}{v:Value},(b9<|ps.map ao)[i]?=aK v->∃p,ps[i]?=aK p/\v = ao p:=λ{i v} h=>by rw[fh,gMq]at h;have(p,h1,rfl):=oMq.mp h;show(p,h1,rfl)
  have(p,h1,rfl):=M G;have(p',h2,rfl):=M L;show((l i p h1).keep g).lt ((l j p' h2).keep g) (by change ic X.A+1+8<lg;lia) X.prog X.w E Q z
 .have hn:(ps.map ao).toArray.size=aX ps:=by simp
  rw[hn]at hP;have y:=LU (cs:=cs) (aX ps-1) ∅;have B:(b9<|ps.map ao)[mL (λi j=>eP (dk cs i [])<|dk cs j []) (aX ps-1)]?=aK v:=hP;rw[fh,gMq]at B;have(p,h1,rfl):=oMq.mp B;show(cx p,H,I.kept λb o e=>hk b o (λm=>(n b o e).1<|mSq.mp m)<|aa _ e,rfl,q _ p h1 λj c d O e2=>?_);have L:j<aX cs:=(gSq.mp O).1;have:=y.2 j ∅;rw[gDq,O,gDq,e2]at this;show this
def GQ(x:zT h p c):Reads h (ao p) (pP<|c.map m4) []:=by have(s,(o,t,l,n,hd),l1,u):=x;show aA3 t l hd ?_;rw[eJ];clear t hd;induction s generalizing c with
 |nil=>have:c=[]:=aD.mp<|fQ l1;subst this;show .nil
 |cons q s y=>cases c with
  |nil=>cases l1
  |cons r c=>show ReadsAll.cons (as:=[]) (bs:=[]) (u 0 q r rfl rfl).reads<|y (by simpa using l1) λi z B C E=>u (i+1) z B (by show C)<|by show E
theorem Qp:∀c:Λ,i7 (c.map m4)<=2
 | []=>by simp[i7]
 |r::c=>by have h1:=sd r;have h2:=Qp c;simp?[ax,i7,m4,gE];lia
theorem Vu:∀c:Λ,lS (c.map m4)=t_
 | []=>by rfl
 |r::c=>by have h1:=nM r;have h2:=Vu c;simp?[ax,lS,m4,hJ];simp[h1,h2]
theorem noMix_C:∀rs l:Λ,k8 (rs.map m4) (l.map m4)=t_
 | [],[]=>by rfl
 | [],_::_=>by rfl
 |_::_,[]=>by rfl
 |r::rs,t::l=>by simp[k8,m4,j4,rr r t,noMix_C rs l]
theorem same_C:∀rs l:Λ,k7 (rs.map m4) (l.map m4)=decide (rs=l)
 | [],[]=>by rfl
 | [],_::_=>by rfl
 |_::_,[]=>by rfl
 |r::rs,t::l=>by simp?[ax,k7,m4,g0,sF r t];rw[same_C rs l];by_cases h:r=t <;> simp[h]
def afZ(h:zT s.heap p c)(n:zT s.heap l d)(r:ic A+8<lg):aBz A s (ao p) (ao l)<|decide<|c=d:=by
 have e:aBo (pP<|c.map m4) (pP<|d.map m4)=decide (c=d):=by rw[←SeqAt.same_eq_eqv _ _<|by simp?[j4];show noMix_C c d];simp?[g0,same_C]
 rw[←e];have d1:=Qp c;show SeqAt.eqAt_reads _ _ A s (ao p) (ao l) [] [] (GQ h) (GQ n) (by simp?[hJ];show Vu c) (by simp?[hJ];show Vu d) ?_;have:gE (pP<|c.map m4)<=3:=by simp?[gE];rfl'
 lia
end Mr
namespace Z
open PySem L2 Mr Xe
noncomputable abbrev dC(c:Λ):D:=eH<|c.map λr=>eH<|r.map bo
def zo:List D->Option Λ
 | []=>aK []
 | eH es::ds=>cc (su es) λr=>(zo ds).map (r :: ·)
 |_=>n_
def xU:D->Option Λ
 | eH ds=>zo ds
 |_=>n_
def AG:List D->Option (List Λ)
 | []=>aK []
 |d::ds=>cc (xU d) λc=>(AG ds).map (c :: ·)
theorem Be:∀{ds}{c},zo ds=aK c->ds=c.map λr=>eH<|r.map bo
 | [],c,h=>by cases h;rfl
 |d::ds,c,h=>by cases d with
  |tup l=>have(r,h1,h):=oBq.mp h;have(n,h2,rfl):=oMq.mp h;rw[Be h2,uZ h1];rfl
  |_=>cases h
def Af(h:xU d=aK c):d=dC c:=by cases d with
 |tup l=>rw[Be (ds:=l) h]
 |_=>cases h
theorem CI:∀{ds}{cs},AG ds=aK cs->ds=cs.map dC
 | [],cs,h=>by cases h;rfl
 |d::ds,cs,h=>by have(c,h1,h):=oBq.mp h;have(l,h2,rfl):=oMq.mp h;rw[CI h2,Af h1];rfl
theorem zH:∀c:Λ,zo (c.map λr=>eH<|r.map bo)=aK c
 | []=>rfl
 |r::c=>by change(su<|r.map bo).bind _=_;rw[rP,cu,zH c];rfl
def yl c:xU (dC c)=aK c:=zH c
theorem yN:∀cs:List Λ,AG (cs.map dC)=aK cs
 | []=>rfl
 |c::cs=>by change(xU<|dC c).bind _=_;rw[yl,cu,yN cs];rfl
def yC:List Λ->Option Λ
 | []=>n_
 |c::cs=>aK<|cs.foldl (λm c=>if eP c m then c else m) c
theorem Ig:∀(cs:List Λ) m,(cs.foldl (λm c=>if eP c m then c else m) m=m∨cs.foldl (λm c=>if eP c m then c else m) m∈cs)/\eP m (cs.foldl (λm c=>if eP c m then c else m) m)=f_/\∀c∈cs,eP c (cs.foldl (λm c=>if eP c m then c else m) m)=f_
 | [],m=>(jB rfl,HT.xM _,λc h=>by cases h)
 |c::cs,m=>by
  rw[bK];by_cases q:eP c m=t_
  .rw[qz q];have(h1,h2,l):=Ig cs c;show(ir ?_,aAk _ _ _ h2<|HT.xh _ _ q,λd hd=>?_)
   .obtain h1|h1:=h1;.rw[h1];simp
    .show mCo _ h1
   .obtain rfl|hd:=ag.mp hd;.show h2
    .show l d hd
  .rw[qE q];have(h1,h2,l):=Ig cs m;show(?_,h2,λd hd=>?_)
   .obtain h1|h1:=h1;.show jB h1
    .show ir<|mCo _ h1
   .obtain rfl|hd:=ag.mp hd;.show aAk _ _ _ h2<|e8 jw q
    .show l d hd
def Bc(h:yC cs=aK m):m∈cs/\∀c∈cs,eP c m=f_:=by cases cs with
 |nil=>cases h
 |cons c cs=>
  cases h;have(h1,h2,l):=Ig cs c;show(?_,λd hd=>?_)
  .obtain h1|h1:=h1;.rw[h1];simp
   .show mCo _ h1
  .obtain rfl|hd:=ag.mp hd;.show h2
   .show l d hd
def Rp(l:ML):MK:=λS=>cc (l S) λx=>cc (AG x.1) λcs=>(yC cs).map λm=>%[b8<|dC m|x.2]
def BU(r:rq K H (dC c) v):∃p,v = cx p/\Ai K H p c:=by
 have(p,n,rfl,h1,h2):=oe r;have key:∀{c:Λ}{n:List V},qo K H (c.map λr=>eH<|r.map bo) n->∃l:Δ,n=l.map cx/\aX l=aX c/\∀(i:Nat) (q:Addr) (r:Ϝ),l[i]?=aK q->c[i]?=aK r->H q=aK (j6<|r.map c8):=λ{c}=>by induction c with
  |nil=>intro n h;show([],h8 h,rfl,λi q r e=>by cases e)
  |cons r c u=>intro n h;have(v,C,rfl,x,g2):=eC h;have(q,E,rfl,t,y):=oe x;rw[qP y]at t;have(l,rfl,l1,s):=u g2;show(q::l,rfl,by simp[l1],λi z B a b=>?_);cases i with
   |zero=>cases a;cases b;show t
   |succ i=>show s i z B (by show a)<|by show b
 have(l,rfl,l1,s):=key h2;show(p,rfl,l,o8 h1,l1,λi q r a b=>o8<|s i q r a b)
theorem GF:∀{cs:List Λ}{vs},qo K H (cs.map dC) vs->∃ps:Δ,vs=ps.map cx/\aX ps=aX cs/\∀(i:Nat) p c,ps[i]?=aK p->cs[i]?=aK c->rq K H (dC c) (cx p)
 | [],vs,h=>([],h8 h,rfl,λi q r e=>by cases e)
 |c::cs,vs,h=>by have(v,u,rfl,l,g2):=eC h;have(p,rfl,_):=BU l;have(ps,rfl,l1,n):=GF g2;show(p::ps,rfl,by simp[l1],λi s t a b=>?_);cases i with
  |zero=>cases a;cases b;show l
  |succ i=>show n i s t (by show a)<|by show b
def RL(hl:SQ K te l):SK K (Ng (λxs H Q=>∃(a:Addr) (ps:Δ) (cs:List Λ),xs=[cx a]/\sN K H a (ps.map cx)/\0<aX ps/\aX ps=aX cs/\(∀(i:Nat) p c,ps[i]?=aK p->cs[i]?=aK c->Ai K H p c)/\∀i p,ps[i]?=aK p->ady cs i->Q (cx p) H)<|uK te wV)<|Rp l:=by
 intro H₀ s Hf S σ H Fs av S' R e Q q;have(x,I,e):=oBq.mp e;have(cs,J,e):=oBq.mp e;have(m,L,e):=oMq.mp e;cases e;show hl R (ds:=x.1) (S':=x.2) I _ λM H1 Fs1 O P U u h1 y=>?_;rw[CI J]at y;have(ps,rfl,l1,z):=GF y;have(n,r):=Bc L;have pos:0<aX ps:=by rw[l1];show dQ n
 show(O,ps,cs,rfl,h1,pos,l1,λi p c a b=>?_,λi p B t=>?_);.have(p',e,h):=BU<|Qf (z i p c a b) u.sub;cases e;show h
 .have C:i<aX cs:=by rw[←l1];show(gSq.mp B).1
  have E:cs[i]?=aK cs[i]:=gEg C;have(j,X,Y):=cK.mp n;have em:cs[i]=m:=aA4 _ _ (r _<|gRq C)<|t j m _ (by rw[gEg X,Y]) E;have G:=z i p _ B E;rw[em]at G;show q _ _ _ (cx p) [] U u (.sh G) .nil
def abY(S)l:Rp l S=cc (l S) λx=>cc (AG x.1) λcs=>(yC cs).map λm=>%[b8<|dC m|x.2]:=rfl
end Z
local macro_rules|`(tactic|simp! $c:optConfig [$ls,*]$[$l:location]?)=>do let x:=("yB ad5 aeg adT adU adq adH adx aeW agf afz aed rC_ afU agc adR abc aeC abz af0 afR aea Y0 adD acv acM ZC aeO adu aeG ac0 acD Sw af9 afP agm acn aca ab7 YU VZ V2 adh ae1 acu aex afE aeA adP abS MW TM WE adb abP aeD Yv aaS aa2 aa3 adm afF Sk O7 WW TF ab1 Yy Y9 VT agg PV abn abT ab3 afS Xv acf abl ad3 YW acQ acy aeB Xq Yd Xn UU ZD Vq ZS WX ZQ Z1 acU aaU abV aci p40 p57 Gw Lm DY YO Yh YY YA QU YD SF UE Tq Wz T4 Lh U0 Zg Yn Vm ZI Wk R8 sA sV CC aeI rP S6 gt1 gt2 gt3 gt4 Zm LJ st3 st4 abr acG WD abj ace acb J9 QQ UT Sq ae6 afL aeS aeR aaN X3 adn Y7 Oz Zh Kl Ks acK ads JE YH X4 Os ZH af8 abY".splitOn.map (Lean.Name.str `_root_.Z)++"getElem?_cons_zero set_cons_zero length_cons length_nil map_cons map_nil nil_append cons_append length_map replicate_zero append_nil reduceReplicate".splitOn.map (Lean.Name.str `List)++"Option.join_some Option.map_some Option.bind_some Bool.not_true Bool.not_false Bool.false_eq_true decide_true decide_false Nat.zero_add Nat.reduceAdd Nat.reduceSub Nat.reduceEqDiff Nat.reduceLeDiff reduceCtorEq".splitOn.map String.toName).toArray.map Lean.mkIdent;`(tactic|simp $c:optConfig only[$[$x:ident],*,↓reduceIte,$ls,*]$[$l:location]?)
namespace Mr
open PySem PySem.Spec PyProof.Rows L2
section
variable {st:Expr}
theorem QL{α β:Type}{g:α->Option β}{h}:∀{l:List α},(∀k∈l,g k=aK (h k))->l.filterMap g=l.map h
 | [],_=>rfl
 |k::l,q=>by simp?[fG,q k<|ai ..,ax,QL λk hk=>q k<|mCo _ hk]
def S5(l:Ξ):slicePick (b9 l) n_ n_ (aK<|-1)=b9 (hY l):=by
 have e:sliceRange ((aX l:Int)-1) (-1) (-1)=(bD<|aX l).map λk=>aX l-1-k:=by
  have c:jz ((if (-1:Int)>0 then (if (aX l:Int)-1 < -1 then (-1-((aX l:Int)-1) + -1-1) / -1 else 0)else (if (aX l:Int)-1 > -1 then ((aX l:Int)-1 - -1 - -1-1) / (- -1)else 0):Int))=aX l:=by rw[qE ⋯,dF,Int.ediv_one];split <;> lia
  change(bD<|jz<|(if (-1:Int)>0 then (if (aX l:Int)-1 < -1 then (-1-((aX l:Int)-1) + -1-1) / -1 else 0)else (if (aX l:Int)-1 > -1 then ((aX l:Int)-1 - -1 - -1-1) / (- -1)else 0):Int)).map _=_;rw[c];show mCq λk Q=>by lia
 change(b9 ((sliceRange ((l.toArray.size:Int)-1) (-1)<|-1).filterMap ((b9 l)[·]?)))=_;rw[aq,e,List.filterMap_map];congr 1;rw[QL (h:=λk=>dk (hY l) k gX) λk hk=>by have hk:=bE.mp hk;change (b9 l)[aX l-1-k]?=_;rw[fh,gDq,List.getElem?_reverse hk,gEg<|by omega];rfl];show gA ⋯ λi h1 h2=>?_;rw[fL]at h2;simp[gDq,h2]
def tRv(K:Ζ)(te:TE)(ts:TO):TE:=λσ H Q=>te σ H λx n=>ts σ n λs l=>s=aK (-1)/\∃a xs,x = cx a/\sN K l a xs/\∀p,l p=n_->Q (cx p) (rG l p<|et<|hY xs)
def JV(B:PE X e te)(C:PO X (aK st) ts):PE X (pL e (.Slice n_ n_ (aK st) p2) pos)<|tRv X.K te ts:=by
 intro t s σ H Q I h;show ado<|ua (B t s σ H _ I h) λv E n=>?_;have(x,G,J,L,M):=n;show wpAny_Slice<|kF<|kF<|ua (C t E σ G _ J M) λO y n=>?_;have(l,P,R,S,rfl,a,xs,rfl,U,q):=n;have u:Inv X t σ P { y with heap:=ig (b7 y) { cls:=iD "slice", data:=fT #[gX,gX,O] } }:=R.kept λb ob q=>aa _ q;cases L;have(Y,r,ht,hz):=oG u U;have z:=iL r;show tail_any (T:= "list") ht.isList.typeIs (aAf slot_list_getitem) ?_<|by with_unfolding_all rfl
 show og (eQ ht) (jT.new ..) .none .none S ⋯ ?_<|by rw[aq] <;> lia
 rw[S5];show(cx _,_,u.laid (λb ob q=>aa _ q) (ab _) ?_,rfl,q _<|l6 (t7 u)<|ab _);show(by rw[fL];show hz,_,0,r.reverse,aA _ rfl)
def aeV(K:Ζ):R2:=λx y H Q=>∃a b c d,x = cx a/\y = cx b/\Ai K H a c/\Ai K H b d/\Q (lR<|eP c d) H
def acL(r:ic X.A+64<lg):Fk X (lV .Lt)<|aeV X.K:=by intro t s σ H x y v u Q I l n h;have(a,b,c,d,rfl,rfl,h1,h2,q):=h;cases l;cases n;show(Ck I h1).lt (Ck I h2) ∅ X.prog X.w _ _ (lR _,H,I,rfl,q)
end
end Mr
namespace Z
open PySem L2 Mr Xe
def V7(x y:D):Option D:=cc (xU x) λc=>(xU y).map λd=>fb<|eP c d
def abt c d:V7 (dC c) (dC d)=aK (fb<|eP c d):=by unfold V7;rw[yl,yl];rfl
def aa7:Ex K (aeV K) V7:=by intro x y H Q z B d l n e q;have(c,r,e):=oBq.mp e;have(s,t,e):=oMq.mp e;subst e;rw[Af r]at l;rw[Af t]at n;have(p,rfl,h1):=BU l;have(u,rfl,h2):=BU n;show(p,u,c,s,rfl,rfl,h1,h2,q _ IT)
def IL(l:ML)(b:MO):MK:=λS=>cc (l S) λx=>cc (b x.2) λy=>if y.1=aK (-1)then aK %[el<|x.1.reverse.map b8|y.2]else n_
def aaL(l)b S:IL l b S=cc (l S) λx=>cc (b x.2) λy=>if y.1=aK (-1)then aK %[el<|x.1.reverse.map b8|y.2]else n_:=rfl
def PH(hl:SQ K te l)(B:SO K t b):SK K (tRv K te t)<|IL l b:=by
 intro H₀ r X S σ H Y av S' R e Q q;have(x,C,e):=oBq.mp e;have(y,E,e):=oBq.mp e;by_cases c:y.1=aK (-1);case neg=>rw[qE c]at e;cases e
 rw[qz c]at e;cases e;show hl R C _ λG H1 Fs1 I s u J h1 L=>B J E _ λM H2 Fs2 n R2=>(c,I,s,rfl,n.sh.seq h1,λp z=>?_);have(O,P,U,n2,n3):=R2.new z;show q _ _ _ (cx p) [p] (hU (hU u n) O) P (x4 pW U (L.mono n.sf).reverse)<|(q5 R2 z).back<|hU u n
end Z
namespace Mr
open PySem PySem.Spec PyProof.Rows L2
def YZ l b(xs ys:Ω)n m t(sl:Array Υ)(ok:¬(!xs.isEmpty && l7 (xs.size+ys.size))=t_)(u:xs.size<=kK)(x:(xs++ys).size<=kK+1) :
  Meets (Builtin.«list.extend» ([ao l,ao b],[])) λQ R s=>c7 (b7 s) l=aK { cls:=iD "list", data:=k6 xs n }/\c7 (b7 s) b=aK { cls:=iD "tuple", dict:=t,data:=k6 ys m,slots:=sl }/\R (T3<|pG gX) { s with heap:=fi (b7 s) l (cS (· ++ ys)) }:=aB2 λprog w A R s q=>by have(_,_,_,_,_):=s;have(r,g2,q):=q;have y:=AutoSeq1.sub_list_tuple;have z:=AutoSeq1.sub_tuple_list;have B:=CV;have C:=pe;have E:=AutoSeq1.idx_int;wp_walk using (mh r rfl (hz:=u) (_hz':=x)),x9 r,x9 g2;show(_,rfl,q)
def aaw(K:Ζ):V->List V->Hp->VK->Prop:=λx vs H Q=>∃l b xs n,x = cx l/\vs=[cx b]/\H l=aK (et xs)/\zd K H b n/\aX xs+aX n<=kK/\Q pd (rG H l<|et<|xs++n)
def X9:MtM X "list.extend"<|aaw X.K:=by
 intro oO s σ H x vs v us Q I J L h;have(l,b,xs,zs,rfl,rfl,E,M,hz,q):=h;cases J;have(u,rfl,O):=L.one;cases O;have(z,y,n,r,hl,e):=I.lstM E;have(t,G,((oc,od,ot,os),P,R,S,U),z2):=I.tuple M;cases R;cases U;have Y:=iL G;have C:y.toArray.size+t.toArray.size<=kK:=by rw[aq,aq];lia
 have B:¬ (!y.toArray.isEmpty && l7 (y.toArray.size+t.toArray.size))=t_:=by rw[MM C,jU];show aZ
 show mv dA (_,e,rfl) aB1 (aAw _ _)
  (YZ l b (b9 y) (b9 t) n S _ _ B ∅<|by rw[Array.size_append];rfl') (e,P,?_);show(pd,_,I.lset E e ⋯ (GH r G) ?_,rfl,q);rw[lAq];rfl'
end Mr
namespace Z
open PySem L2 Mr Xe
noncomputable def shT:AV->Option (List D)
 | b8 (eH ds)=>aK ds
 |_=>n_
def af2 ds:shT (b8<|eH ds)=aK ds:=rfl
def VM(i:Nat)(k:MK):MS:=λS=>cc (tD S i) λQ=>cc (k S) λx=>cc (shT x.1) λds=>cc (tD x.2 i) λl=>wa (aX l+aX ds<=qZ)<|aK<|k4<|i8 x.2 i<|aK<|el<|l++ds.map b8
def acZ(S)i k:VM i k S=cc (tD S i) λQ=>cc (k S) λx=>cc (shT x.1) λds=>cc (tD x.2 i) λl=>wa (aX l+aX ds<=qZ)<|aK<|k4<|i8 x.2 i<|aK<|el<|l++ds.map b8:=rfl
def YS(hk:SK K te k):SS K (CM<|Ui K "list" (aaw K) (Ax i)<|uK te wV)<|VM i k:=by
 intro H₀ s Hf S σ H Fs o R e D h;have(a0,P,e):=oBq.mp e;have(x,Q,e):=oBq.mp e;have(U,t,e):=oBq.mp e;have(X,Y,e):=oBq.mp e;obtain⟨u,e⟩|e:=qe e
 .cases e;have(p,vs,Gs,y,_,h1,_):=R.ow<|qL P;show(cx p,y,jB (rfl,vs,kc h1),hk R Q _ λHf1 H1 Fs1 b F t1 z M o1=>?_);have(p',B,Gs',l,C,E,G,n,r,I,J):=z.ow<|qL Y;rw[y]at l;cases l;have L:x.1 = b8 (eH U):=by unfold shT at t;split at t <;> cases t;assumption
  rw[L]at M;have(p2,ws,rfl,g1,g2):=oe (pR M).2;show(p,p2,B,ws,rfl,rfl,E,o8<|z.sub _ _ g1,by rw[←n.1,←g2.1];show u,h _ _ _ _ t1.sf<|z.turn y C ⋯ (Mw pW G<|(n.keepUpd r).append<|Ru g2) ?_ λq O=>?_);.rw[fAq,wg,aNq];show e8 az (r,I)
  .rw[fAq,wg,aNq]at O;show J q O
 .cases e
end Z
namespace Ms
open PySem PyProof.Rows Mr
noncomputable def af3(F:Ϝ)(k:Int):Ϝ:=if k∈F then F else F++[k]
def dd(ns:Ϝ):Ϝ:=ns.foldl af3 []
def SA(h:Heap)(a:Addr)(es:Array<|Int×Value)(ep:Nat)(t:SetTable):Prop:=∃o,c7 h a=aK o/\o.ExactSet/\vr o = .set es ep t
end Ms
namespace Mo
open PySem PyProof.Rows Mr
def TH:entryFor table "zip.__getattribute__" = aK Builtin.«object.__getattribute__»:=entryFor_alias (id':= "object.__getattribute__") (by kernel_rfl) (by trivial) (by trivial)<|by kernel_rfl
def Wq:mQ (iD "zip") "__getattr__" = pure n_:=by rw[mU,mz];kernel_rfl
def PJ:mQ (iD "zip") "keys" = pure n_:=by rw[mU,mz];kernel_rfl
def L8 z(fs:Ω)u:Meets (Builtin.«object.__getattribute__» ([ao z,BI "keys" u],[]))<|λA R s=>c7 (b7 s) z=aK { cls:=iD "zip", dict:=n_,data:=fT fs,slots:=#[] }/\raisesAttr (ao z) "keys" A R s:=aB2 λprog w A R s l=>by
  have(r,g,d,t,os):=s;have(x,l):=l;have y:j7 ((r,g,d,t,os):Shared) (ao z) "zip" := (_,x,rfl);have B:=PJ;have n:aBg (["__module__","__name__","__qualname__","__doc__","__annotations__"]:List Str) "keys" = f_:=by trivial
  unfold Builtin.«object.__getattribute__»;repeat (any_goals (first|assumption|wp_step))
  show wpAny_raiseAttrError l.1 l.2<|attrMsg_fits (by trivial)<|by size_fits
section
variable {E:Ψ}
def ZU{fs:Ω}{Q:Ψ}(t:c7 (b7 s) z=aK { cls:=iD "zip", dict:=n_,data:=fT fs,slots:=#[] })(y:lL A=n_)
  (h:∀r tk e,ki s.heap r e "AttributeError" -> E (ao e) { s with heap:=r,toks:=tk }):kE (kG prog w) A (aeK (ao z) (BI "keys" u) f_) Q E s:=by
 have(B,g,d,tk,os):=s;have x:∀l,j7 ((B,g,d,l,os):Shared) (ao z) "zip" := λZ=>(_,t,rfl);have f1:=mV;have C:=aAf F.slot_zip_getattribute;have G:=F.slot_zip_getattribute.bind<|ao z;have H:=Wq;unfold aeK;repeat (any_goals (first|assumption|show x _|((with_reducible change kE _ _ (call (kj "zip.__getattribute__") _ _) _ _ _);show mv F.slot_zip_getattribute (x _) TH (F.args_zip_getattribute_2 _ _) (L8 z fs _) (t,y,λr l e n=>?_))|wp_step))
 have(I,J,L):=n.there;change kE _ _ (mW _ _ _ _ _ _ _) _ _ _;unfold mW;repeat (any_goals (first|assumption|wp_step))
 show h _ _ _ n.of
def Yz{fs:Ω}{Q:Υ->Shared->Prop}(u:c7 (b7 s) z=aK { cls:=iD "zip", dict:=n_,data:=fT fs,slots:=#[] })(x:lL A=n_)
  (h:∀l tk,(∀b o,c7 (b7 s) b=aK o->c7 l b=aK o)->Q n_ { s with heap:=l,toks:=tk }):kE (kG prog w) A (getAttr? (ao z) "keys") Q E s:=by
 unfold getAttr? getAttrBy?;have(y,g,d,tk,os):=s;have f1:=mV;repeat (any_goals (first|assumption|(with_reducible show ZU (fs:=fs) ?_ ?_ ?_)|wp_step))
 intro l n e q;have(o,k,r,t,_):=q.there;show kC<|oi (T:= "AttributeError") (b:=t_) (_,r,t) f1 ?_;show kF<|h l n q.keeps
end
abbrev IsZ(h:Heap)(z TI TO T:Addr)(b:Bool):Prop:=c7 h z=aK { cls:=iD "zip", dict:=n_,data:=fT #[oj T,eF b,eF f_,ao TI,ao TO],slots:=#[] }
section
variable {E:Ψ}
def Mj(l:c7 (b7 s) a=aK o)(h:Q (aK o) s):kE (kG prog w) A (loadIfAlive a) Q E s:=λΓ p n=>by unfold loadIfAlive;rw[Sem.wp_loadIfAlive,l];show h
def Nv(hz:IsZ s.heap z TI TO T b)(t:c7 (b7 s) T=aK o)
  (h:∀l,IsZ l z TI TO T t_->cP z s.heap l->Q f_ { s with heap:=l }):kE (kG prog w) A (h9<|ao z) Q E s:=by unfold h9;show kC<|nj hz rfl (x:=oj T) rfl ?_;show kC<|Mj (a:=T) t ?_;show kC<|nj hz rfl (x:=eF b) rfl ?_;cases b with
 |true=>show kC<|kF<|kF<|h s.heap hz (rfl,λZ Z=>rfl)
 |false=>show kC ?_;show wpAny_setField_rec hz ⋯ λh1 n r=>kF<|h h1 n r
def aan{xs ys:Ω}{Q:Ψ}(D:mn z TI TO l n l1 l2)(hz:IsZ s.heap z TI TO T b)(U:c7 (b7 s) T=aK o)
  (H:mw s.heap TI (ao l)<|ao n) (h1:hH (b7 s) l l1 k) (h2:hH (b7 s) n l2 k) (I:pj (b7 s) l1 xs) (J:pj (b7 s) l2 ys) (X:xs[k]?=aK x) (Y:ys[k]?=aK y)
  (hQ:∀r,IsZ r z TI TO T t_->hH r l l1 (k+1)->hH r n l2 (k+1)->mw r s⁻¹ x y->r.objs.size=s⁻¹+1->(∀c o,c≠z->c≠l->c≠n->c7 (b7 s) c=aK o->c7 r c=aK o)->Q (ao s⁻¹) { s with heap:=r }) :
  kE (kG prog w) A (Builtin.«zip.__next__» ([ao z],[])) (λfin s'=>∃v,fin = .done (pG v)/\Q v s') E s:=by
 change kE _ _ (field (ao z) 2 >>= _) _ _ _;show kC<|nj hz rfl (x:=eF f_) rfl ?_;change kE _ _ (field (ao z) 3 >>= _) _ _ _;show kC<|nj hz rfl (x:=ao TI) rfl ?_;show kC<|lU H rfl ?_;change kE _ _ (h9 (ao z) >>= _) _ _ _;show kC<|Nv hz U λg1 L u=>?_;simp?[bT,if_false];show kC ?_;rw[ip];simp?[jP,jW];show kC<|kC<|kX ?_;change kE _ _ (nk (ao l) >>= _) _ _ _;show kC<|oB (aA0 h1 (i6 u) D.i1z) (I.extBut (i6 u) D.l1z) X λg2 q2 B=>kF ?_;show kF ?_;show kC<|kC<|kX ?_;change kE _ _ (nk (ao n) >>= _) _ _ _;show kC<|oB (aA0 (aA0 h2 (i6 u) D.i2z) (i6 B)<|h7 D.i12) ((J.extBut (i6 u) D.l2z).extBut (i6 B) D.l2i1) Y λC q3 G=>kF ?_;show kF<|kF ?_;show kC<|oN ?_<|by change 2<=kK;rw[lh];decide
 have t:C.objs.size=s⁻¹:=by rw[G.1,B.1,u.1]
 have M:IsZ C z TI TO T t_:=i6 G _ _ D.i2z.symm<|i6 B _ _ D.i1z.symm L;have O:hH C l l1<|k+1:=aA0 q2 (i6 G) D.i12;have kp:∀c o,c≠z->c≠l->c≠n->c7 (b7 s) c=aK o->c7 C c=aK o:=λc o P R S e=>i6 G _ _ S<|i6 B _ _ R<|i6 u _ _ P e;show kF (_,rfl,?_);change Q (ao C.objs.size) _;rw[t];show hQ _ (aa _ M) (O.at λo e=>aa _ e) (q3.at λo e=>aa _ e) (by rw[←t];show aA _ rfl) (by rw[hW,t]) λc o P R S e=>aa _<|kp c o P R S e
end
section
variable {E:Ψ}{s:Shared}
def aee{xs:Ω}(hh:lL A=n_)(D:mn z TI TO l y l1 l2)(hz:IsZ s.heap z TI TO T b)(B:c7 (b7 s) T=aK o)
  (n:mw s.heap TI (ao l)<|ao y) (h1:hH (b7 s) l l1 k) (r:pj (b7 s) l1 xs) (C:xs[k]?=n_)
  (G:∀t e,(∀c o,c≠z->c≠l->c7 (b7 s) c=aK o->c7 t c=aK o)->(∃o,c7 t e=aK o/\o.cls = iD "StopIteration")->E (ao e) { s with heap:=t }) :
  kE (kG prog w) A (Builtin.«zip.__next__» ([ao z],[])) Q E s:=by change kE _ _ (field (ao z) 2 >>= _) _ _ _;show kC<|nj hz rfl (x:=eF f_) rfl ?_;change kE _ _ (field (ao z) 3 >>= _) _ _ _;show kC<|nj hz rfl (x:=ao TI) rfl ?_;show kC<|lU n rfl ?_;change kE _ _ (h9 (ao z) >>= _) _ _ _;show kC<|Nv hz B λO H u=>?_;simp?[bT,if_false];show kC ?_;rw[ip];simp?[jP,jW];show kC<|kC<|kX ?_;change kE _ _ (nk (ao l) >>= _) _ _ _;show kC<|wpAny_nextOf_list_end hh (aA0 h1 (i6 u) D.i1z) (r.extBut (i6 u) D.l1z) C λg2 e I J=>?_;show G g2 e (λc o L M q=>I _ _ M<|i6 u _ _ L q) J
structure Um (h:Heap)(z TI TO i1 i2 l1 l2 d:Addr)(k:Nat)(xs ys:Ω):Prop where
 f:IsZip h z TI TO .none∨∃T b o,IsZ h z TI TO T b/\h.get? T=aK o/\T≠z/\T≠TO/\T≠i1/\T≠i2/\T≠d
 ti:mw h TI (.ref i1)<|.ref i2
 to:∃a b,mw h TO a b
 h1:h.IsListIter i1 l1 k
 h2:h.IsListIter i2 l2 k
 l1:h.IsList l1 xs
 l2:h.IsList l2 ys
def Um.ty{l1 l2}(S:Um s.heap z TI TO l n l1 l2 d k xs ys):j7 s (ao z) "zip" := by
 obtain h|⟨_,_,_,h,_⟩:=S.f;.show(_,h,rfl)
 .show(_,h,rfl)
def ad8{d:Addr}{Q:Υ->Shared->Prop}(D:mn z TI TO t u l1 l2)(hd:d<s⁻¹)(S:Um s.heap z TI TO t u l1 l2 d k xs ys)(O:xs[k]?=aK x)(P:ys[k]?=aK y)
  (R:∀n T,Um n z TI TO t u l1 l2 d (k+1) xs ys->mw n T x y->(∀c o,c≠z->c≠TO->c≠t->c≠u->c7 (b7 s) c=aK o->c7 n c=aK o)->Q (aK<|ao T) { s with heap:=n }) :
  kE (kG prog w) A (lZ<|ao z) Q E s:=by
 have(a,b,r):=S.to;have U:l1≠z/\l1≠TO/\l1≠t/\l1≠u:=(D.l1z,D.l1TO,D.l1i1,D.l1i2);have zl:z<s⁻¹:=by
  obtain h|⟨_,_,_,h,_⟩:=S.f;.show ae h
  .show ae h
 have C:t<s⁻¹:=by have(_,q,_):=S.h1;show ae q
 have G:u<s⁻¹:=by have(_,q,_):=S.h2;show ae q
 have H:TO<s⁻¹:=ae r;obtain I|⟨T,f1,o,I,X,Y,n2,n3,n4,n5⟩:=S.f;.show nD D I S.ti r S.h1 S.h2 S.l1 S.l2 O P λn J a2 L M B a6 l=>R n _ (ir (_,_,_,J,B,aY zl,aY H,aY C,aY G,aY hd),l _ _ D.TIz D.TITO D.TIi1 D.TIi2 S.ti,(_,_,a2),L,M,S.l1.at λo q=>l _ _ D.l1z D.l1TO D.l1i1 D.l1i2 q,S.l2.at λo q=>l _ _ D.l2z D.l2TO D.l2i1 D.l2i2 q) B l
 .have hT:=S.ty;unfold lZ;show kC<|nr<|ni (name:=lG "__next__") hT m9<|mP m9 hT Ae (aan D I X S.ti S.h1 S.h2 S.l1 S.l2 O P λn J L M B a6 l=>kF<|R n _ ?_ B λc o c1 Z c3 c4 q=>l c o c1 c3 c4 q)<|x5 _;show(ir (T,t_,o,J,l _ _ Y n3 n4 X,Y,n2,n3,n4,n5),l _ _ D.TIz D.TIi1 D.TIi2 S.ti,(a,b,l _ _ D.TOz D.TOi1 D.TOi2 r),L,M,S.l1.at λo q=>l _ _ D.l1z D.l1i1 D.l1i2 q,S.l2.at λo q=>l _ _ D.l2z D.l2i1 D.l2i2 q)
def aaz{Q:Υ->Shared->Prop}(hh:lL A=n_)(D:mn z TI TO l n l1 l2)(S:Um s.heap z TI TO l n l1 l2 d k xs ys)(x:xs[k]?=n_)
  (y:∀r,(∀c o,c≠z->c≠TO->c≠l->c≠n->c7 (b7 s) c=aK o->c7 r c=aK o)->Q n_ { s with heap:=r }) :
  kE (kG prog w) A (lZ<|ao z) Q E s:=by
 have(a,b,t):=S.to;obtain u|⟨T,f1,o,u,C,_⟩:=S.f;.show acz hh D u S.ti t S.h1 S.h2 S.l1 S.l2 (jB x) y
 .have B:=S.ty;unfold lZ;show kC<|nr<|ni (name:=lG "__next__") B m9<|mP m9 B Ae (aee hh D u C S.ti S.h1 S.l1 x λr e hk G=>?_)<|x5 _;have(H,I,J):=G;show kC<|oi (T:= "StopIteration") (b:=t_) (H,I,J) isSubtype_stop ?_;show kF<|y _ λc o L Z M Z q=>hk c o L M q
def Cw:entryFor table "dict.update.loop" = aK Builtin.«dict.update.loop»:=entryFor_of_tree<|by kernel_rfl
def wx:plainId "dict.update.loop" = t_:=by trivial
end
section
variable {K:Type}[DecidableEq K]
noncomputable def fz(ks:List K)(ws:Ξ)(j:Nat):List<|K×Value:=((ph ks ws).take j).foldl (λm p=>nK m p.1 p.2) []
def QK{ks:List K}(h1:ks[j]?=aK k)(h2:ws[j]?=aK v):fz ks ws (j+1)=nK (fz ks ws j) k v:=by unfold fz;have:(ph ks ws)[j]?=aK %[k|v]:=e8 bY (h1,h2);simp?[fg,this,iq,fj];rfl
def Pt(m:List<|K×Value)k v:aX (nK m k v)<=aX m+1:=by
 unfold nK;split;.rw[lMq];rfl'
 .rw[lAq];show ab _
theorem fold_len:∀(l:List<|K×Value) m,aX (l.foldl (λm p=>nK m p.1 p.2) m)<=aX m+aX l
 | [],m=>ab _
 |p::l,m=>by have:=fold_len l<|nK m p.1 p.2;have:=Pt m p.1 p.2;simp?[bK,lCq];lia
def Vz(ks:List K)ws j:aX (fz ks ws j)<=j:=by
 have:=fold_len ((ph ks ws).take j) [];have h2:aX ((ph ks ws).take j)<=j:=by rw[lTq];lia
 unfold fz;simp?[bj]at this;lia
end
section
variable {prog:kJ}{w:kM}{A:Around}{E:Ψ}{s:Shared}{K:Type}[DecidableEq K]{knd:KeyKind prog w K}{l1 l2:Addr}{us:Ξ}
def Um.keep(S:Um h z TI TO i1 i2 l1 l2 d k xs ys)(nd:∀c∈[z,TI,TO,i1,i2,l1,l2],c≠d)(kp:iU d h r):Um r z TI TO i1 i2 l1 l2 d k xs ys:=by
 have q:=λc u o=>kp c o<|nd c u;have(a,b,l):=S.to;show(?_,q TI ⋯ _ S.ti,(a,b,q TO ⋯ _ l),S.h1.at λo e=>q i1 ⋯ o e,S.h2.at λo e=>q i2 ⋯ o e,S.l1.at λo e=>q l1 ⋯ o e,S.l2.at λo e=>q l2 ⋯ o e);obtain n|⟨T,f1,o,n,x,y,B,C,G,t⟩:=S.f;.show jB<|q z ⋯ _ n
 .show ir (T,f1,o,q z ⋯ _ n,kp _ _ t x,y,B,C,G,t)
def Yk(hh:lL A=n_)(D:mn z TI TO i1 i2 l1 l2)(nd:∀c∈[z,TI,TO,i1,i2,l1,l2],c≠d)(hk:∀(j:Nat) u,us[j]?=aK u->∃k,ks[j]?=aK k/\knd.is k u=t_)(U:aX us=aX ws)(hsz:aX us<=kK) :
  ∀m j i s,aX us-j=m->j<=aX us->Um s.heap z TI TO i1 i2 l1 l2 d j (b9 us) (b9 ws)->s.heap.DictOf knd d (fz ks ws j) ->
   (∀l tk,l.DictOf knd d (fz ks ws<|aX us)->(∀b o,b≠z->b≠TO->b≠i1->b≠i2->b≠d->c7 (b7 s) b=aK o->c7 l b=aK o)->R (T3<|pG gX) { s with heap:=l,toks:=tk }) ->
   mq (kG prog w) A (x8 "dict.update.loop" ([ao d,ao z,iT i 0,gX],[])) R s:=by have vl:us.toArray.size=aX us:=aq ..;intro m;induction m with
 |zero=>
  intro j i s hm hj S dd B;have C:j=aX us:=by lia
  show kY Cw ?_;rw[eo wx _];change kE _ A.in1 (lZ (ao z) >>= _) _ _ s;show kC<|aaz hh D S (by simp;ac_nf) λl kp=>?_;change kE _ A.in1 (t8 d [] >>= _) _ _ _;show kC<|kF<|kF<|B l s.toks ?_ λb o b1 b2 b3 b4 Z e=>kp b o b1 b2 b3 b4 e;cases C;have(o,G,H,n,r):=dd;show(o,G,H,kp d o (nd z ⋯).symm (nd TO ⋯).symm (nd i1 ⋯).symm (nd i2 ⋯).symm n,r)
 |succ m ih=>
  intro j i s hm hj S dd B;obtain⟨u,X⟩:∃u,us[j]?=aK u:=(_,gEg ∅);obtain⟨v,Y⟩:∃v,ws[j]?=aK v:=(_,gEg ∅);have(k,I,J):=hk j u X;show kY Cw ?_;rw[eo wx _];change kE _ A.in1 (lZ (ao z) >>= _) _ _ s;have L:d<s⁻¹:=by have(_,_,_,n,_):=dd;show ae n
  show kC<|ad8 D L S (x:=u) (y:=v) (by simpa using X) (by simpa using Y) λl T S' hT kp=>?_;have M:l.DictOf knd d<|fz ks ws j:=by have(o,G,H,n,r):=dd;show(o,G,H,kp d o (nd z ⋯).symm (nd TO ⋯).symm (nd i1 ⋯).symm (nd i2 ⋯).symm n,r)
  show kC<|kX ?_;have tT:j7 { s with heap:=l } (ao T) "tuple" := (_,hT,rfl);show kC<|lM ?_;unfold w6;show kC<|mi tT ?_;rw[qz<|by rfl];show kC<|lU hT rfl ?_;show kF ?_;show kX ?_;show adO (hsz:=by have:=Vz ks ws j;lia) J M λh2 t sb=>?_;rw[←QK I Y]at t;show kF (lD wx _,ih (j+1) (i+1) _ ∅ ∅ (S'.keep nd<|i6 sb) t λh3 O P Q=>?_);show B h3 O P λb o b1 b2 b3 b4 b5 e=>Q b o b1 b2 b3 b4 b5<|i6 sb b o b5<|kp b o b1 b2 b3 b4 e
end
section
variable {prog:kJ}{w:kM}{A:Around}{E:Ψ}{s:Shared}{K:Type}[DecidableEq K]{knd:KeyKind prog w K}{us:Ξ}
def Y1{Q:Ψ}(hh:lL A=n_)(D:mn z TI TO i1 i2 l1 l2)(hz:IsZip s.heap z TI TO gX)(x:mw s.heap TI (ao i1)<|ao i2)(n:∃a b,mw s.heap TO a b)(h1:hH (b7 s) i1 l1 0)(h2:hH (b7 s) i2 l2 0)(y:pj (b7 s) l1<|b9 us)(B:pj (b7 s) l2<|b9 ws)
  (hk:∀(j:Nat) u,us[j]?=aK u->∃k,ks[j]?=aK k/\knd.is k u=t_) (C:aX us=aX ws) (hsz:aX us<=kK)
  (h:∀H tk,H.DictOf knd s⁻¹ (fz ks ws<|aX us)->(∀b o,b≠z->b≠TO->b≠i1->b≠i2->c7 (b7 s) b=aK o->c7 H b=aK o)->Q (ao s⁻¹) { s with heap:=H,toks:=tk }) :
  kE (kG prog w) A (call (iD "dict") [ao z]) Q E s:=by
 show aar (Q₁:=λobj t=>obj = ao s⁻¹/\t={ s with heap:=ig (b7 s) { cls:=iD "dict", data:=x6 #[] } }) aBl (aAy _) aB9 (kt_code_dict_new _ (rfl,rfl)) ?_;rintro obj t ⟨rfl,rfl⟩;have l:(ig (b7 s) { cls:=iD "dict", data:=x6 #[] }).DictOf knd s⁻¹ []:=jD.new<|b7 s;show(l.typeIs,aB5 _ _,?_);have up:∀b o,c7 (b7 s) b=aK o->c7 (ig (b7 s) { cls:=iD "dict", data:=x6 #[] }) b=aK o:=λb o e=>aa _ e;have R:j7 { s with heap:=ig (b7 s) { cls:=iD "dict", data:=x6 #[] } } (ao z) "zip" := (_,up _ _ hz,rfl);unfold Builtin.«dict.__init__»;show kC ?_;unfold t9;show kC<|oH l.typeIs ?_;change kE _ _ (pure %[s⁻¹|[ao z]]) _ _ _;show kF ?_;change kE _ _ (m3 "dict.__init__" s⁻¹ (ao z) [] gX) _ _ _;unfold m3;show kC<|mi R ?_;rw[qz<|by rfl];show kC<|Yz (up _ _ hz) (by simp[hh]) λO S G=>?_;rw[qz<|by rfl];show kC<|nX ?_;have kp:∀b o,c7 (b7 s) b=aK o->c7 O b=aK o:=λb o e=>G b o<|up b o e;show kC<|nu (kp _ _ hz) ?_;have(ta,tb,n):=n;have lt:∀c∈[z,TI,TO,i1,i2,l1,l2],c≠s⁻¹:=λc P=>by
  show ar ?_;simp?[ag,bZ,or_false]at P;obtain rfl|rfl|rfl|rfl|rfl|rfl|rfl:=P;.show ae hz
  .show ae x
  .show ae n
  .have(_,q,_):=h1;show ae q
  .have(_,q,_):=h2;show ae q
  .have(_,q,_):=y;show ae q
  .have(_,q,_):=B;show ae q
 have I:O.DictOf knd s⁻¹<|fz ks ws 0:=by have(o,U,X,Y,r):=l;show(o,U,X,G _ _ Y,r)
 show kF (lD wx _,Yk (by simp[hh]) D lt hk C hsz (aX us) 0 0 _ (gU _) (aH _) (jB<|kp _ _ hz,kp _ _ x,(_,_,kp _ _ n),h1.at λo e=>kp _ o e,h2.at λo e=>kp _ o e,y.at λo e=>kp _ o e,B.at λo e=>kp _ o e) I λh4 J L M=>(rfl,h h4 J L λb o b1 b2 b3 b4 e=>M b o b1 b2 b3 b4 (ar<|ae e)<|kp b o e))
end
end Mo
namespace Mr
open PySem PySem.W PySem.Spec PyProof.Rows L2 Mo
def fv(ns ms:Ϝ):List<|pZ×V:=(ph ns ms).foldl (λm p=>zh m (ak p.1)<|c8 p.2) []
theorem Kg:∀(ns ms:Ϝ) ws m l,qr (ms.map c8) ws->KV m l->KV ((ph ns ms).foldl (λm p=>zh m (ak p.1)<|c8 p.2) m) ((ph (ns.map ak) ws).foldl (λ(m:List (pZ×Value)) p=>nK m p.1 p.2) l)
 | [],ms,ws,m,l,_,h=>by show h
 |n::ns,[],ws,m,l,s,h=>by cases s;show h
 |n::ns,k::ms,ws,m,l,s,h=>by cases s with
  |cons r t=>simp?[ax,dw,dw,bK,bK];show Kg ns ms _ _ _ t<|h.put _ r
def WA ns ms:aX (fv ns ms)<=aX ns:=by
 have key:∀(l:List<|Int×Int) (m:List<|pZ×V),aX (l.foldl (λm p=>zh m (ak p.1)<|c8 p.2) m)<=aX m+aX l:=by intro l;induction l with
  |nil=>show λm=>ab _
  |cons p l n=>intro m;have:=n<|zh m (ak p.1)<|c8 p.2;have:=zp m (ak p.1)<|c8 p.2;simp?[bK,lCq];lia
 have:=key (ph ns ms) [];simp?[bj,eZ]at this;unfold fv;lia
def rDZ(K:Ζ)(xs:List V)(H:Hp)(Q:VK):Prop:=∃a b ns ms,xs=[cx a,cx b]/\sN K H a (ns.map c8)/\sN K H b (ms.map c8)/\aX ns=aX ms/\∀l,H l=n_->Q (cx l) (rG H l<|nB<|fv ns ms)
def adK(hc:X.calm=t_)(gl:Gl X "dict")(ml:X.mg "dict" = n_)(hg:Gl X "zip")(hm:X.mg "zip" = n_)(ha:PA X [e,f] ta)
  (he:↑(kO [m8 (g9 "zip" p) [e,f] [] pos] X.env=%[f_|eval (m8 (g9 "zip" p) [e,f] [] pos)<|iI X]::kO [] X.env)) (hs:↑(kO [e,f] X.env=[%[f_|eval e<|iI X],%[f_|eval f<|iI X]])) (C:↑(kO [f] X.env=[%[f_|eval f<|iI X]])) :
  PE X (m8 (g9 "dict" p0) [m8 (g9 "zip" p) [e,f] [] pos] [] r)<|Ng (rDZ X.K) ta:=by
 intro oO s σ H Q I h;show lY<|wX I gl ml boot_dict ?_ ⋯<|by rfl
 show bC ?_ he<|by rfl
 rw[he];change kE _ _ (spliced<|%[f_|eval (m8 (g9 "zip" p) [e,f] [] pos)<|iI X]::mE r (kO []<|iI X)) _ _ s;show sq ?_;show Call_<|wX I hg hm boot_zip<|bC (ua (ha pos oO s σ H _ I h) λus l L=>?_) (by rw[hs,C])<|by rw[C];rfl
 have(vs,H1,B,r1,q1):=L;have(a,b,n,J,e1,M,O,hl,q):=q1;subst e1;have(u,v,rfl,P,rv):=Jk r1;cases P;cases rv;have(E,v1,R,z1):=oG B M;have(y,v2,S,z2):=oG B O;have n1:=iL v1;have n2:=iL v2;rw[lMq]at n1 n2 z1;have al:a<l⁻¹:=let ⟨_,U,_⟩:=eQ R;ae U;have bl:b<l⁻¹:=let ⟨_,U,_⟩:=eQ S;ae U;show call_zip_2 (eQ R) (eQ S) λg hz Y hTO h1 h2 hsz hk=>t5 ?_;have zD:=aaq l⁻¹;have D:mn (l⁻¹+4) (l⁻¹+2) (l⁻¹+3) l⁻¹ (l⁻¹+1) a b:=zipApart_new al bl;show Y1 (s:={ l with heap:=g }) (knd:=rK X.prog X.w) (ks:=n.map ak) (B.ok.hd hc) D hz Y (_,_,hTO) h1 h2 (R.isList.at λo e=>hk _ o e) (S.isList.at λo e=>hk _ o e) (λj u hu=>?_) ∅ ∅ λh' tk dd kp=>?_
 .have hj:j<aX n:=by have:=(gSq.mp hu).1;lia
  have(u',G,P):=v1.get (i:=j) (x:=c8 n[j])<|by rw[gMq,gEg hj];rfl
  rw[hu]at G;cases G;have(t,rfl):=P;show(ak n[j],by rw[gMq,gEg hj];rfl,E8 _ t)
 .have z:({ l with heap:=g }:Shared).heap.objs.size=l⁻¹+5:=hsz;rw[z]at dd;have kv:KV (fv n J)<|fz (n.map ak) y<|aX E:=by have:=Kg n J y [] [] v2 j8;unfold fz;rw[bV<|by rw[eZ,lMq];lia];show this
  show(cx<|l⁻¹+5,rG H1 (l⁻¹+5)<|nB<|fv n J,B.laid (t':=tk) (λb o e=>?_) (dh _ _)<|Kk (by have:=WA n J;lia) (e8 beq_eq_false_iff_ne<|aY<|cV 5 B.big) kv dd,by rw[z];rfl,q _<|l6 (t7 B)<|dh _ _);have lt:b<l⁻¹:=ae e;show kp b o (ar<|cV 4 lt) (ar<|cV 3 lt) (ar lt) (ar<|cV 1 lt)<|hk b o e
end Mr
namespace Z
open PySem L2 Mr
def dz(ns ms:Ϝ):List<|pZ×D:=(ph ns ms).foldl (λm p=>xj m (ak p.1)<|bo p.2) []
def Ya:List D->Option (List<|pZ×D)
 | [d9 as,d9 bs]=>cc (su as) λns=>cc (su bs) λms=>if aX ns=aX ms then aK (dz ns ms)else n_
 |_=>n_
def kDZ(m:ML):MK:=λS=>cc (m S) λx=>(Ya x.1).map λkvs=>%[eu kvs|x.2]
def afY(m)S:kDZ m S=cc (m S) λx=>(Ya x.1).map λkvs=>%[eu kvs|x.2]:=rfl
def Sx(h:aX ns=aX ms):Ya [d9<|ns.map bo,d9<|ms.map bo]=aK (dz ns ms):=by change(cc (su<|ns.map bo) λns=>cc (su<|ms.map bo) λms=>if aX ns=aX ms then aK (dz ns ms)else n_)=_;rw[rP,rP];simp[h]
def UJ{n}ns ms:vM K n (dz ns ms)<|fv ns ms:=by
 have key:∀(l:List<|Int×Int) (d:List<|pZ×D) (k:List<|pZ×V),vM K n d k->vM K n (l.foldl (λm p=>xj m (ak p.1)<|bo p.2) d) (l.foldl (λm p=>zh m (ak p.1)<|c8 p.2) k):=by intro l;induction l with
  |nil=>show λd k h=>h
  |cons p l r=>show λd k h=>r _ _<|Oa h .int
 show key _ _ _ (rfl,λi d v h=>by simp at h)
set_option tactic.hygienic true in
def adZ(G:WJ K ta m):SK K (Ng (rDZ K) ta)<|kDZ m:=by
 intro H₀ t Hf S σ H Fs av S' R e Q q;have(x,I,e):=oBq.mp e;have(u,s,e):=oMq.mp e;cases e;show G R (ds:=x.1) (S':=x.2) I _ λJ H1 Fs1 vs B C E=>?_;have sh:∃n r,x.1=[d9<|n.map bo,d9<|r.map bo]/\aX n=aX r/\u=dz n r:=by
  unfold Ya at s;split at s
  .rename_i as bs y;have(n,f1,f2):=oBq.mp s;have(r,L,z):=oBq.mp f2;split at z;.rename_i hl;cases z;show(n,r,by rw[y,uZ f1,uZ L],hl,rfl)
   .cases z
  .cases s
 have(n,r,y,hl,rfl):=sh;rw[y]at E;have(va,w1,rfl,M,O):=eC E;have(vb,w2,rfl,P,U):=eC O;have:=h8 U;subst this;have(a,X,rfl,Y,g2):=l5 M;have(b,us2,rfl,g3,g4):=l5 P;have u1:=qP g2;have u2:=qP g4;subst u1;subst u2;show(a,b,n,r,rfl,kc Y,kc g3,hl,λl hn=>?_);have(t4,R4,n1,n2,n3):=C.new (o:=nB<|fv n r) hn;show q _ _ _ (cx l) [l] (hU B t4) R4 (.owd pW n1<|UJ n r)<|(q5 C hn).back B
end Z
namespace Mr
open PySem L2
open PySem.Spec PyProof.Rows
noncomputable def Vg:V->Int
 | c8 i=>i
 |_=>0
def yX(H:Hp)(p:Addr)(c:Λ):Prop:=∃l:Δ,H p=aK (j6<|l.map cx)/\aX l=aX c/\∀(i:Nat) q (r:Ϝ),l[i]?=aK q->c[i]?=aK r->H q=aK (j6<|r.map c8)
def ro(H:Hp)(p:Addr):Λ:=match H p with
 |aK (j6 vs)=>vs.map λv=>match v with
  | cx q=>match H q with
   |aK (j6 ws)=>ws.map Vg
   |_=>[]
  |_=>[]
 |_=>[]
def yX.eq(h:yX H p c):ro H p=c:=by
 have(l,h1,h2,s):=h;unfold ro;rw[h1];change(l.map cx).map _=c;rw[mPq];show cC λi=>?_;rw[gMq];by_cases n:i<aX l
 .have r:i<aX c:=by lia
  have e:=s i l[i] c[i] (gEg n)<|gEg r;rw[gEg n,gEg r];change aK (match H l[i]with|aK (j6 t)=>t.map Vg|_=>[])=aK c[i];rw[e];change aK ((c[i].map c8).map Vg)=_;rw[mPq];show congrArg aK<|gW c[i]
 .rw[aR<|by rfl',aR ∅];rfl
def yX.same(h:yX H p c)(s:qk H l):yX l p c:=by have(n,h1,h2,t):=h;show(n,s _ _ h1,h2,λi q r u x=>s _ _<|t i q r u x)
def MD(H:Hp)(ps:Δ)(cs:List Λ):Prop:=cs=ps.map (ro H)/\∀p∈ps,yX H p (ro H p)
theorem L6(t:ic A+4<lg):∀(n l:Δ) (c d:Λ) i,aX n=aX c->aX l=aX d ->
  (∀(i:Nat) q (r:Ϝ),n[i]?=aK q->c[i]?=aK r->OE s.heap q r)->(∀(i:Nat) q (r:Ϝ),l[i]?=aK q->d[i]?=aK r->OE s.heap q r)->fin=decide (aX c<aX d)->Q (eP c d) s->W.KatLex prog w A f_ fin Q (ph (n.map ao)<|l.map ao) i s
 | [],l,[],d,i,_,l2,_,_,hf,k=>by show aA9 ?_;cases d with
  |nil=>rw[hf];show k
  |cons y d=>rw[hf];show k
 |q::n,[],r::c,[],i,_,_,_,_,hf,k=>by show aA9 ?_;rw[hf];show k
 |q::n,q'::l,r::c,r'::d,i,l1,l2,h1,h2,hf,k=>by
  have u:=h1 0 q r rfl rfl;have x:=h2 0 q' r' rfl rfl;show W.kat_cons<|u.eq x t prog w _ _ ?_;rw[eP]at k;show W.kat_go (λe=>?_) λe=>?_;.have e:=of_decide_eq_true e;rw[qz e]at k;show W.kat_yes<|L6 t n l c d (i+1) (by simpa using l1) (by simpa using l2) (λj q r a b=>h1 (j+1) q r a b) (λj q r a b=>h2 (j+1) q r a b) (by rw[hf];simp) k
  .have e:=of_decide_eq_false e;rw[qE e]at k;show W.kat_no ?_;change kE _ _ (oneLt' f_ _ _) _ _ _;show W.kat_one _ _<|u.lt x t prog w _ _ k
def adN{ps:Δ}(R:ic A+40<lg)
  (h:∀p∈ps,zT s.heap p (r p)):MrS.Eu prog w A s (nZ f_) (λx=>∃p,x.1 = ao p/\p∈ps)<|ltM r where
 ask:=by rintro⟨_,x⟩ ⟨_,y⟩ ⟨p,l,H⟩ ⟨q,t,I⟩ E Q k;dsimp only at l t;subst l t;have(J,(o,L,S,n,hd),l1,M):=h p H;have(u,(U,B,O,X,C),l2,P):=h q I;show W.kat_lt L hd B C ?_;show L6 ∅ J u (r p) (r q) 0 l1 l2 M P (by simp[l1,l2]) k
 asym:=by rintro⟨_,x⟩ ⟨_,y⟩ ⟨a,l,_⟩ ⟨b,t,_⟩ h;dsimp only at l t;subst l t;show HT.xh _ _ h
 trans:=by rintro⟨_,x⟩ ⟨_,y⟩ ⟨_,z⟩ ⟨a,l,_⟩ ⟨b,t,_⟩ ⟨c,G,_⟩ h1 h2;dsimp only at l t G;subst l t G;show aAk _ _ _ h1 h2
def aaG{E:Ψ}{ps:Δ}{r:Addr->Λ}(h2:2<=aX ps)(h:∀p∈ps,zT s.heap p (r p))(l:∀p∈ps,r p≠[])(q:Q (nZ f_) s):kE M A (ny<|b9<|ps.map ao) Q E s:=by
 have key:∀ps:Δ,(∀p∈ps,zT s.heap p (r p))->(∀p∈ps,r p≠[])->∃fs:Δ,aX fs=aX ps/\W.KatTups s.heap (ps.map ao) (fs.map ao)/\∀f∈fs,∃z,OE s.heap f z:=λps=>by induction ps with
  |nil=>intro _ _;show([],rfl,aAl,λf hf=>by cases hf)
  |cons p ps I=>intro h l;have(fs,C,t,u):=I (λp x=>h p<|mCo _ x)<|λp x=>l p<|mCo _ x;have(G,(o,y,B,n,hd),l1,H):=h p<|ai ..;have J:=l p<|ai ..;cases hr:r p with
   |nil=>show absurd hr J
   |cons z c=>rw[hr]at l1 H;cases G with
    |nil=>cases l1
    |cons f G=>
     show(f::fs,by rw[lCq,lCq,C],aAd y B hd rfl t,λg L=>?_);obtain w|w:=ag.mp L;.rw[w];show(z,H 0 f z rfl rfl)
     .show u g w
 have(fs,C,t,u):=key ps h l;show W.kat_kind (T:=iD "tuple") t (by rw[lMq];lia) (λv O=>?_) (by rfl) q;have(f,hf,rfl):=mMq.mp O;have(z,S,(o,y,B,_),_):=u f hf;intro A Q E U P R;show mi (T:= "tuple") (o,P _ _ y,B) R
end Mr
namespace Mr
open PySem L2 PySem.Calls
open PySem.Spec PyProof.Rows
section
variable {X:Cx}
def QZ{σ:St}(I:Inv X l σ H s)(h:yX H p c):zT s.heap p c:=by have(n,h1,h2,t):=h;show Ck I (n,o8 h1,h2,λi q r u x=>o8<|t i q r u x)
def K3(hu:ic X.A+64<lg):uM X (kj "sorted") (λxs H Q=>∃a ps cs,xs=[cx a]/\aX ps<64/\sN X.K H a (ps.map cx)/\MD H ps cs/\(∀c∈cs,c≠[]) /\
  ∀p (y:Δ),H p=n_->dg y ps->y.map (ro H)=Bm cs->Q (cx p) (rG H p<|et<|y.map cx)):=by
 intro oO s σ H xs us Q I r h;have(a,ps,O,rfl,hf,hS,(J,P),E,q):=h;have(u,rfl,R):=vL r;cases R;have(S,U,hl,Y):=oG I hS;have ei:=uC U;subst ei;have n:∀(z:Shared),(∀b o,c7 (b7 s) b=aK o->c7 (b7 z) b=aK o)->∀p∈ps,zT z.heap p (ro H p):=λz k p t=>(QZ I<|P p t).keep k;have B:∀p∈ps,ro H p≠[]:=λp t=>E _<|by rw[J];show e8 mMq (p,t,rfl)
 show MrS.EG (κ:=nZ f_) (Pk:=λx=>∃p,x.1 = ao p/\p∈ps) (lt:=ltM<|ro H) (eQ hl) (by simpa using hf) (λz k=>(λh2 Q q=>?_,adN (by change ic X.A+1+1+40<lg;lia)<|n z k)) (λv m=>?_) λout h' n' L M o3 o4=>?_;.show aaG (by simpa using h2) (n z k) B q
 .have(p,t,rfl):=mMq.mp m;show(p,rfl,t)
 .have ho:∀v∈out,∃p∈ps,v = ao p:=λv m=>by have(p,t,rfl):=mMq.mp<|L.mem_iff.mp m;show(p,t,rfl)
  have G:out=(out.map rD).map ao:=by
   rw[mPq];have e:=mCq (l:=out) (f:=id) (g:=ao∘rD) λv hv=>by have(p,_,rfl):=ho v hv;rfl
   rw[←e,cZ]
  have C:dg (out.map rD) ps:=by have:=L.map rD;rw[mPq,show rD∘ao=id from rfl,cZ]at this;show this
  have t:H (s⁻¹+1)=n_:=l6 (t7 I)<|bI _;generalize out.map rD=y at G C;have es:y.map (ro H)=Bm O:=by show CF (by rw[J];show C.map _) ?_;rw[aG];rw[G,aG]at M;show M
  show(cx<|s⁻¹+1,_,I.laid (t':=nc s) o3 (bI _)<|show tE X.prog X.w _ h' _ (et<|y.map cx)from (?_,out,n',?_,o4),rfl,q _ y t C es);.rw[lMq,ef C];simpa using Y
  .rw[G];show xa y
def aaB:V->List V->Hp->VK->Prop:=λx vs H Q=>∃a b ps cs c,x = cx a/\vs=[cx b]/\H a=aK (et<|ps.map cx)/\MD H ps cs/\yX H b c/\Q (c8 (cs.count c:Nat)) H
def Uu{α:Type}[BEq α][LawfulBEq α][DecidableEq α]{ps:Δ}{g:Addr->α}{c}:(ps.map ao).countP (λy=>decide<|g (rD y)=c)=(ps.map g).count c:=by simp?[fV,List.count,fV];show jx λx Q=>?_;change decide (g x=c)=t_↔(g x == c)=t_;rw[decide_eq_true_iff,beq_iff_eq]
def Eo(U:ic X.A+65<lg):MtR X "list.count" aaB:=by
 intro Y s σ H x xs v us Q I E r h;have(a,b,ps,cs,c,rfl,rfl,h1,(G,J),h2,q):=h;cases E;have(u,rfl,L):=vL r;cases L;have(M,O,(o,n,t,z,l,hd),hz):=oG I<|kc h1;have P:=uC O;subst P;have(cls,dd,B,R):=o;simp only at z l hd;subst z l hd;show mv cH (_,t,rfl) iB (iA _ _)
  (aAc a (b9<|ps.map ao) n n_ R (ao b)<|λy=>decide<|ro H (rD y)=c) (t,λy C=>?_,?_);.rw[List.mem_toArray]at C;have(p,S,rfl):=mMq.mp C;show afZ (QZ I<|J p S) (QZ I h2)<|by first|(change ic X.A+1+8<lg;lia)|(change X.A.units+1+1+8<lg;lia)
 .show(c8 _,H,I.tok _,(_,rfl),?_);rw[eJ,Uu,←G];show q
end
end Mr
namespace Z
open PySem L2 Mr Xe
def Ph(l:ML):MK:=λS=>cc (l S) λx=>cc (AG x.1) λcs=>wa ((∀c∈cs,c≠[])/\aX cs<64)<|aK %[el<|(Bm cs).map λc=>b8<|dC c|x.2]
def Yb(l)S:Ph l S=cc (l S) λx=>cc (AG x.1) λcs=>wa ((∀c∈cs,c≠[])/\aX cs<64)<|aK %[el<|(Bm cs).map λc=>b8<|dC c|x.2]:=rfl
def yV:D->List D->Option D
 | d9 ds,[d]=>cc (AG ds) λcs=>(xU d).map λc=>bo (cs.count c:Nat)
 |_,_=>n_
def K4(r:rq K H (dC c) v):∃p,v = cx p/\yX H p c:=by
 have(p,s,rfl,h1,h2):=oe r;have key:∀{c:Λ}{s:List V},qo K H (c.map λr=>eH<|r.map bo) s->∃n:Δ,s=n.map cx/\aX n=aX c/\∀(i:Nat) (q:Addr) (r:Ϝ),n[i]?=aK q->c[i]?=aK r->H q=aK (j6<|r.map c8):=λ{c}=>by induction c with
  |nil=>intro s h;show([],h8 h,rfl,λi q r e=>by cases e)
  |cons r c x=>intro s h;have(v,E,rfl,y,g2):=eC h;have(q,G,rfl,u,z):=oe y;rw[qP z]at u;have(n,rfl,l1,t):=x g2;show(q::n,rfl,by simp[l1],λi B C a b=>?_);cases i with
   |zero=>cases a;cases b;show u
   |succ i=>show t i B C (by show a)<|by show b
 have(n,rfl,l1,t):=key h2;show(p,rfl,n,h1,l1,t)
theorem HR:∀{cs}{vs},qo K H (cs.map dC) vs->∃ps,vs=ps.map cx/\MD H ps cs/\∀p∈ps,rq K H (dC<|ro H p) (cx p)
 | [],vs,h=>([],h8 h,(rfl,λp n=>by cases n),λp n=>by cases n)
 |c::cs,vs,h=>by
  have(v,x,rfl,h1,h2):=eC h;have(ps,rfl,(s,t),u):=HR h2;have(p,rfl,g):=K4 h1;show(p::ps,rfl,(by rw[ax,g.eq,s],λq r=>?_),λq r=>?_)
  .obtain z|z:=ag.mp r;.rw[z,g.eq];show g
   .show t q z
  .obtain z|z:=ag.mp r;.rw[z,g.eq];show h1
   .show u q z
theorem NO:∀{ps:Δ},(∀p∈ps,rq K H (dC<|ro H p) (cx p))->qo K H ((ps.map<|ro H).map dC) (ps.map cx)
 | [],_=>qo.nil
 |p::ps,h=>qo.cons (h p<|ai ..)<|NO λq n=>h q<|mCo _ n
def VX(hl:SQ K te l):SK K (Ng (λxs H Q=>∃a ps cs,xs=[cx a]/\aX ps<64/\sN K H a (ps.map cx)/\MD H ps cs/\(∀c∈cs,c≠[]) /\
  ∀p (t:Δ),H p=n_->dg t ps->t.map (ro H)=Bm cs->Q (cx p) (rG H p<|et<|t.map cx))<|uK te wV)<|Ph l:=by
 intro H₀ z Hf S σ H Fs av S' R e Q q;have(x,X,e):=oBq.mp e;have(u,Y,e):=oBq.mp e;obtain⟨⟨B,hf⟩,e⟩|e:=qe e
 .cases e;show hl R (ds:=x.1) (S':=x.2) X _ λr J Fs1 p1 vs1 L y h1 M=>?_;rw[CI Y]at M;have(ps,rfl,(O,P),hR):=HR M;have n:∀p∈ps,ro J p=ro r p:=λp s=>((P p s).same y.sub).eq;have C:MD J ps u:=(by rw[O];show mCq λp s=>fQ<|n p s,λp s=>by rw[n p s];show(P p s).same y.sub);show(p1,ps,u,rfl,by rw[O,lMq]at hf;show hf,h1,C,B,λp t s U es=>?_);have(t4,R4,n1,n2,n3):=y.new (o:=et<|t.map cx) s;have E:∀b∈t,rq K r (dC<|ro r b) (cx b):=λb G=>hR b<|U.mem_iff.mp G;have I:t.map (ro r)=Bm u:=by rw[←es];show mCq λb G=>fQ<|n b<|U.mem_iff.mp G
  have e3:(Bm u).map (λm=>b8<|dC m)=((Bm u).map dC).map b8:=by rw[mPq];rfl
  rw[e3]at q;show q _ _ _ (cx p) [p] (hU L t4) R4 (x4 pW n1 ?_)<|(q5 y s).back L;rw[←I];show NO E
 .cases e
set_option tactic.hygienic true in
def DG:BmD K aaB yV:=by
 intro x z H Q B C d n rs e q;unfold yV at e;split at e;.rename_i E G;have(cs,r,e):=oBq.mp e;have(c,s,e):=oMq.mp e;cases e;have(v,I,rfl,h1,h2):=eC rs;rw[h8 h2];rw[Af s]at h1;have(b,rfl,g):=K4 h1;rw[CI r]at n;have(p,J,rfl,t,u):=l5 n;have(ps,rfl,y,_):=HR u;show(p,b,ps,cs,c,rfl,rfl,t,y,g,q _ .int)
 .cases e
def Dq(cs:List Λ)c:yV (d9<|cs.map dC) [dC c]=aK (bo (cs.count c:Nat)):=by change(AG<|cs.map dC).bind _=_;rw[yN];change(xU<|dC c).map _=_;rw[yl];rfl
end Z
namespace Mr
open PySem L2 PySem.Calls
open PySem.Spec PyProof.Rows
def ltT(r:Addr->Ϝ)(x y:kH):Bool:=match x.1,y.1 with
 | ao p,ao q=>IR (r p)<|r q
 |_,_=>f_
def V6:∀{vs:Ξ}{c:Ϝ},lI vs c->∀{us:Ξ}{d:Ϝ},lI us d->∀i:Nat,fin=decide (aX c<aX d)->Q (IR c d) s->W.KatLex prog w A t_ fin Q (ph vs us) i s:=by intro vs c n;induction n with
 |nil=>intro us d l i hf k;show aA9 ?_;cases l with
  |nil=>rw[hf];show k
  |cons b t h=>rw[hf];show k
 |cons a t n r=>intro us d l i hf k;cases l with
  |nil=>show aA9 ?_;rw[hf];show k
  |cons b u l=>
   show W.kat_cons<|wpAny_eqBool_int ?_;simp?[IR]at k;show W.kat_go (λe=>?_) λe=>?_;.have e:=eq_of_beq e;rw[qz e]at k;show W.kat_yes<|r l (i+1) (by rw[hf];simp) k
   .have e:¬ a=b:=λz=>by rw[z]at e;simp at e
    rw[qE e]at k;show W.kat_no ?_;cases i with
    |zero=>change kE _ _ (oneLt' t_ _ _) _ _ _;rw[←keyLt'_oneType];show W.kat_lt_int k
    |succ i=>change kE _ _ (oneLt' f_ _ _) _ _ _;show W.kat_one _ _<|wpAny_lt_int k
def adY{ps:Δ}
  (h:∀p∈ps,OE s.heap p (r p)):MrS.Eu prog w A s (nZ t_) (λx=>∃p,x.1 = ao p/\p∈ps)<|ltT r where
 ask:=by rintro⟨_,x⟩ ⟨_,y⟩ ⟨p,l,I⟩ ⟨q,t,J⟩ E Q k;dsimp only at l t;subst l t;have(vs,(o,L,O,n,hd),C):=h p I;have(us,(P,u,M,R,B),G):=h q J;show W.kat_lt L hd u B ?_;show V6 C G 0 (by simp[G1 C,G1 G]) k
 asym:=by rintro⟨_,x⟩ ⟨_,y⟩ ⟨a,l,_⟩ ⟨b,t,_⟩ h;dsimp only at l t;subst l t;show Mr.B5 _ _ h
 trans:=by rintro⟨_,x⟩ ⟨_,y⟩ ⟨_,z⟩ ⟨a,l,_⟩ ⟨b,t,_⟩ ⟨c,H,_⟩ h1 h2;dsimp only at l t H;subst l t H;show Mr.Am _ _ _ h1 h2
def acI{E:Ψ}{ps:Δ}{r:Addr->Ϝ}(h2:2<=aX ps)(h:∀p∈ps,OE s.heap p (r p))(l:∀p∈ps,r p≠[])(q:Q (nZ t_) s):kE M A (ny<|b9<|ps.map ao) Q E s:=by
 have key:∀ps:Δ,(∀p∈ps,OE s.heap p (r p))->(∀p∈ps,r p≠[])->∃fs:Ξ,aX fs=aX ps/\W.KatTups s.heap (ps.map ao) fs/\∀f∈fs,∃z t,f = iT z t:=λps=>by induction ps with
  |nil=>intro _ _;show([],rfl,aAl,λf hf=>by cases hf)
  |cons p ps H=>intro h l;have(fs,C,u,x):=H (λp y=>h p<|mCo _ y)<|λp y=>l p<|mCo _ y;have(R,(o,I,J,n,hd),B):=h p<|ai ..;have G:=l p<|ai ..;generalize r p=c at B G;cases B with
   |nil=>show absurd rfl G
   |cons z t B=>
    show(iT z t::fs,by rw[lCq,lCq,C],aAd I J hd rfl u,λg L=>?_);obtain w|w:=ag.mp L;.rw[w];show(z,t,rfl)
    .show x g w
 have(fs,C,u,x):=key ps h l;show W.kat_kind (T:=iD "int") u ∅ (λv O=>?_) (by rfl) q;have(z,t,rfl):=x v O;intro A Q E S U P;show mi (T:= "int") rfl P
def vp(H:Hp)(p:Addr):Ϝ:=match H p with
 |aK (j6 vs)=>vs.map Vg
 |_=>[]
def Hh(H:Hp)(ps:Δ)(rs:Λ):Prop:=rs=ps.map (vp H)/\∀p∈ps,H p=aK (j6<|(vp H p).map c8)
def HJ(h:H p=aK (j6<|r.map c8)):vp H p=r:=by unfold vp;rw[h];change(r.map c8).map Vg=r;rw[mPq];show gW r
def agj{σ:St}(I:Inv X n σ H s)(h:H p=aK (j6<|r.map c8)):OE s.heap p r:=by have(l,t,u,_):=I.tuple<|o8 h;show(l,u,yJ t)
def xF.keep'(k:∀b o,c7 h b=aK o->c7 l b=aK o)(t:OE h p c):OE l p c:=by have(n,(o,r,tG),i):=t;show(n,(o,k _ _ r,tG),i)
def DB:uM X (kj "sorted") (λxs H Q=>∃a ps rs,xs=[cx a]/\aX ps<64/\sN X.K H a (ps.map cx)/\Hh H ps rs/\(∀r∈rs,r≠[]) /\
  ∀p (y:Δ),H p=n_->dg y ps->y.map (vp H)=Fe rs->Q (cx p) (rG H p<|et<|y.map cx)):=by
 intro oO s σ H xs us Q I r h;have(a,ps,O,rfl,hf,hS,(J,P),E,q):=h;have(u,rfl,R):=vL r;cases R;have(S,U,hl,Y):=oG I hS;have ei:=uC U;subst ei;have n:∀(z:Shared),(∀b o,c7 (b7 s) b=aK o->c7 (b7 z) b=aK o)->∀p∈ps,OE z.heap p (vp H p):=λz k p t=>xF.keep' k<|agj I<|P p t;have B:∀p∈ps,vp H p≠[]:=λp t=>E _<|by rw[J];show e8 mMq (p,t,rfl)
 show MrS.EG (κ:=nZ t_) (Pk:=λx=>∃p,x.1 = ao p/\p∈ps) (lt:=ltT<|vp H) (eQ hl) (by simpa using hf) (λz k=>(λh2 Q q=>?_,adY<|n z k)) (λv m=>?_) λout h' n' L M o3 o4=>?_;.show acI (by simpa using h2) (n z k) B q
 .have(p,t,rfl):=mMq.mp m;show(p,rfl,t)
 .have ho:∀v∈out,∃p∈ps,v = ao p:=λv m=>by have(p,t,rfl):=mMq.mp<|L.mem_iff.mp m;show(p,t,rfl)
  have G:out=(out.map rD).map ao:=by
   rw[mPq];have e:=mCq (l:=out) (f:=id) (g:=ao∘rD) λv hv=>by have(p,_,rfl):=ho v hv;rfl
   rw[←e,cZ]
  have C:dg (out.map rD) ps:=by have:=L.map rD;rw[mPq,show rD∘ao=id from rfl,cZ]at this;show this
  have t:H (s⁻¹+1)=n_:=l6 (t7 I)<|bI _;generalize out.map rD=y at G C;have es:y.map (vp H)=Fe O:=by show EU (by rw[J];show C.map _) ?_;rw[aG];rw[G,aG]at M;show M
  show(cx<|s⁻¹+1,_,I.laid (t':=nc s) o3 (bI _)<|show tE X.prog X.w _ h' _ (et<|y.map cx)from (?_,out,n',?_,o4),rfl,q _ y t C es);.rw[lMq,ef C];simpa using Y
  .rw[G];show xa y
end Mr
namespace Mo
open PySem PyProof.Rows Mr
def Se:mQ (iD "zip") "__len__" = pure n_:=by rw[mU,mz];kernel_rfl
def OX:mQ (iD "zip") "__length_hint__" = pure n_:=by rw[mU,mz];kernel_rfl
section
variable {E:Ψ}
def VI(l:j7 s (ao z) "zip")(q:Q t_ s):kE (kG prog w) A (sO<|ao z) Q E s:=by
 unfold sO specialOf;show kC<|kC<|mi l ?_;rw[Se];show kF ?_;change kE _ _ (do
  let n ← (do let t ←typeOf (ao z);mQ t (lG "__length_hint__"))
  _) _ _ _;show kC<|kC<|mi l ?_;rw[OX];show kF ?_;show kF q
def acP{d:Addr}{Q:Υ->Shared->Prop}(D:mn z TI TO t u l1 l2)(hd:d<s⁻¹)(S:Um s.heap z TI TO t u l1 l2 d k xs ys)(O:xs[k]?=aK x)(P:ys[k]?=aK y)
  (R:∀n,Um n z TI TO t u l1 l2 d (k+1) xs ys->mw n s⁻¹ x y->(∀c o,c≠z->c≠TO->c≠t->c≠u->c7 (b7 s) c=aK o->c7 n c=aK o)->Q (aK<|ao s⁻¹) { s with heap:=n }) :
  kE (kG prog w) A (lZ<|ao z) Q E s:=by
 have(a,b,r):=S.to;have zl:z<s⁻¹:=by
  obtain h|⟨_,_,_,h,_⟩:=S.f;.show ae h
  .show ae h
 have C:t<s⁻¹:=by have(_,q,_):=S.h1;show ae q
 have G:u<s⁻¹:=by have(_,q,_):=S.h2;show ae q
 have H:TO<s⁻¹:=ae r;obtain I|⟨T,f1,o,I,U,X,n2,Y,n4,n5⟩:=S.f;.show nD D I S.ti r S.h1 S.h2 S.l1 S.l2 O P λn J a2 L M B a6 l=>R n (ir (_,_,_,J,B,aY zl,aY H,aY C,aY G,aY hd),l _ _ D.TIz D.TITO D.TIi1 D.TIi2 S.ti,(_,_,a2),L,M,S.l1.at λo q=>l _ _ D.l1z D.l1TO D.l1i1 D.l1i2 q,S.l2.at λo q=>l _ _ D.l2z D.l2TO D.l2i1 D.l2i2 q) B l
 .have hT:=S.ty;unfold lZ;show kC<|nr<|ni (name:=lG "__next__") hT m9<|mP m9 hT Ae (aan D I U S.ti S.h1 S.h2 S.l1 S.l2 O P λn J L M B a6 l=>kF<|R n ?_ B λc o c1 Z c3 c4 q=>l c o c1 c3 c4 q)<|x5 _;show(ir (T,t_,o,J,l _ _ X Y n4 U,X,n2,Y,n4,n5),l _ _ D.TIz D.TIi1 D.TIi2 S.ti,(a,b,l _ _ D.TOz D.TOi1 D.TOi2 r),L,M,S.l1.at λo q=>l _ _ D.l1z D.l1i1 D.l1i2 q,S.l2.at λo q=>l _ _ D.l2z D.l2i1 D.l2i2 q)
def JM:entryFor table "list.extend.loop" = aK Builtin.«list.extend.loop»:=entryFor_of_tree<|by kernel_rfl
def Cg:plainId "list.extend.loop" = t_:=by trivial
structure Prs (h:Heap)(S z TO i1 i2:Addr)(us ws:Ξ)(Ts:Δ):Prop where
 nd:Ts.Nodup
 lt:∀T∈Ts,T<h.objs.size
 ne:∀T∈Ts,T≠z/\T≠TO/\T≠i1/\T≠i2/\T≠S
 pr:∀(i:Nat) (T:Addr) (u v:Value),Ts[i]?=aK T->us[i]?=aK u->ws[i]?=aK v->mw h T u v
def Prs.keep(P:Prs h S z TO r t us ws l)(l1:aX l<=aX us)(l2:aX l<=aX ws)(k:∀T∈l,∀o,c7 h T=aK o->c7 n T=aK o):Prs n S z TO r t us ws l:=by show(P.nd,λT x=>?_,P.ne,λi T u v y C G=>k T (mGq y) _<|P.pr i T u v y C G);have(i,B):=aj.mp x;have H:=(gSq.mp B).1;show ae<|k T x _<|P.pr i T _ _ B (gEg ∅)<|gEg ∅
def Zt(hh:lL A=n_)(D:mn z TI TO i1 i2 l1 l2)(nd:∀c∈[z,TI,TO,i1,i2,l1,l2],c≠S)(hlen:aX us=aX ws)(hsz:aX us<=kK) :
  ∀m j (s:Shared) n c,aX us-j=m->j<=aX us->aX n=j->Um s.heap z TI TO i1 i2 l1 l2 S j (b9 us) (b9 ws)->c7 (b7 s) S=aK (kL "list" (b9<|n.map ao) c)->Prs s.heap S z TO i1 i2 us ws n ->
   (∀r t c',aX t=aX us->c7 r S=aK (kL "list" (b9<|t.map ao) c')->Prs r S z TO i1 i2 us ws t->(∀T∈t,T∈n∨s⁻¹<=T)->(∀b o,b≠z->b≠TO->b≠i1->b≠i2->b≠S->c7 (b7 s) b=aK o->c7 r b=aK o)->R (T3<|pG res) { s with heap:=r }) ->
   mq (kG prog w) A (x8 "list.extend.loop" ([ao S,ao z,res],[])) R s:=by intro m;induction m with
 |zero=>
  intro j s n c hm hj l St hS P O;have hjn:j=aX us:=by lia
  show kY JM ?_;rw[eo Cg _];change kE _ A.in1 (lZ (ao z) >>= _) _ _ s;show kC<|aaz hh D St (by simp;ac_nf) λr kp=>?_;have B:=kp S _ (nd z ⋯).symm (nd TO ⋯).symm (nd i1 ⋯).symm (nd i2 ⋯).symm hS;show kF<|O r n c (by ac_nf) B ?_ (λT h=>jB h)<|λb o b1 b2 b3 b4 Z e=>kp b o b1 b2 b3 b4 e;.show P.keep (by ac_nf) (by ac_nf) λT l o e=>kp T o (P.ne T l).1 (P.ne T l).2.1 (P.ne T l).2.2.1 (P.ne T l).2.2.2.1 e
 |succ m ih=>
  intro j s n c hm hj l St hS P O;obtain⟨u,hu⟩:∃u,us[j]?=aK u:=(_,gEg ∅);obtain⟨v,hv⟩:∃v,ws[j]?=aK v:=(_,gEg ∅);show kY JM ?_;rw[eo Cg _];change kE _ A.in1 (lZ (ao z) >>= _) _ _ s;have C:S<s⁻¹:=ae hS;show kC<|acP D C St (x:=u) (y:=v) (by simpa using hu) (by simpa using hv) λr S' hP kp=>?_;have B:=kp S _ (nd z ⋯).symm (nd TO ⋯).symm (nd i1 ⋯).symm (nd i2 ⋯).symm hS;have P':Prs r S z TO i1 i2 us ws n:=P.keep ∅ ∅ λT l o e=>kp T o (P.ne T l).1 (P.ne T l).2.1 (P.ne T l).2.2.1 (P.ne T l).2.2.2.1 e;have zl:z<s⁻¹:=by
   obtain h|⟨_,_,_,h,_⟩:=St.f;.show ae h
   .show ae h
  have Q:i1<s⁻¹:=by have(_,q,_):=St.h1;show ae q
  have U:i2<s⁻¹:=by have(_,q,_):=St.h2;show ae q
  have X:TO<s⁻¹:=by have(_,_,q):=St.to;show ae q
  have lT:=ae hP;show kC<|lW B rfl ?_ (hsz:=by rw[aq,lMq];lia) (hsz2:=by rw[jQ,aq,lMq];lia);have I:iU S r<|fi r S<|cS λx=>x.push<|ao s⁻¹:=λb o b1 e=>by rw[cA _ _ _ _ b1];show e
  obtain⟨Y,J⟩:∃Y,c7 (fi r S<|cS λx=>x.push<|ao s⁻¹) S=aK (kL "list" (b9<|(n++[s⁻¹]).map ao) Y):=by
   have:=lO B<|λx=>x.push<|ao s⁻¹;have eq:(n.map ao).toArray.push (ao s⁻¹)=b9 ((n++[s⁻¹]).map ao):=by rw[List.push_toArray,mBq];rfl
   rw[eq]at this;show(_,this)
  have G:(fi r S<|cS λx=>x.push<|ao s⁻¹).objs.size=r.objs.size:=cg ..;generalize fi r S (cS λx=>x.push<|ao s⁻¹)=h2 at I J G;show kF (lD Cg _,ih (j+1) { s with heap:=h2 } (n++[s⁻¹]) Y ∅ ∅ (by rw[lAq,lSq,l]) (S'.keep nd I) J ?_ λh3 Ts3 c3 a1 a2 a3 a4 a5=>?_)
  .have fr:s⁻¹∉n:=λm=>cF _<|P.lt _ m;show(e8 nAq (P.nd,by simp,λa ha b hb q=>fr<|by rw[mSq.mp hb]at q;show q ▸ ha),λT l=>?_,λT l=>?_,λi T u' v' H L M=>?_)
   .change T<h2.objs.size;rw[G];obtain q|q:=mAq.mp l;.show P'.lt T q
    .rw[mSq.mp q];show lT
   .obtain q|q:=mAq.mp l;.show P.ne T q
    .rw[mSq.mp q];show(aY zl,aY X,aY Q,aY U,aY C)
   .by_cases q:i<aX n;.rw[gZq q]at H;show I _ _ (P.ne T<|mGq H).2.2.2.2<|P'.pr i T u' v' H L M
    .have hi:i=aX n:=by have:=(gSq.mp H).1;rw[lAq,lSq]at this;lia
     subst hi;rw[gYq<|ab _,eU]at H;cases H;rw[l]at L M;rw[hu]at L;rw[hv]at M;cases L;cases M;show I _ _ (aY C) hP
  .have sle:s⁻¹<=h2.objs.size:=by rw[G];show bQ lT
   show O h3 Ts3 c3 a1 a2 a3 (λT l=>?_)<|λb o b1 b2 b3 b4 b5 e=>a5 b o b1 b2 b3 b4 b5<|I b o b5<|kp b o b1 b2 b3 b4 e;obtain q|q:=a4 T l
   .obtain q|q:=mAq.mp q;.show jB q
    .rw[mSq.mp q];show ir<|ab _
   .show ir<|bH sle q
end
end Mo
namespace Mr
open PySem L2 PySem.Calls
open PySem.Spec PyProof.Rows
def Inv.laidS{σ:St}(I:Inv X y σ H s)(k:∀b u,c7 (b7 s) b=aK u->c7 r b=aK u)(sm:qk H l)
  (new:∀b o,H b=n_->l b=aK o->s⁻¹<=b/\tE X.prog X.w l r b o):Inv X y σ l { s with heap:=r,toks:=t' }:=by
 show I.un (λb u q Q Q Q=>k b u q,λb u q Q Q Q=>(aA6 u,k b u q),λb u q n Q=>?_,λb u q Q=>(u,k b u q),λb t q=>sm _ _ q,λb u t q=>sm _ _ q,λQ Q q=>sm _ _ q) λb o e=>?_;.cases e:l b with
  |none=>rfl
  |some o=>show absurd (ae q)<|Nat.not_lt_of_le (new b o n e).1
 .cases x:H b with
  |none=>show(new b o x e).2
  |some B=>have z:=sm _ _ x;rw[e]at z;cases z;show(t7 I b o x).stay (λc v Q q=>k c v q) (λc q=>sm _ _ q) (λc t q=>sm _ _ q) λc t q=>sm _ _ q
structure Prd (h h0:Heap)(Ts:Δ)(rs:Λ):Prop where
 len:Ts.length=rs.length
 nd:Ts.Nodup
 ge:∀T∈Ts,h.objs.size<=T
 tu:∀(i:Nat) (T:Addr) (r:Ϝ),Ts[i]?=aK T->rs[i]?=aK r->∃its,qr (r.map V.int) its/\IsTup h0 T its.toArray
 kp:∀b o,h.get? b=aK o->h0.get? b=aK o
 le:h.objs.size<=h0.objs.size
noncomputable def Df(l:Δ)(rs:Λ)(T:Addr):Ϝ:=rh ((ph l rs).lookup T) []
theorem KQ:∀{l}{rs:Λ}{i:Nat}{T}{r:Ϝ},c9 l->l[i]?=aK T->rs[i]?=aK r->Df l rs T=r
 | [],_,_,_,_,_,h,_=>by cases h
 |_::_,[],_,_,_,_,_,h=>by cases h
 |a::l,b::rs,0,T,r,_,h1,h2=>by cases h1;cases h2;simp[Df]
 |a::l,b::rs,i+1,T,r,nd,h1,h2=>by
  have h1:l[i]?=aK T:=by show h1
  have h2:rs[i]?=aK r:=by show h2
  have ne:T≠a:=λz=>(az.mp nd).1<|z ▸ mGq h1;have:=KQ (az.mp nd).2 h1 h2;unfold Df at this ⊢;simp?[dw,fF,beq_false_of_ne ne];show this
def W9{n:Δ}(nd:c9 n)(l:aX n=aX rs):n.map (Df n rs)=rs:=by
 show cC λi=>?_;rw[gMq];by_cases c:i<aX n;.rw[gEg c,gEg<|l ▸ c];show congrArg aK<|KQ nd (gEg c)<|gEg<|l ▸ c
 .rw[aR<|fD c,aR ∅];rfl
def Prd.at(P:Prd h h0 n rs)(t:T∈n):Df n rs T∈rs/\∃l,qr ((Df n rs T).map c8) l/\IsTup h0 T (b9 l):=by have(i,r):=aj.mp t;have s:=(gSq.mp r).1;have hr:rs[i]?=aK (rs[i]'(P.len ▸ s)):=gEg<|P.len ▸ s;rw[KQ P.nd r hr];show(mGq hr,P.tu i T _ r hr)
end Mr
namespace Mr
open PySem PySem.Spec PyProof.Rows L2
def Hh.same(h:Hh H ps rs)(s:qk H n):Hh n ps rs:=by have e:∀p∈ps,vp n p=vp H p:=λp l=>HJ<|s _ _<|h.2 p l;show(by rw[h.1];show mCq λp l=>fQ<|e p l,λp l=>by rw[e p l];show s _ _<|h.2 p l)
end Mr
namespace Z
open PySem L2 Mr
noncomputable abbrev zU(r:Ϝ):D:=eH<|r.map bo
abbrev aP(m:Λ):AV:=el<|m.map λr=>b8<|zU r
def Zp:List D->Option Λ
 | [d9 as,d9 bs]=>cc (su as) λns=>cc (su bs) λms=>if aX ns=aX ms then aK (bx (λx y=>[x,y]) ns ms)else n_
 |_=>n_
def Sn{ns ms:Ϝ}(h:aX ns=aX ms):Zp [d9<|ns.map bo,d9<|ms.map bo]=aK (bx (λx y=>[x,y]) ns ms):=by change(cc (su<|ns.map bo) λns=>cc (su<|ms.map bo) λms=>if aX ns=aX ms then aK (bx (λx y=>[x,y]) ns ms)else n_)=_;rw[rP,rP];simp[h]
noncomputable def kvI:List (pZ×D)->Option (List<|Int×Int)
 | []=>aK []
 | %[ak k|bo v]::r=>(kvI r).map (%[k|v] :: ·)
 |_=>n_
theorem PD:∀{n:Δ}{rs:Λ},n.map (vp l)=rs->(∀q∈n,l q=aK (j6<|(vp l q).map c8))->qo K l (rs.map zU) (n.map cx)
 | [],_,rfl,_=>qo.nil
 |q::n,_,rfl,h=>qo.cons (rq.mk_tup (h q<|ai ..)<|wj _)<|PD rfl λp r=>h p<|mCo _ r
theorem GU:∀{m}{vs},qo K s (m.map zU) vs->∃l,vs=l.map cx/\Hh s l m
 | [],vs,h=>([],h8 h,rfl,λp t=>by cases t)
 |r::m,vs,h=>by
  have(v,B,rfl,h1,h2):=eC h;have(l,rfl,u,x):=GU h2;have(p,C,rfl,n,g2):=oe h1;rw[qP g2]at n;show(p::l,rfl,by rw[ax,HJ n,←u],λq y=>?_);obtain z|z:=ag.mp y;.rw[z,HJ n];show n
  .show x q z
end Z
namespace Mr
open PySem PySem.Spec PyProof.Rows L2
def UP(B:X.calm=t_):uM X (kj "any")<|λxs H Q=>∃(a:Addr) (bs:List Bool),xs=[cx a]/\sN X.K H a (bs.map lR)/\Q (lR<|bs.any id) H:=by
 intro L s σ H xs M Q I r h;have(a,bs,rfl,hS,q):=h;have(u,rfl,C):=vL r;cases C;have(E,G,p,O):=oG I hS;obtain rfl:=HV G;have hl:=eQ p;have x:a<s⁻¹:=by have(_,e,_):=hl;show ae e
 show call_any_walk<|mD hl ?_;show(s⁻¹,[s⁻¹,a],[s⁻¹],(bs.map eF).toArray.size,_,_,λi=>rh (bs[i]?) t_,rfl,pa (A:=p9 X.A) (I.ok.hd B) _ a (ar x) _,((_,aA _ rfl,rfl,rfl),hl.push _),λi v P R S hP y=>?_,λU J hk=>?_)
 .have e:(bs.map eF)[i]?=aK v:=by simpa using hP
  rw[gMq]at e;cases l:bs[i]? with
  |none=>rw[l]at e;cases e
  |some b=>rw[l]at e;cases e;simp?[l,bB]at y;show lJ y
 .have e:((bD (bs.map eF).toArray.size).any λi=>rh (bs[i]?) t_)=bs.any id:=by
   rw[aq,lMq,bG,cW,cW];constructor;.rintro⟨i,t,z⟩;have n:=bE.mp t;rw[gEg n]at z;show(bs[i],gRq n,z)
   .rintro⟨b,l,z⟩;have(i,t,rfl):=ja l;show(i,e8 bE t,by rw[gEg t];show z)
  rw[e];show(lR _,H,I.kept (t':=J) λb ob z=>hk b ob (λm=>?_)<|aa _ z,rfl,q);have:b=s⁻¹:=by simpa using m
  show absurd (ae z)<|by rw[this];show cF _
end Mr
namespace Z
open PySem L2 Mr
def Vn:List D->Option D
 | [d9 ds]=>(yd ds).map λbs=>fb<|bs.any id
 |_=>n_
def aaM:S0 K (λxs H Q=>∃(a:Addr) (bs:List Bool),xs=[cx a]/\sN K H a (bs.map lR)/\Q (lR<|bs.any id) H) Vn:=by
 intro t H Q u d r e q;unfold Vn at e;split at e;.have(bs,n,e):=oMq.mp e;cases e;have(v,x,rfl,h1,h2):=eC r;rw[h8 h2];rw[Dr n]at h1;have(p,y,rfl,l,s):=l5 h1;rw[yK s]at l;show(p,bs,rfl,kc l,q _ IT)
 .cases e
def aeb ds:Vn [d9 ds]=(yd ds).map λbs=>fb<|bs.any id:=rfl
end Z
namespace Z
open PySem PySem.Spec PyProof.Rows L2 Mr
inductive Fq:Nat->D->PyData->Prop
 |non {n}:Fq n .non .none
 |bl {n b}:Fq n (.bl b)<|.bool b
 |int {n i}:Fq n (.int i)<|.int i
 |str {n x} (h:PyData.canLay0 (.str x)=t_):Fq n (.str x)<|.str x
 |list {n} {ds:List D}{ps:List PyData}(l:ds.length=ps.length) (e:∀(i:Nat) (d:D) (p:PyData),ds[i]?=aK d->ps[i]?=aK p->Fq n d p):Fq (n+1) (.list ds)<|.list ps
 |tup {n} {ds:List D}{ps:List PyData}(l:ds.length=ps.length) (e:∀(i:Nat) (d:D) (p:PyData),ds[i]?=aK d->ps[i]?=aK p->Fq n d p):Fq (n+1) (.tup ds)<|.tuple ps
def EE{α:Type}{ds:List D}{ps:List α}(l:aX ds=aX ps){p}(h:p∈ps):∃(i:Nat) (d:D),ds[i]?=aK d/\ps[i]?=aK p:=by have(i,n):=aj.mp h;have hl:=(gSq.mp n).1;show(i,_,gEg<|l ▸ hl,n)
def QE(h:∀p∈ps,hJ p=t_):lS ps=t_:=by induction ps with
 |nil=>rfl
 |cons p ps l=>rw[lS,h p<|ai ..,l λq n=>h q<|mCo _ n];rfl
def Qq(h:∀p∈ps,j4 p p=t_):k8 ps ps=t_:=by induction ps with
 |nil=>rfl
 |cons p ps l=>rw[k8,h p<|ai ..,l λq n=>h q<|mCo _ n];rfl
def LL(h:∀p∈ps,gE p<=n):i7 ps<=n:=by induction ps with
 |nil=>rw[i7];show aH _
 |cons p ps l=>rw[i7];have:=h p<|ai ..;have:=l λq r=>h q<|mCo _ r;lia
def Fq.lay(h:Fq n d p):hJ p=t_:=by induction h with
 |str h=>show h
 |list l _ r=>rw[hJ];show QE λp s=>let ⟨i,d,h1,h2⟩:=EE l s;r i d p h1 h2
 |tup l _ r=>rw[hJ];show QE λp s=>let ⟨i,d,h1,h2⟩:=EE l s;r i d p h1 h2
 |_=>rfl
def Fq.mix(h:Fq n d p):j4 p p=t_:=by induction h with
 |list l _ r=>rw[j4];show Qq λp s=>let ⟨i,d,h1,h2⟩:=EE l s;r i d p h1 h2
 |tup l _ r=>rw[j4];show Qq λp s=>let ⟨i,d,h1,h2⟩:=EE l s;r i d p h1 h2
 |_=>rfl
def Fq.deep(h:Fq n d p):gE p<=n:=by induction h with
 |list l _ r=>rw[gE];show gu<|LL λp s=>let ⟨i,d,h1,h2⟩:=EE l s;r i d p h1 h2
 |tup l _ r=>rw[gE];show gu<|LL λp s=>let ⟨i,d,h1,h2⟩:=EE l s;r i d p h1 h2
 |_=>simp[gE]
def Fq.shaped(h:Fq n d p)(hn:n<=64):mG p=t_:=by change(hJ p && decide (gE p<=64))=t_;rw[h.lay,d7<|bH h.deep hn];rfl
section
variable {K:Ζ}
def YV(f g:D->D->Option D)(a b c:ME):ME:=λS=>cc (a S) λx=>cc (b x.2) λy=>cc (f x.1 y.1) λd=>match d with
 | fb t_=>cc (c y.2) λz=>if y.1.scal=t_ then (g y.1 z.1).map λd'=>%[d'|z.2]else n_
 | fb f_=>aK %[fb f_|y.2]
 |_=>n_
def abG(hf:Ex K r f)(G:Ex K r' g)(ha:SR K s a)(I:SR K tb b)(J:SR K tc c)(l:∀x y d,f x y=aK d->x.scal=t_):SR K (V9 r r' s tb tc)<|YV f g a b c:=by
 intro H₀ n Hf S σ H Fs d S' R e Q q;have(x,L,e):=oBq.mp e;have(y,M,e):=oBq.mp e;have(k,t,e):=oBq.mp e;show ha R L _ λO H1 Fs1 v1 u P U=>I P M _ λX H2 Fs2 v2 B R2 C=>?_;show hf (U.scal<|l _ _ _ t) C t λv E=>?_;split at e
 .cases E;show(t_,rfl,Kd ?_);have(z,Y,e):=oBq.mp e;split at e;.rename_i hy;have(d',e5,e):=oMq.mp e;cases e;show J R2 Y _ λHf3 H3 Fs3 v3 t3 R3 r3=>?_;show G (C.scal hy) r3 e5 λw rw=>q _ _ _ w (hU (hU u B) t3) R3 rw
  .cases e
 .cases E;cases e;show(f_,rfl,ID<|q _ _ _ _ (hU u B) R2 IT)
 .cases e
def aeM x y d(h:dLe x y=aK d):x.scal=t_:=by cases x <;> first|rfl|cases h
def afa(f g)a b c S:YV f g a b c S=cc (a S) λx=>cc (b x.2) λy=>cc (f x.1 y.1) λd=>match d with
 | fb t_=>cc (c y.2) λz=>if y.1.scal=t_ then (g y.1 z.1).map λl=>%[l|z.2]else n_
 | fb f_=>aK %[fb f_|y.2]
 |_=>n_:=rfl
end
end Z
namespace Mr
open PySem L2 PySem.Calls
open PySem.Spec PyProof.Rows
def Ug(R:X.calm=t_):uM X (kj "min") (λxs H Q=>∃(a:Addr) (kvs:List (pZ×V)) (ns:Ϝ),xs=[cx a]/\H a=aK (nB kvs)/\kvs.map (·.1)=ns.map ak/\0<aX ns/\∀M,M∈ns->(∀x,x∈ns->M<=x)->Q (c8 M) H):=by
 intro oO s σ H xs us Q I r h;have(a,kvs,ns,rfl,ha,hk,S,q):=h;have(u,rfl,U):=vL r;cases U;have(hz,Y,l,kv,d):=(show tE X.prog X.w H s.heap a (nB kvs)from t7 I a _ ha);have(ep,L):=d.dictAt;have n:aX ns=aX l:=by have:=congrArg aX hk;rw[lMq,lMq]at this;rw[←this,nE kv]
 have y:l.map (·.1)=ns.map ak:=by rw[←QY kv,hk]
 have hI:∀(j:Nat) (v:Value),(∃k x,l[j]?=aK %[k|x]/\(rK X.prog X.w).is k v=t_)->∃t,v=iT (dk ns j 0) t:=λj v ⟨k,x,O,g2⟩=>by
  have B:j<aX ns:=by rw[n];show(gSq.mp O).1
  have P:(l.map (·.1))[j]?=aK k:=by rw[gMq,O];rfl
  rw[y,gMq,gEg B]at P;have e4:(ak ns[j]:pZ)=k:=by simpa using P
  subst e4;obtain⟨i,t,C,e6⟩|⟨z,t,C,_⟩:=rY (k:=ak ns[j]) (v:=v) g2;.cases C;show(t,by rw[gDq,gEg B];show e6)
  .cases C
 have(oI,St,E,W,st):=(W.kdl_dict (knd:=rK X.prog X.w) (kvs:=l) (ep:=ep) Y).iter X.A.in1 s (I.ok.hd R) L;have G:a<s⁻¹:=L.lt_size;show call_min_walk<|E _ _ (_,_,_,_,_,_,λi j=>decide<|dk ns i 0<dk ns j 0,rfl,W,st,λb J=>?_,by lia,CmpOf.ints_lt (λi=>dk ns i 0) hI,λv h' tk hP hk=>?_)
 .change b<(ig (b7 s) oI).objs.size;rw[mR];obtain rfl|J:=ag.mp J;.show eG _
  .rw[mSq.mp J];show bS G
 .have(t,rfl):=hI _ _ hP;have(h1,h2):=argBest_lt (λi=>dk ns i 0)<|aX l-1;show(c8 _,H,I.kept<|λb o e=>hk b o (λm=>?_)<|aa _ e,(t,rfl),q _ ?_ λx hx=>?_);.rw[mSq.mp m]at e;show absurd (ae e)<|cF _
  .show aB3<|by omega
  .have(j,B,rfl):=aB4 hx;show h2 j<|by omega
end Mr
namespace Z
open PySem L2 Mr
noncomputable def agu:List D->Option D
 | [.fd ds]=>aK<|bo<|aX ds
 |_=>n_
def age:D->Option D
 | mA kvs=>cc (zX kvs) λns=>(DD ns).map bo
 |_=>n_
def Mb:List D->Option D
 | [d]=>age d
 |_=>n_
set_option tactic.hygienic true in
def Zb:S0 K (λxs H Q=>∃(a:Addr) (kvs:List (pZ×V)) (ns:Ϝ),xs=[cx a]/\H a=aK (nB kvs)/\kvs.map (·.1)=ns.map ak/\0<aX ns/\∀M,M∈ns->(∀x,x∈ns->M<=x)->Q (c8 M) H) Mb:=by
 intro J H Q L d r e q;unfold Mb at e;split at e;.rename_i t;have(v,O,rfl,h1,h2):=eC r;rw[h8 h2];cases t with
  |dict kvs=>have(ns,u,e):=oBq.mp<|show((zX kvs).bind λns=>(DD ns).map D.int)=aK d from e;have(m,l,e):=oMq.mp e;cases e;have(p,y,rfl,B,C):=h1.dict_inv;cases ns with
   |nil=>cases l
   |cons n ns=>
    cases l;show(p,y,n::ns,rfl,B,by rw[←C.1];show HW u,by simp,λM E G=>?_);have I:M=ns.foldl min n:=by
     have P:=G _<|vP ns n;have s:=wK ns n;have R:ns.foldl min n<=M:=by
      obtain z|z:=ag.mp E;.cases z;show s.1
      .show s.2 M z
     lia
    rw[I];show q _ .int
  |_=>cases e
 .cases e
end Z
namespace Z
open PySem L2 Mr Xe
def SW(K:Ζ)(te:TE)(m:MK):Prop:=∀{H₀ l t}{S}{σ}{H}{u}{a}{S'},qI K H₀ l t S σ H u->m S=aK %[a|S']->∀Q:VK,
 (∀n s r v F,qk t n->qI K H₀ l n S' σ s r->qA K n s a v F->c9 F->(∀q∈F,H₀ q=n_/\q∉bf r)->Q v s)->te σ H Q
def acR(i:Nat):MI:=λS=>(xO S i).map λkvs=>%[kvs.map λp=>kD p.1|i8 S i<|aK<|b8<|.fd kvs]
def Uy(hf:Gy K tf mf)(he:SK K te me):SW K (JC (Vy<|Ax i) fr tf te)<|rF (acR i) fr mf me:=by
 intro H₀ z L S σ H Fs av S' R e Q q;have(y,P,e):=oBq.mp e;have(B,e2,P):=oMq.mp P;subst P;have(S2,e3,e):=oBq.mp e;have(cap,e4,e):=oBq.mp e;obtain⟨hl,e⟩|e:=qe e
 .have(avs,e5,e):=oMq.mp e;cases e;have C:=AK e2;have(p,u,X,s2,h1,h2,M,h4,h5):=R.owd C;show(_,X,p,u,rfl,h1,λob=>?_);have(v,F,t1,Y,r,nd,oo,R1):=R.move C;rw[s2]at Y;cases Y;have R2:=qI.fix R1 (p:=p) (o:=pT ob<|nB u) h5 h2 h4;have s3:qk L<|rG L p<|pT ob<|nB u:=vR h2;have E:vM K (rG L p<|pT ob<|nB u) B u:=(M.1,λi d v a b=>Qf (M.2 i d v a b) s3);have R3:qI K H₀ z (rG L p<|pT ob<|nB u) (i8 S i<|aK<|b8<|.fd B) σ (rG H p<|pT ob<|nB u)<|i8 Fs i []:=R2.again (F:=[]) X (.sh<|.fd pW E.1 E.2) aW λq O=>by cases O
  have G:aX B=aX u:=by have:=congrArg aX M.1;simpa using this
  have(U,Fs3,t3,R4):=R3.fzAll e3;have I:U p=aK (pT ob<|nB u):=t3.sf _ _ pW;have J:aX (B.map λp:pZ×D=>kD p.1)=aX u:=by rw[lMq];show G
  show Cu (K:=K) hf he R4 e4 hl e5 (λi H s hi=>(s _ _ I,_,gEg<|by rw[←J];show hi)) (λH s=>(s _ _ I,by rw[J];show ab _)) (λn H' x H'' s hi y=>?_) λHf' H' v F t R' r o=>q _ _ _ v F (eM (eM s3 t3.sf) t.sf) R' r o.nd λq O=>(o.fr q O,o.out q O);have(y1,w,y2,y3):=y;have hk:(B.map λp:pZ×D=>kD p.1)[n]?=aK (kD w.1):=by have:=congrArg (λl=>l[n]?) M.1;simp?[gMq,y2,bJ]at this;rw[gMq];cases hd:B[n]? with
   |none=>rw[hd]at this;cases this
   |some dd=>rw[hd]at this;rw[bJ,show dd.1=w.1 from aK.inj this]
  show(y1,_,hk,by rw[y3];show Q9 w.1)
 .cases e
def aeu(i)S:acR i S=(xO S i).map λkvs=>%[kvs.map λp=>kD p.1|i8 S i<|aK<|b8<|.fd kvs]:=rfl
def Ys(hk:SW K te k):SS K (Hk te<|uv i)<|pX i k:=by intro H₀ l I S σ H L o R e D h;have(x,r,e):=oMq.mp e;cases e;show hk R (a:=x.1) (S':=x.2) r _ λs M Fs1 v F z B C E G=>h _ _ _ _ z<|B.set i C E G
end Z
namespace Z
open PySem PySem.Spec PyProof.Rows L2 Mr Xe
def JL:uM X (iD "int")<|λxs H Q=>∃b,xs=[lR b]/\Q (c8<|if b=t_ then 1 else 0) H:=by intro n s σ H xs t Q I r h;have(b,rfl,q):=h;have(u,rfl,l):=vL r;cases l;show call_int_bool (c8<|if b=t_ then 1 else 0,H,I.tok _,(_,rfl),q)
noncomputable def Fv:List D->Option D
 | [fb b]=>aK<|bo<|if b=t_ then 1 else 0
 |_=>n_
def Wo b:Fv [fb b]=aK (bo<|if b=t_ then 1 else 0):=rfl
def RA{K}:S0 K (λxs H Q=>∃b,xs=[lR b]/\Q (c8<|if b=t_ then 1 else 0) H) Fv:=by
 intro l H Q n d r e q;unfold Fv at e;split at e;.have(v,s,rfl,h1,h2):=eC r;rw[h8 h2];cases h1;cases e;show(_,rfl,q _ .int)
 .cases e
end Z
namespace Mo
open PySem PySem.W PyProof.Rows Mr
section
variable {E:Ψ}{us ws:Ξ}
def Yl(hh:lL A=n_)(D:mn z TI TO i1 i2 l1 l2)(hz:IsZip s.heap z TI TO gX)(J:mw s.heap TI (ao i1)<|ao i2)(n:∃a b,mw s.heap TO a b)(h1:hH (b7 s) i1 l1 0)(h2:hH (b7 s) i2 l2 0)(L:pj (b7 s) l1<|b9 us)(M:pj (b7 s) l2<|b9 ws)(y:aX us=aX ws)(hsz:aX us<=kK)
  (B:c7 (b7 s) S=aK (kL "list" #[] c0)) (lt:∀c∈[z,TI,TO,i1,i2,l1,l2],c≠S)
  (h:∀C (r:Δ) G,aX r=aX us->c7 C S=aK (kL "list" (b9<|r.map ao) G)->c9 r->(∀T∈r,s⁻¹<=T)->(∀(i:Nat) T u v,r[i]?=aK T->us[i]?=aK u->ws[i]?=aK v->mw C T u v)->(∀b o,b≠z->b≠TO->b≠i1->b≠i2->b≠S->c7 (b7 s) b=aK o->c7 C b=aK o)->R (T3<|pG res) { s with heap:=C }) :
  kE (kG prog w) A.in1 (lq (ao S) (ao z) res)
   (λfin H=>match fin with|.done f=>R (T3 f) H|.again G=>G.quiet=t_/\mq (kG prog w) A G R H) (λe H=>R (.error e) H) s:=by
 have l:j7 s (ao z) "zip" := (_,hz,rfl);have(ta,tb,n):=n;unfold lq;show kC<|mi l ?_;rw[qE (by
  have:aCi (ao S) (ao z)=f_:=by change(S == z)=f_;show e8 beq_eq_false_iff_ne<|h7<|lt z ⋯
  rw[this];decide)];show kC<|nu hz ?_;show kC<|kX<|VI l ?_;rw[qz<|by rfl];show kC<|nX ?_;unfold aCj;show kC<|kC<|lW B rfl ?_;have O:=lO B<|λx=>x.push gX;have P:iU S s.heap<|fi (b7 s) S<|cS λx=>x.push gX:=λb o b1 e=>by rw[cA _ _ _ _ b1];show e
 have Q:(fi (b7 s) S<|cS λx=>x.push gX).objs.size=s⁻¹:=cg ..;generalize fi (b7 s) S (cS λx=>x.push gX)=I at O P Q;show lW O rfl ?_;have g2:=lO O<|λx=>x.pop;have U:iU S I<|fi I S<|cS λx=>x.pop:=λb o b1 e=>by rw[cA _ _ _ _ b1];show e
 have X:(fi I S<|cS λx=>x.pop).objs.size=s⁻¹:=by rw[cg,Q]
 generalize fi I S (cS λx=>x.pop)=G2 at g2 U X;have kp:∀b o,b≠S->c7 (b7 s) b=aK o->c7 G2 b=aK o:=λb o b1 e=>U b o b1<|P b o b1 e;have t:∀c∈[z,TI,TO,i1,i2,l1,l2],∀o,c7 (b7 s) c=aK o->c7 G2 c=aK o:=λc hc o e=>kp c o (lt c hc) e;show kF (lD Cg _,Zt hh D lt y hsz (aX us) 0 { s with heap:=G2 } [] _ (gU _) (aH _) rfl (jB<|t _ ⋯ _ hz,t _ ⋯ _ J,(_,_,t _ ⋯ _ n),h1.at λo e=>t _ ⋯ o e,h2.at λo e=>t _ ⋯ o e,L.at λo e=>t _ ⋯ o e,M.at λo e=>t _ ⋯ o e) g2 (aW,λT l=>(by cases l),λT l=>(by cases l),λi T u v e=>(by cases e)) λh3 r c3 a1 a2 Y a4 a5=>?_);show h h3 r c3 a1 a2 Y.nd (λT l=>?_) Y.pr λb o b1 b2 b3 b4 b5 e=>a5 b o b1 b2 b3 b4 b5<|kp b o b5 e;obtain q|q:=a4 T l;.cases q
 .have q:G2.objs.size<=T:=q;rw[X]at q;show q
def OV{Q:Ψ}(hh:lL A=n_)(D:mn z TI TO i1 i2 l1 l2)(hz:IsZip s.heap z TI TO gX)(G:mw s.heap TI (ao i1)<|ao i2)(r:∃a b,mw s.heap TO a b)(h1:hH (b7 s) i1 l1 0)(h2:hH (b7 s) i2 l2 0)(H:pj (b7 s) l1<|b9 us)(I:pj (b7 s) l2<|b9 ws)(B:aX us=aX ws)(hsz:aX us<=kK)
  (lt:∀c∈[z,TI,TO,i1,i2,l1,l2],c<s⁻¹)
  (h:∀y (t:Δ) J,aX t=aX us->c7 y s⁻¹=aK (kL "list" (b9<|t.map ao) J)->c9 t->(∀T∈t,s⁻¹<T)->(∀(i:Nat) T u v,t[i]?=aK T->us[i]?=aK u->ws[i]?=aK v->mw y T u v)->(∀b o,b≠z->b≠TO->b≠i1->b≠i2->c7 (b7 s) b=aK o->c7 y b=aK o)->Q (ao s⁻¹) { s with heap:=y }) :
  kE (kG prog w) A (call (iD "list") [ao z]) Q E s:=by
 show aar (Q₁:=λobj n=>obj = ao s⁻¹/\n={ s with heap:=ig (b7 s) { cls:=iD "list", data:=k6 #[] } }) PySem.F.called_list (PySem.F.typeCall_list_1 _) PySem.F.entry_list_init
  (code_list_new _ (rfl,rfl)) λobj n C=>?_;have(rfl,rfl):=C;have hS:c7 (ig (b7 s) { cls:=iD "list", data:=k6 #[] }) s⁻¹=aK { cls:=iD "list", data:=k6 #[] }:=aA _ rfl;show((_,hS,rfl),PySem.F.args_list_init_2 _ _,?_);change kE _ _ (do let L ←w8 (ao s⁻¹);aCk (ao s⁻¹) (λZ=>#[]);letGo<|hY<|km L;lq (ao s⁻¹) (ao z) gX) _ _ _;show kC ?_;unfold w8;show kC<|lU hS rfl<|kF ?_;change kE _ _ (ox s⁻¹ (λZ=>#[]) >>= λZ=>letGo (hY (#[]:Ω).toList) >>= λZ=>lq (ao s⁻¹) (ao z) gX) _ _ _;show kC<|mh hS rfl ?_;have x:=gD (cS<|λZ=>(#[]:Ω)) hS rfl;have l:∀b o,c7 (b7 s) b=aK o->c7 (fi (ig (b7 s) { cls:=iD "list", data:=k6 #[] }) s⁻¹<|cS<|λZ=>(#[]:Ω)) b=aK o:=λb o e=>eI (bO _ _<|aY<|ae e)<|aa _ e;show kC<|mr ?_;have(ta,tb,r):=r;have zs:(fi (ig (b7 s) { cls:=iD "list", data:=k6 #[] }) s⁻¹<|cS<|λZ=>(#[]:Ω)).objs.size=s⁻¹+1:=by rw[cg,mR]
 show Yl (A:=p9 A) (s:={ s with heap:=fi (ig (b7 s) { cls:=iD "list", data:=k6 #[] }) s⁻¹ (cS<|λZ=>(#[]:Ω)) }) hh D (l _ _ hz) (l _ _ G) (_,_,l _ _ r) (h1.at λo e=>l _ o e) (h2.at λo e=>l _ o e) (H.at λo e=>l _ o e) (I.at λo e=>l _ o e) B hsz x (λc M=>ar<|lt c M) λy t J O P U X Y a6=>?_;show(rfl,h y t J O P U (λT hT=>?_) Y λb o b1 b2 b3 b4 e=>a6 b o b1 b2 b3 b4 (ar<|ae e)<|l b o e);have:=X T hT;have this:(fi (ig (b7 s) { cls:=iD "list", data:=k6 #[] }) s⁻¹<|cS<|λZ=>(#[]:Ω)).objs.size<=T:=this;lia
end
end Mo
namespace Mr
open PySem L2 PySem.Calls
open PySem.Spec PyProof.Rows
def Lzd(H:Hp)(rs:Λ)(Q:VK):Prop:=∀l p (n:Δ),qk H l->H p=n_->p∉n->(∀q∈n,H q=n_)->c9 n->l p=aK (et<|n.map cx)->(∀q∈n,l q=aK (j6<|(vp l q).map c8))->n.map (vp l)=rs->Q (cx p) l
def W7{σ:St}{p:Addr}(I:Inv X J σ H s)(P:Prd s.heap B l rs)(C:∀r∈rs,aX r<=kK)(hz:aX rs<=kK)(x:s⁻¹<=p)(L:∀T∈l,T≠p)(U:c7 B p=aK (kL "list" (b9<|l.map ao) c))(q:Lzd H rs Q) :
  EP X J σ Q (ao p) { s with heap:=B,toks:=t' }:=by
 have fr:∀T∈l,H T=n_:=λT t=>l6 (t7 I)<|P.ge T t;have y:H p=n_:=l6 (t7 I) x;have h2:∀T∈l,(λb=>if b=p then aK (et<|l.map cx)else if b∈l then aK (j6<|(Df l rs b).map c8)else H b:Hp) T=aK (j6<|(Df l rs T).map c8):=λT t=>by change(if T=p then _ else _)=_;rw[qE<|L T t,qz t]
 have M:(λb=>if b=p then aK (et<|l.map cx)else if b∈l then aK (j6<|(Df l rs b).map c8)else H b:Hp) p=aK (et<|l.map cx):=qz rfl;have E:qk H (λb=>if b=p then aK (et<|l.map cx)else if b∈l then aK (j6<|(Df l rs b).map c8)else H b:Hp):=λb o e=>by
  have Y:b≠p:=λz=>by rw[z,y]at e;cases e
  have n2:b∉l:=λz=>by rw[fr b z]at e;cases e
  change(if b=p then _ else _)=_;rw[qE Y,qE n2];show e
 have O:∀b o,H b=n_->(λb=>if b=p then aK (et<|l.map cx)else if b∈l then aK (j6<|(Df l rs b).map c8)else H b:Hp) b=aK o->(b=p/\o = et (l.map cx))∨(b∈l/\o = j6 ((Df l rs b).map c8)):=λb o n e=>by
  have e:(if b=p then aK (et<|l.map cx)else if b∈l then aK (j6<|(Df l rs b).map c8)else H b)=aK o:=e;split at e;.rename_i z;cases e;show jB (z,rfl)
  .split at e;.rename_i z;cases e;show ir (z,rfl)
   .rw[n]at e;cases e
 generalize (λb=>if b=p then aK (et<|l.map cx)else if b∈l then aK (j6<|(Df l rs b).map c8)else H b:Hp)=H' at h2 M E O;have R:∀T∈l,vp H' T=Df l rs T:=λT t=>HJ<|h2 T t;show(cx p,H',Inv.laidS I (λb u e=>P.kp b u e) E λb o n e=>?_,rfl,q H' p l E y (λm=>L p m rfl) fr P.nd M (λT t=>by rw[R T t];show h2 T t) ?_)
 .obtain⟨rfl,rfl⟩|⟨S,rfl⟩:=O b o n e;.show(x,by rw[lMq,P.len];show hz,_,c,xa l,U)
  .have(m1,G,rv,ob,e1,tG):=P.at S;show(P.ge b S,by rw[lMq];show C _ m1,G,rv,ob,e1,tG)
 .rw[mCq λT t=>R T t];show W9 P.nd P.len
def rLZ(K:Ζ)(xs:List V)(H:Hp)(Q:VK):Prop:=∃(a b:Addr) (ns ms:Ϝ),xs=[cx a,cx b]/\sN K H a (ns.map c8)/\sN K H b (ms.map c8)/\aX ns=aX ms/\Lzd H (bx (λx y=>[x,y]) ns ms) Q
set_option tactic.hygienic true in
def Zc(B:X.calm=t_)(gl:Gl X "list")(ml:X.mg "list" = n_)(hg:Gl X "zip")(hm:X.mg "zip" = n_)(ha:PA X [e,f] ta)
  (he:↑(kO [m8 (g9 "zip" p) [e,f] [] pos] X.env=%[f_|eval (m8 (g9 "zip" p) [e,f] [] pos)<|iI X]::kO [] X.env)) (hs:↑(kO [e,f] X.env=[%[f_|eval e<|iI X],%[f_|eval f<|iI X]])) (z:↑(kO [f] X.env=[%[f_|eval f<|iI X]])) :
  PE X (m8 (g9 "list" p0) [m8 (g9 "zip" p) [e,f] [] pos] [] t)<|Ng (rLZ X.K) ta:=by
 intro oO s σ H Q I h;show lY<|wX I gl ml boot_list ?_ ⋯<|by rfl
 show bC ?_ he<|by rfl
 rw[he];change kE _ _ (spliced<|%[f_|eval (m8 (g9 "zip" p) [e,f] [] pos)<|iI X]::mE t (kO []<|iI X)) _ _ s;show sq ?_;show Call_<|wX I hg hm boot_zip<|bC (ua (ha pos oO s σ H _ I h) λus l M=>?_) (by rw[hs,z])<|by rw[z];rfl
 have(vs,H1,C,O,q1):=M;have(a,b,R,ms,S,U,Y,hl,q):=q1;subst S;have(u,v,rfl,ru,rv):=Jk O;cases ru;cases rv;have(its1,v1,p1,z1):=oG C U;have(its2,v2,p2,z2):=oG C Y;have n1:=iL v1;have n2:=iL v2;rw[lMq]at n1 n2 z1;have al:a<l⁻¹:=let ⟨_,ho,_⟩:=eQ p1;ae ho;have bl:b<l⁻¹:=let ⟨_,ho,_⟩:=eQ p2;ae ho;show call_zip_2 (eQ p1) (eQ p2) λg hz hTI hTO h1 h2 hsz hk=>t5 ?_;have D:mn (l⁻¹+4) (l⁻¹+2) (l⁻¹+3) l⁻¹ (l⁻¹+1) a b:=zipApart_new al bl;have n:g.objs.size=l⁻¹+5:=hsz;have lz:aX (bx (λx y=>[x,y]) R ms)=aX R:=by rw[fM];ac_nf
 show Mo.OV (s:={ l with heap:=g }) (C.ok.hd B) D hz hTI (_,_,hTO) h1 h2 (p1.isList.at λo e=>hk _ o e) (p2.isList.at λo e=>hk _ o e) ∅ ∅ (λc B=>?_) λh' Ts c' a1 E a3 G a5 a6=>?_
 .change c<g.objs.size;simp?[ag,bZ,or_false]at B;rw[n];obtain rfl|rfl|rfl|rfl|rfl|rfl|rfl:=B;.show fN ⋯ _
  .show fN ⋯ _
  .show fN ⋯ _
  .show Nat.lt_add_of_pos_right ⋯
  .show fN ⋯ _
  .show cV 5 al
  .show cV 5 bl
 .have G:∀T∈Ts,g.objs.size<T:=G;have E:c7 h' g.objs.size=aK (kL "list" (b9<|Ts.map ao) c'):=E;have P:Prd l.heap h' Ts<|bx (λx y=>[x,y]) R ms:=by
   show(by lia,a3,λT hT=>by have:=G T hT;lia,λi T r S J=>?_,λb o e=>?_,bQ<|jf (by rw[n];show dh _ _)<|ae E)
   .rw[cE]at J;split at J
    .rename_i x y ex ey;cases J;have(u1,g1,O):=v1.get (i:=i) (x:=c8 x)<|by rw[gMq,ex];rfl
     have(u2,g2,r2):=v2.get (i:=i) (x:=c8 y)<|by rw[gMq,ey];rfl
     show([u1,u2],hL O<|hL r2 j8,_,a5 i T u1 u2 S g1 g2,rfl,_,rfl)
    .cases J
   .have lt:b<l⁻¹:=ae e;show a6 b o (ar<|cV 4 lt) (ar<|cV 3 lt) (ar lt) (ar<|cV 1 lt)<|hk b o e
  show W7 (s:=l) (t':=nc l) C P (λr hr=>?_) (by rw[lz];show z1) (by change l⁻¹<=g.objs.size;rw[n];show dh _ _) (λT hT=>aY<|G T hT) E q;have(i,L):=aj.mp hr;rw[cE]at L;split at L;.cases L;rw[lh];simp
  .cases L
end Mr
namespace Z
open PySem L2 Mr
def kLZ(m:ML):MK:=λS=>cc (m S) λx=>(Zp x.1).map λrs=>%[aP rs|x.2]
def afK(m)S:kLZ m S=cc (m S) λx=>(Zp x.1).map λrs=>%[aP rs|x.2]:=rfl
def KS(l:ML):MK:=λS=>cc (l S) λx=>cc (zo x.1) λrs=>wa ((∀r∈rs,r≠[])/\aX rs<64)<|aK %[aP<|Fe rs|x.2]
def QT(l)S:KS l S=cc (l S) λx=>cc (zo x.1) λrs=>wa ((∀r∈rs,r≠[])/\aX rs<64)<|aK %[aP<|Fe rs|x.2]:=rfl
def abL(B:qI K H₀ Hf₀ Hf1 S' σ H1 Fs1)(C:zW Hf H Fs Hf1 H1 Fs1)
  (q:∀x t y v F,zW Hf H Fs x t y->qI K H₀ Hf₀ x S' σ t y->qA K x t (aP<|rs) v F->zQ H₀ H Fs y F->Q v t):Lzd H1 rs Q:=by
 intro t p u sm J I G nd h1 h2 M;have n:∀z∈u,Hf1 z=n_:=λz s=>B.sub.free<|G z s;have O:=(B.laid sm).frz (F:=u) (λz s=>(B.fr.free<|G z s,λm=>(B.mem m).1<|G z s)) n;have E:∀z∈u,Z.frz Hf1 t u z=t z:=λz s=>Da s;have L:∀z∈u,vp (Z.frz Hf1 t u) z=vp t z:=λz s=>by unfold vp;rw[E z s]
 have P:(rs).map (λr=>b8<|zU r)=((rs).map zU).map b8:=by rw[mPq];rfl
 show q (Z.frz Hf1 t u) t Fs1 (cx p) [p] (eM C.sf<|uU n,eM C.sh sm,C.own,λb h g=>?_) O ?_<|(q5 B J).back C
 .by_cases m:b∈u;.show jB<|C.sh.free<|G b m
  .rw[vU m]at g;show C.gr b h g
 .change qA K _ t (el<|(rs).map λr=>b8<|zU r) (cx p) [p];rw[P];show x4 h1 (by rw[vU I];show B.sub.free J)<|PD ?_ λz s=>?_;.rw[←M];show mCq λz s=>L z s
  .rw[L z s,E z s];show h2 z s
set_option tactic.hygienic true in
def YF(B:WJ K ta m):SK K (Ng (rLZ K) ta)<|kLZ m:=by
 intro H₀ Hf₀ Hf S σ H Fs av S' R e Q q;have(x,C,e):=oBq.mp e;have(rs,s,e):=oMq.mp e;cases e;show B R (ds:=x.1) (S':=x.2) C _ λHf1 H1 Fs1 vs E G z=>?_;have sh:∃n r,x.1=[d9<|n.map bo,d9<|r.map bo]/\aX n=aX r/\rs=bx (λx y=>[x,y]) n r:=by
  unfold Zp at s;split at s
  .rename_i as bs t;have(n,f1,f2):=oBq.mp s;have(r,I,u):=oBq.mp f2;split at u;.rename_i hl;cases u;show(n,r,by rw[t,uZ f1,uZ I],hl,rfl)
   .cases u
  .cases s
 have(n,r,t,hl,rfl):=sh;rw[t]at z;have(va,w1,rfl,J,L):=eC z;have(vb,w2,rfl,M,O):=eC L;have:=h8 O;subst this;have(a,P,rfl,U,g2):=l5 J;have(b,X,rfl,Y,g4):=l5 M;have u1:=qP g2;have u2:=qP g4;subst u1;subst u2;show(a,b,n,r,rfl,kc U,kc Y,hl,abL G E q)
def Nj(hl:SQ K te l):SK K (Ng (λxs H Q=>∃a ps rs,xs=[cx a]/\aX ps<64/\sN K H a (ps.map cx)/\Hh H ps rs/\(∀r∈rs,r≠[]) /\
  ∀p (t:Δ),H p=n_->dg t ps->t.map (vp H)=Fe rs->Q (cx p) (rG H p<|et<|t.map cx))<|uK te wV)<|KS l:=by
 intro H₀ Hf₀ Hf S σ H Fs av S' R e Q q;have(x,U,e):=oBq.mp e;have(u,X,e):=oBq.mp e;obtain⟨⟨G,y⟩,e⟩|e:=qe e
 .cases e;show hl R (ds:=x.1) (S':=x.2) U _ λHf1 H1 Fs1 Y vs1 L B h1 M=>?_;rw[Be X]at M;have(ps,rfl,C):=GU (m:=u) M;have I:=C.same B.sub;show(Y,ps,u,rfl,by rw[C.1,lMq]at y;show y,h1,I,G,λp t O P es=>?_);have(t4,R4,n1,n2,n3):=B.new (o:=et<|t.map cx) O;have same:∀b∈t,vp H1 b=vp Hf1 b:=λb J=>HJ<|B.sub _ _<|C.2 b<|P.mem_iff.mp J;have e3:(Fe u).map (λr=>b8<|zU r)=((Fe u).map zU).map b8:=by rw[mPq];rfl
  have q:∀n E s v F,zW Hf H Fs n E s->qI K H₀ Hf₀ n x.2 σ E s->qA K n E (el<|(Fe u).map λr=>b8<|zU r) v F->zQ H₀ H Fs s F->Q v E:=q;rw[e3]at q;show q _ _ _ (cx p) [p] (hU L t4) R4 (x4 pW n1<|PD ?_ λz hz=>C.2 z<|P.mem_iff.mp hz)<|(q5 B O).back L;rw[←es];show mCq λb J=>fQ<|same b J
 .cases e
end Z
namespace Mo
open PySem PyProof.Rows Mr
def Ql:mQ (iD "list") "keys" = pure n_:=by rw[mU,mz];kernel_rfl
section
variable {E:Ψ}
def WO{xs:Ω}{sl:Array Υ}{Q:Ψ}(x:c7 (b7 s) l=aK { cls:=iD "list", dict:=n_,data:=k6 xs k,slots:=sl })(z:lL A=n_)
  (h:∀t tk e,ki s.heap t e "AttributeError" -> E (ao e) { s with heap:=t,toks:=tk }):kE (kG prog w) A (aeK (ao l) (BI "keys" u) f_) Q E s:=by
 have(B,g,d,tk,os):=s;have y:∀n,j7 ((B,g,d,n,os):Shared) (ao l) "list" := λZ=>(_,x,rfl);have f1:=mV;have C:=aAf F.slot_list_getattribute;have G:=F.slot_list_getattribute.bind<|ao l;have H:=am_list_getattr_none;unfold aeK;repeat (any_goals (first|assumption|show y _|((with_reducible change kE _ _ (call (kj "list.__getattribute__") _ _) _ _ _);show mv F.slot_list_getattribute (y _) am_entry_list_getattribute (F.args_list_getattribute_2 _ _) (meets_getattribute_miss_list l xs k sl "keys" _ Ql<|by trivial) (x,z,λt n e r=>?_))|wp_step))
 have(I,J,L):=r.there;change kE _ _ (mW _ _ _ _ _ _ _) _ _ _;unfold mW;repeat (any_goals (first|assumption|wp_step))
 show h _ _ _ r.of
def Vi{xs:Ω}{Q:Υ->Shared->Prop}(x:PlainL s.heap l xs)(G:lL A=n_)
  (h:∀r tk,(∀b o,c7 (b7 s) b=aK o->c7 r b=aK o)->Q n_ { s with heap:=r,toks:=tk }):kE (kG prog w) A (getAttr? (ao l) "keys") Q E s:=by
 have((c,y,z,B),k,x,t,hd,n):=x;simp only at t n hd;subst t n hd;unfold getAttr? getAttrBy?;have(H,g,d,tk,os):=s;have f1:=mV;repeat (any_goals (first|assumption|(with_reducible show WO (xs:=xs) (k:=k) (sl:=B) ?_ ?_ ?_)|wp_step))
 intro r u e q;have(o,k,C,t,_):=q.there;show kC<|oi (T:= "AttributeError") (b:=t_) (_,C,t) f1 ?_;show kF<|h r u q.keeps
end
section
variable {prog:kJ}{w:kM}{A:Around}{E:Ψ}{s:Shared}{K:Type}[DecidableEq K]{knd:KeyKind prog w K}{qs:Δ}{us:Ξ}
def XZ(hh:lL A=n_)(nI:l≠I)(nd:I≠d)(ld:l≠d)(hq:∀q∈qs,q≠I/\q≠d)(hk:∀(j:Nat) u,us[j]?=aK u->∃k,ks[j]?=aK k/\knd.is k u=t_)(M:aX us=aX qs)(hlen:aX us=aX ws)(hsz:aX us<=kK) :
  ∀m j i s,aX us-j=m->j<=aX us->hH (b7 s) I l j/\pj (b7 s) l (b9<|qs.map ao)->(∀(j:Nat) q u v,qs[j]?=aK q->us[j]?=aK u->ws[j]?=aK v->rT (b7 s) q #[u,v])->s.heap.DictOf knd d (fz ks ws j) ->
   (∀t tk,t.DictOf knd d (fz ks ws<|aX us)->(∀b o,b≠I->b≠d->c7 (b7 s) b=aK o->c7 t b=aK o)->R (T3<|pG gX) { s with heap:=t,toks:=tk }) ->
   mq (kG prog w) A (x8 "dict.update.loop" ([ao d,ao I,iT i 0,gX],[])) R s:=by
 have W:=pa (prog:=prog) (w:=w) (A:=p9 A) hh I l nI<|b9<|qs.map ao;have vl:(qs.map ao).toArray.size=aX us:=by simp[M]
 intro m;induction m with
 |zero=>
  intro j i s hm hj S tp dd O;have C:j=aX us:=by lia
  show kY Cw ?_;rw[eo wx _];change kE _ A.in1 (lZ (ao I) >>= _) _ _ s;show kC<|W.done _ _ _ (by rw[vl,←C];show S) λt x kp=>?_;change kE _ A.in1 (t8 d [] >>= _) _ _ _;show kC<|kF<|kF<|O t x ?_ λb o b1 Z e=>kp b o (by simpa using b1) e;subst C;have(o,P,Q,y,r):=dd;show(o,P,Q,kp d o (by simpa using h7 nd) y,r)
 |succ m ih=>
  intro j i s hm hj S tp dd O;obtain⟨u,hu⟩:∃u,us[j]?=aK u:=(_,gEg ∅);obtain⟨v,hv⟩:∃v,ws[j]?=aK v:=(_,gEg ∅);obtain⟨q,G⟩:∃q,qs[j]?=aK q:=(_,gEg ∅);have(k,U,X):=hk j u hu;show kY Cw ?_;rw[eo wx _];change kE _ A.in1 (lZ (ao I) >>= _) _ _ s;show kC<|W.item j _ _ _ ∅ S λz t x hP S' kp=>?_;have ez:z = ao q:=by
   have:(qs.map ao)[j]?=aK z:=by simpa using hP
   rw[gMq,G]at this;show(aK.inj this).symm
  subst ez;have B:∀b o,b≠I->c7 (b7 s) b=aK o->c7 t b=aK o:=λb o b1 e=>kp b o (by simpa using b1) e;have Y:t.DictOf knd d<|fz ks ws j:=by have(o,P,Q,y,r):=dd;show(o,P,Q,B d o nd.symm y,r)
  have H:∀(j:Nat) (q:Addr) (u v:Value),qs[j]?=aK q->us[j]?=aK u->ws[j]?=aK v->rT t q #[u,v]:=λj q u v a b c=>by have(o,y,tG):=tp j q u v a b c;show(o,B q o (hq q<|mGq a).1 y,tG)
  show kC<|kX ?_;have(o,hT,hc,n,hdt):=H j q u v G hu hv;have tT:j7 { s with heap:=t,toks:=x } (ao q) "tuple" := (_,hT,hc);show kC<|lM ?_;unfold w6;show kC<|mi tT ?_;rw[qz<|by rfl];show kC<|lU hT hdt ?_;show kF ?_;show kX ?_;show adO (hsz:=by have:=Vz ks ws j;lia) X Y λh2 J L=>?_;rw[←QK U hv]at J;show kF (lD wx _,ih (j+1) (i+1) _ ∅ ∅ (S'.1.at λo e=>i6 L I o nd e,S'.2.at λo e=>i6 L l o ld e) (λj q u v a b c=>?_) J λh3 tk3 dd3 kp3=>?_);.have(o,y,tG):=H j q u v a b c;show(o,i6 L q o (hq q<|mGq a).2 y,tG)
  .show O h3 tk3 dd3 λb o b1 b5 e=>kp3 b o b1 b5<|i6 L b o b5<|B b o b1 e
def X1{Q:Ψ}(hh:lL A=n_)(hl:PlainL s.heap l<|b9<|qs.map ao)(tp:∀(j:Nat) q u v,qs[j]?=aK q->us[j]?=aK u->ws[j]?=aK v->rT (b7 s) q #[u,v])
  (hk:∀(j:Nat) u,us[j]?=aK u->∃k,ks[j]?=aK k/\knd.is k u=t_) (O:aX us=aX qs) (H:aX us=aX ws) (hsz:aX us<=kK)
  (h:∀P tk,P.DictOf knd s⁻¹ (fz ks ws<|aX us)->(∀b o,c7 (b7 s) b=aK o->c7 P b=aK o)->Q (ao s⁻¹) { s with heap:=P,toks:=tk }) :
  kE (kG prog w) A (call (iD "dict") [ao l]) Q E s:=by
 show aar (Q₁:=λobj B=>obj = ao s⁻¹/\B={ s with heap:=ig (b7 s) { cls:=iD "dict", data:=x6 #[] } }) aBl (aAy _) aB9 (kt_code_dict_new _ (rfl,rfl)) ?_;rintro obj B ⟨rfl,rfl⟩;have t:(ig (b7 s) { cls:=iD "dict", data:=x6 #[] }).DictOf knd s⁻¹ []:=jD.new<|b7 s;show(t.typeIs,aB5 _ _,?_);have up:∀b o,c7 (b7 s) b=aK o->c7 (ig (b7 s) { cls:=iD "dict", data:=x6 #[] }) b=aK o:=λb o e=>aa _ e;have J:l<s⁻¹:=hl.lt;have hT:j7 { s with heap:=ig (b7 s) { cls:=iD "dict", data:=x6 #[] } } (ao l) "list" := by have(o,n,x,hc,_):=hl;show(_,up _ _ x,hc)
 unfold Builtin.«dict.__init__»;show kC ?_;unfold t9;show kC<|oH t.typeIs ?_;change kE _ _ (pure %[s⁻¹|[ao l]]) _ _ _;show kF ?_;change kE _ _ (m3 "dict.__init__" s⁻¹ (ao l) [] gX) _ _ _;unfold m3;show kC<|mi hT ?_;rw[qz<|by rfl];show kC<|Vi (hl.keeps up) (by simp[hh]) λG tk3 C=>?_;rw[qz<|by rfl];show kC<|nX ?_;have kp:∀b o,c7 (b7 s) b=aK o->c7 G b=aK o:=λb o e=>C b o<|up b o e;have L:pj G l<|b9<|qs.map ao:=eQ<|hl.keeps kp;have y:s⁻¹<G.objs.size:=by have(o,es,ep,x,r):=t;show ae<|C _ _ x
 show kC<|mD L ?_;have z:∀b o,c7 G b=aK o->c7 (ig G { cls:=iD "list_iterator", data:=fT #[ao l,iT 0 0] }) b=aK o:=λb o e=>aa _ e;have S:(ig G { cls:=iD "list_iterator", data:=fT #[ao l,iT 0 0] }).DictOf knd s⁻¹<|fz ks ws 0:=by have(o,es,ep,x,r):=t;show(o,es,ep,z _ _<|C _ _ x,r)
 have tl:∀q∈qs,q<s⁻¹:=λq M=>by have(j,hj):=aj.mp M;have jl:=(gSq.mp hj).1;have(o,x,_):=tp j q _ _ hj (gEg (by ac_nf:j<us.length))<|gEg (by lia:j<ws.length);show ae x
 show kF (lD wx _,XZ (by simp[hh]) (ar<|iF J y) (aY y) (ar J) (λq M=>(ar<|iF (tl q M) y,ar<|tl q M)) hk O H hsz (aX us) 0 0 _ (gU _) (aH _) ((_,aA _ rfl,rfl,rfl),L.at λo e=>z _ o e) (λj q u v a b c=>?_) S λh4 U X Y=>(rfl,h h4 U X λb o e=>?_));.have(o,x,tG):=tp j q u v a b c;show(o,z _ _<|kp _ _ x,tG)
 .have lt:=ae e;show Y b o (ar<|iF lt y) (ar lt)<|z _ _<|kp _ _ e
end
end Mo
namespace Mr
open PySem PySem.W PySem.Spec PyProof.Rows L2 Mo
def rDP(K:Ζ)(xs:List V)(H:Hp)(Q:VK):Prop:=∃(a:Addr) (ps:Δ) (ns ms:Ϝ),xs=[cx a]/\sN K H a (ps.map cx)/\Hh H ps (bx (λx y=>[x,y]) ns ms)/\aX ns=aX ms/\∀l,H l=n_->Q (cx l) (rG H l<|nB<|fv ns ms)
def ae2(hc:X.calm=t_)(gl:Gl X "dict")(ml:X.mg "dict" = n_)(ha:PA X [e] ta)
  (he:↑(kO [e] X.env=%[f_|eval e<|iI X]::kO [] X.env)) :
  PE X (m8 (g9 "dict" p0) [e] [] B)<|Ng (rDP X.K) ta:=by
 intro oO s σ H Q I h;show Call_<|wX I gl ml boot_dict (bC (ua (ha B oO s σ H _ I h) λr Y hz1=>?_) he<|by rfl) ⋯<|by rfl
 have(vs,H1,E,r1,q1):=hz1;have(a,ps,l,z,e1,hq1,(L,hE2),hl,q):=q1;subst e1;have(u,rfl,M):=vL r1;cases M;have(its,rv,pl,hz):=oG E hq1;have ei:=uC rv;subst ei;have lp:aX ps=aX l:=by have:=congrArg aX L;rw[fM,lMq]at this;lia
 have at_:∀(j:Nat) (q:Addr) (n m:Int),ps[j]?=aK q->l[j]?=aK n->z[j]?=aK m->vp H1 q=[n,m]:=λj q n m a b c=>by have:=congrArg (·[j]?) L;simp?[cE,gMq,a,b,c,bJ]at this;show(aK.inj this).symm
 obtain⟨r,y,vu,vw,hus⟩:∃r y:Ξ,qr (l.map c8) r/\qr (z.map c8) y/\∀(j:Nat) (q:Addr) (u v:Value),ps[j]?=aK q->r[j]?=aK u->y[j]?=aK v->rT (b7 Y) q #[u,v]:=by
  have key:∀k,k<=aX ps->∃r y:Ξ,qr ((l.take k).map c8) r/\qr ((z.take k).map c8) y/\∀(j:Nat) (q:Addr) (u v:Value),ps[j]?=aK q->r[j]?=aK u->y[j]?=aK v->rT (b7 Y) q #[u,v]:=by intro k;induction k with
   |zero=>show λZ=>([],[],j8,j8,λj q u v Z h=>by simp at h)
   |succ k ih=>
    intro hk;have(r,y,O,P,h):=ih<|by rfl'
    have C:ps[k]?=aK ps[k]:=gEg<|by rfl'
    have R:l[k]?=aK l[k]:=gEg<|by omega
    have S:z[k]?=aK z[k]:=gEg<|by omega
    have(its,rt,pt,_):=E.tuple<|o8<|hE2 ps[k]<|mGq C;rw[at_ k _ _ _ C R S]at rt;have(u0,v0,rfl,M,rv0):=qr.two rt;have l1:aX r=k:=by rw[←iL O,lMq,lTq];lia
    have l2:aX y=k:=by rw[←iL P,lMq,lTq];lia
    show(r++[u0],y++[v0],?_,?_,λj q u v a1 G J=>?_);.rw[fg,R,iq,mBq];show GH O<|hL M j8
    .rw[fg,S,iq,mBq];show GH P<|hL rv0 j8
    rw[List.getElem?_append]at G J;split at G;.rw[qz ∅]at J;show h j q u v a1 G J
    .rw[qE ∅]at J;have ej:j=k:=by have:=(gSq.mp G).1;simp at this;lia
     cases ej;rw[C]at a1;cases a1;simp[l1]at G;simp[l2]at J;subst G J;show pt
  have(r,y,O,P,h):=key _<|ab _;rw[bV<|by ac_nf]at O P;show(r,y,O,P,h)
 have lu:=iL vu;have lw:=iL vw;rw[lMq]at lu lw hz;show X1 (knd:=rK X.prog X.w) (ks:=l.map ak) (us:=r) (ws:=y) (E.ok.hd hc) pl hus (λj u hu=>?_) ∅ ∅ ∅ λh' tk dd kp=>?_
 .have hj:j<aX l:=by have:=(gSq.mp hu).1;lia
  have(u',U,M):=vu.get (i:=j) (x:=c8 l[j])<|by rw[gMq,gEg hj];rfl
  rw[hu]at U;cases U;have(t,rfl):=M;show(ak l[j],by rw[gMq,gEg hj];rfl,E8 _ t)
 .have kv:KV (fv l z)<|fz (l.map ak) y<|aX r:=by have:=Kg l z y [] [] vw j8;unfold fz;rw[bV<|by rw[eZ,lMq];lia];show this
  show(cx Y⁻¹,rG H1 Y⁻¹<|nB<|fv l z,E.laid (t':=tk) kp (ab _)<|Kk (by have:=WA l z;lia) (e8 beq_eq_false_iff_ne<|aY E.big) kv dd,rfl,q _<|l6 (t7 E)<|ab _)
end Mr
namespace Z
open PySem L2 Mr
def kDP(l:ML):MK:=λS=>cc (l S) λx=>cc (zo x.1) λrs=>wa (∀r∈rs,aX r=2) (aK %[eu (dz (rs.map (dk · 0 0)) (rs.map (dk · 1 0)))|x.2])
def agd(l)S:kDP l S=cc (l S) λx=>cc (zo x.1) λrs=>wa (∀r∈rs,aX r=2) (aK %[eu (dz (rs.map (dk · 0 0)) (rs.map (dk · 1 0)))|x.2]):=rfl
theorem adv:∀{rs:Λ},(∀r∈rs,aX r=2)->bx (λx y=>[x,y]) (rs.map (dk · 0 0)) (rs.map (dk · 1 0))=rs
 | [],_=>rfl
 | [a,b]::rs,h=>by simp?[ax,ax,List.zipWith_cons_cons,adv λr hr=>h r<|mCo _ hr];rfl
 | []::rs,h=>by simpa using h [] (ai ..)
 | [_]::rs,h=>by simpa using h [_] (ai ..)
 | (_::_::_::_)::rs,h=>by simpa using h _ (ai ..)
def aey(hl:SQ K te l):SK K (Ng (rDP K)<|uK te wV)<|kDP l:=by
 intro H₀ n L S σ H M O P R e Q q;have(x,u,e):=oBq.mp e;have(rs,y,e):=oBq.mp e;obtain⟨h2,e⟩|e:=qe e;.cases e;show hl R (ds:=x.1) (S':=x.2) u _ λz U Fs1 B C s r h1 t=>?_;rw[Be y]at t;have(ps,rfl,E):=GU (m:=rs) t;show(B,ps,rs.map (dk · 0 0),rs.map (dk · 1 0),rfl,h1,by rw[adv h2];show E.same r.sub,by simp,λl hn=>?_);have(G,I,J,X,Y):=r.new (o:=nB (fv (rs.map (dk · 0 0)) (rs.map (dk · 1 0)))) hn;show q _ _ _ (cx l) [l] (hU s G) I (.owd pW J<|UJ _ _)<|(q5 r hn).back s
 .cases e
end Z
namespace Z
open PySem PySem.Spec PyProof.Rows L2 Mr
abbrev dP(c:Λ):D:=d9<|c.map zU
def aei r:Fq 1 (zU r)<|m4 r:=.tup ⋯ λi d p h1 h2=>by simp?[gMq,oMq]at h1 h2;have(a,n,rfl):=h1;have(b,l,rfl):=h2;rw[n]at l;cases l;show .int
def ad2 c:Fq 2 (dP c)<|.list<|c.map m4:=.list ⋯ λi d p h1 h2=>by simp?[gMq,oMq]at h1 h2;have(a,n,rfl):=h1;have(b,l,rfl):=h2;rw[n]at l;cases l;show aei a
end Z
namespace Mr
open PySem PySem.W L2 PySem.Calls
open PySem.Spec PyProof.Rows
noncomputable def Jz(X:Cx)(A:Around)(N:List Str)(qual:Str)(scope:lX)(f:Addr)(cd:Value)(cl:List<|Str×Addr)(s:Shared)(H:Hp):Cx where
 prog:=eT X
 w:=X.w
 K:=X.K
 mg:=X.mg
 base:=X.base
 A:=rp A (envX qual scope s⁻¹ f cd cl)
 N:=N
 s₀:=s
 H₀:=H
 env:=envX qual scope s⁻¹ f cd cl
 outer:=we X
 stack:=envX qual scope s⁻¹ f cd cl::we X
 ex:=[]
 calm:=t_
 fn:=λQ=>f_
 pn:=[]
 xe:=λQ Q=>False
structure FN (X:Cx)(x m:Str)(scope:lX)(cl:List<|Str×Addr):Prop where
 kind:scope.kind = .function
 co:scope.isCoroutine=f_
 gen:scope.isGenerator=f_
 nocell:∀y∈scope.names,y.2 ≠ .cell
 xl:scope.names.lookup x=aK .local
 ml:scope.names.lookup m=aK .free
 fr:∀y,scope.names.lookup y=aK .free->y=m
 cl:∃c,cl=[%[m|c]]/\X.env.cells.lookup m=aK c
 vis:X.env.kindOf m=aK .cell
def FN.look{cl}(L:FN X x m scope cl)(h:cl.lookup y=aK c):y=m/\X.env.cells.lookup m=aK c:=by have(l,e,h2):=L.cl;subst e;rw[fF]at h;cases q:y == m with
 |true=>rw[q]at h;cases h;show(beq_iff_eq.mp q,h2)
 |false=>rw[q]at h;cases h
def Tv{σ:St}{i:Nat}(I:Inv X Q σ H s)(L:FN X x m scope cl)(hd:lL A=n_)(R:x3 A=x3 X.A)
  (S:X.N[i]?=aK m) (U:σ[i]?=aK (aK B)) (Y:qW v u) (E:C.Ns s⁻¹<|λy=>([%[x|u]]:List<|Str×Value).reverse.lookup y) (hk:∀b o,c7 (b7 s) b=aK o->c7 C b=aK o) :
  Inv (Jz X A [x,m] qual scope f cd cl s H) [] [aK v,aK B] H { s with heap:=C,toks:=tk }:=by
 have l:=I.env0;have n:∀b:Addr,b∉(Jz X A [x,m] qual scope f cd cl s H).ex:=λb z=>absurd (show b∈([]:Δ)from z) ⋯;have(mm,hn,hl):=I.loc;have G:Vis X.env.scope m:=ir<|jB L.vis;have(um,rm,lm):=hl i m B S U G;have hxm:m≠x:=λz=>by have:=L.xl;rw[←z,L.ml]at this;cases this
 show((l.mod,L.kind,rfl,rfl,ab _,λy z c h1 h2=>?_,λy r=>?_,λy c z Z=>(by cases z),λZ=>hd,?_,ir (rfl,rfl),λb z=>absurd z<|n b,l.bs,l.bsz,λb Z Z=>n b,λb z=>absurd z<|n b,l.funs,l.frf,l.tb),
  rfl,l.bare,Un.kept hk,(_,E,λj y O h1 h2 h3=>?_),λy c h=>?_,l6 l.hok<|ab _,λy c h=>?_,λp hp=>absurd (show p∈([]:Φ)from hp) ⋯,l.hok.kept hk,rfl);.rw[(L.look h1).1,(L.look h2).1]
 .have r:scope.names.lookup y=aK o6∨scope.names.lookup y=aK p4:=r;obtain r|r:=r;.show absurd rfl<|L.nocell _<|eL r
  .have(c,e,_):=L.cl;show(c,?_);change cl.lookup y=aK c;rw[L.fr y r,e,fF];simp
 .show Uh<|eI R I.ok.frames
 .have hj:j=0∨j=1:=by cases j with
   |zero=>show jB rfl
   |succ j=>cases j with
    |zero=>show ir rfl
    |succ j=>show absurd h2 ⋯
  obtain rfl|rfl:=hj;.cases h1;cases h2;show(u,Y,jB (L.xl,by simp))
  .cases h1;cases h2;show(um,rm,ir (ir L.ml,?_));have(c,e,J):=L.cl;show(c,?_,?_);.change cl.lookup m=aK c;rw[e,fF];simp
   .obtain⟨k,_⟩|⟨_,c2,P,o,M,t⟩:=lm;.rw[L.vis]at k;cases k
    .rw[J]at P;cases P;show(o,hk _ _ M,t)
 .have(_,J):=L.look h;have(O,o,M,t):=I.cell m c J;show(O,o,hk _ _ M,t)
 .show I.freeC m c (L.look h).2
def ZW{σ:St}{E':Ψ}{i:Nat}
  (I:Inv X Y σ H s) (L:FN X x m scope cl) (hr:uF (k+1) A) (hA:A.frames=X.A.frames) (hm:X.N[i]?=aK m) (hv:σ[i]?=aK (aK vm)) (ru:qW v u)
  (ho:s.heap.get? f=aK (kla_obj "<lambda>" qual l body scope cl pm n C)) (S:s.heap.CodeRec (.ref n) qual)
  (hb:adE (kla_fn "<lambda>" qual l body scope cl pm (.ref n) C) ([u],[])=pure [%[x|u]])
  (ht:uF k (Jz X A [x,m] qual scope f (.ref n) cl s H).A->PE (Jz X A [x,m] qual scope f (.ref n) cl s H) body t) (h:t [aK v,aK vm] H Q) :
  kE (kG X.prog X.w) A (call (.ref f) [u]) (EP X Y σ Q) E' s:=by
 have lim:s.heap.NoLimit:=I.nolimit;show wpAny_call<|mZ (R:=λr O=>match r with|.ok (.ret u')=>CE X.stack X.prog X.w H s Q u' O|_=>False) (kla_callFunE hr.depth ho rfl L.co L.gen rfl S ?_) λr O E=>?_;.rw[hb];show kF<|acJ L.nocell (λy hy=>by rw[mSq.mp hy];show L.xl) (λG U M=>(lim.fresh _ M,?_)) L.kind;have B:∀b o,s.heap.get? b=aK o->G.get? b=aK o:=λb o e=>M.extBut b o (ar<|ae e)<|aa _ e;change mq _ _ (.expr body<|envX qual scope s⁻¹ f (.ref n) cl) _ _;have J:=Tv (A:=A) (qual:=qual) (f:=f) (cd:=.ref n) (tk:=s.toks+1) I L hr.hd hA hm hv ru U B;show kla_codeExpr<|lj (ht (hr.deeper _) [] _ _ H Q J h) (λv' O hs=>?_) λe O z=>z.elim;have(w,H',P,rv,q):=hs;show(w,H',P.os,P.bare,P.base,P.hok,rv,q)
 .cases r with
  |error e=>show E.elim
  |ok fl=>cases fl with
   |ret u'=>show I.after E
   |next=>show E.elim
   |brk=>show E.elim
   |cont=>show E.elim
def OI{pos:Pos}(l:Ξ)(h:TriplesOk l)(hn:nU p (l++[oj pos.line,oj pos.col,c])=aK n):nU p l=aK n∨n=c:=by fun_induction TriplesOk l with
 |case1=>
  simp?[gO,nU,oj]at hn;split at hn;.show ir<|fQ<|aK.inj hn
  .cases hn
 |case2 a t b u x tG s=>
  simp?[fE,nU]at hn ⊢;split at hn;.rename_i r;rw[qz r];show jB hn
  .rename_i r;rw[qE r];show s h hn
 |case3 l h1 h2=>show hD h
def U1{σ:St}{E:Ψ}{Q:Ψ}
  (I:Inv X oO σ H s) (t:X.env.code = ao c) (C:codeHdIn X.K c P=t_) (U:%[P|X.env.qual ++ "<lambda>"]∈wD X.K) (J:defaultsOf l X.env=%[[]|[]]) (Y:adl scope X.env=pure cl)
  (h:∀(f y:Addr) L (vs:Ω) S r H' B tk,Inv X oO σ H' { s with heap:=B,toks:=tk }->(∀b o,H b=aK o->H' b=aK o)->H' y=aK (pT L<|.own P)->vr L = fT vs->vs[1]?=aK (BI (X.env.qual ++ "<lambda>") S) ->
   s⁻¹<=f->H' f=n_->c7 B f=aK (kla_obj "<lambda>" (X.env.qual ++ "<lambda>") l body scope cl (rh (X.mg "__name__") gX) y r)->Q (ao f) { s with heap:=B,toks:=tk }) :
  kE (kG X.prog X.w) A (eval (.Lambda l body scope pos)<|iI X) Q E s:=by
 have hP:H P=aK (.tbl<|X.env.qual ++ "<lambda>"):=I.tb _ U;have C:CodeHd X.base c P:=codeHd_of_K I.mod.kin C;have(ps,hPs,ht,hbk):=t7 I P _ hP;have hg:s.heap.Ns kN X.mg:=I.mod.glob.keeps I.bk;have hgP:kN≠P:=λz=>by have(o,es,ep,e,_):=I.mod.glob;have:=(I.bs _ _ e).2;rw[z,hP]at this;cases this
 have hB':s.heap.BuiltinsAt X.mg P:=by
  have(bm,o,b1,b2,b3,b4,b5,b6):=I.mod.bmod;show(bm,o,b1,b2,λz=>?_,λz=>?_,I.bk _ _ b3,b4,b5,b6);.have(o',es,ep,e,d,_):=I.mod.glob;rw[z,e]at b3;cases b3;rw[d]at b6;cases b6
  .have:=(I.bs _ _ b3).2;rw[z,hP]at this;cases this
 cases hc:nU pos<|km ps with
 |some cv=>have(b,L,vs,S,e1,e2,e3,e4):=hbk pos cv hc;subst e1;show kla_eval J<|kla_makeFunctionHit (mg:=X.mg) Y I.ok.glob hg t (C.keeps I.bk) hPs ht hc hB' λr B tk hk x=>?_;show h B.objs.size b L vs S r H _ tk (I.un (Un.kept λb o e=>aa _<|hk b o e)<|I.hok.kept λb o e=>aa _<|hk b o e) (λZ Z e=>e) e2 e3 e4 x ?_<|aA _ rfl;show l6 (t7 I) x
 |none=>
  show kla_eval J<|kla_makeFunction (mg:=X.mg) Y I.ok.glob hg t (C.keeps I.bk) hPs ht hc hgP hB' λy r B tk hx O hlt hrec htb=>?_;have(c₂,L,vs,S,e2,hoc,hd,hv):=hrec;cases e2;have hn:H y=n_:=l6 (t7 I) O;have kp:∀b o,b≠P->c7 (b7 s) b=aK o->c7 (ig B<|kla_obj "<lambda>" (X.env.qual ++ "<lambda>") l body scope cl (rh (X.mg "__name__") gX) y r) b=aK o:=λb o R e=>aa _<|hx b o R e;have nP:∀b,H b=n_->b≠P:=λb n z=>by rw[z,hP]at n;cases n
  have M:∀b u,H b=aK u->b≠y:=λb u e=>ri e hn;have x:s⁻¹<=B.objs.size:=bH O<|bQ hlt;show h B.objs.size y L vs S r (rG H y<|pT L<|.own P) _ tk (I.un (λb o e n Z Z=>kp b o (nP b n) e,λb o e n Z Z=>(aA6 o,kp b o (nP b n) e),λb o e n Z=>?_,λb o e Z=>?_,λb xs e=>?_,λb o u e=>?_,λb q e=>?_) λb u e=>?_) (λb o e=>?_) pW hd hv x ?_<|aA _ rfl;.rw[pI<|ar<|aT (ae e) O];show n
  .by_cases R:b=P;.cases R;show(_,aa _ htb)
   .show(o,kp b o R e)
  .rw[pI<|M _ _ e];show e
  .rw[pI<|M _ _ e];show e
  .rw[pI<|M _ _ e];show e
  .by_cases R:b=y;.cases R;rw[pW]at e;cases e;show(aa _ hoc,(_,aa _ hoc))
   .rw[pI R]at e;by_cases hb2:b=P
    .cases hb2;rw[hP]at e;cases e;show(_,aa _ htb,?_,λp cv hcv=>?_);.rw[jb];show TriplesOk_snoc _ _ _ _ ht
     .rw[jb]at hcv;obtain z|z:=OI (km ps) ht hcv;.have(b2,oc2,vs2,tq2,z1,z2,z3):=hbk p cv z;show(b2,oc2,vs2,tq2,z1,by rw[pI<|M _ _ z2];show z2,z3)
      .show(y,L,vs,S,z,pW,hd,hv)
    .show(t7 I b u e).stay (λb2 v G q=>kp b2 v ?_ q) (λb2 q=>?_) (λb2 xs q=>?_) λb2 o q=>?_
     .obtain rfl|G:=G;.show hb2
      .intro z;rw[z,hP]at G;cases G
     .rw[pI<|M _ _ q];show q
     .rw[pI<|M _ _ q];show q
     .rw[pI<|M _ _ q];show q
  .rw[pI<|M _ _ e];show e
  .rw[pI<|aY hlt];show l6 (t7 I) x
def Nz{K}(s:qk H l)(h:zd K H a xs):zd K l a xs:=by
 obtain h|h:=h
 .obtain h|⟨o,h⟩:=h;.show jB<|jB<|s _ _ h
  .show jB<|ir (o,s _ _ h)
 .show ir h
def Ai.same{K}(s:qk H l)(h:Ai K H p c):Ai K l p c:=by have(n,h1,h2,t):=h;show(n,Nz s h1,h2,λi q r u x=>Nz s<|t i q r u x)
def L5(K:Ζ)(n:V->Hp->VK->Prop):List V->V->Λ->Hp->VK->Prop
 | [],r,_,H,Q=>Q r H
 |x::xs,r,s,H,Q=>n x H λv l=>qk H l/\∃p c,v = cx p/\Ai K l p c/\(if eP c s=t_ then L5 K n xs x c l Q else L5 K n xs r s l Q)
def Wc(X:Cx)(l:Φ)(σ:St)(A:Around)(H0:Hp)(f:Addr)(fo:Obj)(n:V->Hp->VK->Prop):Prop:=∀more H s v u Q,Inv X (l++more) σ H s->qk H0 H->c7 (b7 s) f=aK fo->qW v u->n v H Q ->
  kE (kG X.prog X.w) A (call (ao f) [u]) (EP X (l++more) σ Q) (λZ Z=>False) s
structure W6 (X:Cx)(oO:Φ)(H:Hp)(h:Heap)(I S f:Addr)(oI so fo:Obj):Prop where
 fI:wy X oO H I
 fS:wy X oO H S
 ff:wy X oO H f
 hI:h.get? I=aK oI
 hS:h.get? S=aK so
 hf:h.get? f=aK fo
def M3(turn:Wc X l σ A H0 f fo C)(J:Inv X l σ H s)(O:W6 X l H s.heap I S f n so fo)
  (P:∀v,vr n ≠ n8 v) (R:∀v,vr so ≠ n8 v) (cf:∀v,vr fo ≠ n8 v) (U:qk H0 H) (r:qW v u) (h:C v H Q) :
  kE (kG X.prog X.w) A (call (ao f) [u]) (λE B=>∃x t,Inv X l σ t B/\qW x E/\Q x t/\W6 X l t B.heap I S f n so fo) (λZ Z=>False) s:=by
 have Y:Inv X (l++[%[I|n],%[S|so],%[f|fo]]) σ H s:=J.pins_of λp hp=>by
  obtain z|z:=mAq.mp hp;.show J.pin p<|ay _ z
  .simp?[ag,bZ,or_false]at z;obtain rfl|rfl|rfl:=z;.show(O.hI,O.fI.1,O.fI.2.1,O.fI.2.2.1,P)
   .show(O.hS,O.fS.1,O.fS.2.1,O.fS.2.2.1,R)
   .show(O.hf,O.ff.1,O.ff.2.1,O.ff.2.2.1,cf)
 show lj (turn _ H s v u Q Y U O.hf r h) (λE B hq=>?_) λZ Z e=>e;have(x,t,y,rv,q):=hq;have G:=y.pin %[I|n] ⋯;have L:=y.pin %[S|so] ⋯;have M:=y.pin %[f|fo] ⋯;show(x,t,y.unpinned,rv,q,(G.2.1,O.fI.2),(L.2.1,O.fS.2),(M.2.1,O.ff.2),G.1,L.1,M.1)
def On(hh:lL A=n_)(hu:ic A+64<lg)(turn:Wc X M σ A.in1 H0 f fo kq)(cf:∀v,vr fo ≠ n8 v)(hlI:a≠I)(P:S≠I)(hfI:f≠I)(hfS:f≠S) :
  ∀r j H s xb ub pb cb c oI,aX xs-(j+1)=r->j+1<=aX xs->Inv X M σ H s->qk H0 H->sN X.K H a xs->W6 X M H s.heap I S f oI (kL "list" #[ub,ao pb] c) fo->hH (b7 s) I a (j+1)->qW xb ub ->
   Ai X.K H pb cb->L5 X.K kq (xs.drop<|j+1) xb cb H Q ->
   mq (kG X.prog X.w) A (x8 "min.loop" ([ao I,ao f,ao S],[])) (λr s'=>match r with|T3 (pG u)=>EP X M σ Q u s'|_=>False) s:=by
 have y:(toString "min" ++ toString ".loop" : String) = "min.loop" := by rfl
 intro r;induction r with
 |zero=>
  intro j H s xb ub pb cb c oI hr hj J s0 hS O hit rb hcb hM;have hin:j+1=aX xs:=by lia
  have(l,rv,pl,hz):=oG J hS;have hsz:l.toArray.size=aX xs:=by rw[aq];show fQ<|iL rv
  have W:=pa (prog:=eT X) (w:=X.w) (A:=p9 A) hh I a hlI<|b9 l;show kY gj ?_;simp?[eo cM _];change kE _ A.in1 (nT (ao S) >>= _) _ _ _;show kC<|lU O.hS rfl ?_;change kE _ A.in1 (tryCatch (lZ<|ao I) _ >>= _) _ _ _;show kC<|lM<|W.done _ _ _ (by rw[hsz,←hin];show hit,eQ pl) λh' B n=>?_;have J1:Inv X M σ H { s with heap:=h',toks:=B }:=xq (fp:=[I]) J n λb C=>by rw[mSq.mp C];show O.fI
  have hS':=n S _ (by simpa using P) O.hS;have s1:=cP.update h' S<|cS λZ=>(#[]:Ω);change kE _ A.in1 (ox S (λZ=>#[]) >>= _) _ _ _;show kC ?_;show mh hS' rfl<|kC<|mr<|kF ?_;have J2:Inv X M σ H { s with heap:=fi h' S (cS λZ=>(#[]:Ω)),toks:=B }:=xq (s:={ s with heap:=h',toks:=B }) (fp:=[S]) J1 (λb o C e=>eI (s1.2 b<|λz=>C<|by simp[z]) e) λb C=>by rw[mSq.mp C];show O.fS
  rw[bU<|by ac_nf]at hM;show(xb,H,J2,rb,hM)
 |succ r ih=>
  intro j H s xb ub pb cb c oI hr hj J s0 hS O hit rb hcb hM;have E:j+1<aX xs:=by lia
  have(l,rv,pl,hz):=oG J hS;have hsz:l.toArray.size=aX xs:=by rw[aq];show fQ<|iL rv
  have W:=pa (prog:=eT X) (w:=X.w) (A:=p9 A) hh I a hlI<|b9 l;show kY gj ?_;simp?[eo cM _];change kE _ A.in1 (nT (ao S) >>= _) _ _ _;show kC<|lU O.hS rfl ?_;change kE _ A.in1 (tryCatch (lZ<|ao I) _ >>= _) _ _ _;show kC<|lM<|W.item (j+1) _ _ _ (by rw[hsz];show E) (hit,eQ pl) λv h' B hP hst' n=>?_;have hv:l[j+1]?=aK v:=by simpa using hP
  have(u2,hu2,rx):=rv.get (i:=j+1) (x:=xs[j+1])<|gEg E;rw[hv]at hu2;cases hu2;have(G,hoI',hoc,hod):=id hst'.1;have J1:Inv X M σ H { s with heap:=h',toks:=B }:=xq (fp:=[I]) J n λb C=>by rw[mSq.mp C];show O.fI
  have O1:W6 X M H h' I S f G (kL "list" #[ub,ao pb] c) fo:=(O.fI,O.fS,O.ff,hoI',n S _ (by simpa using P) O.hS,n f _ (by simpa using hfI) O.hf);rw[aC E]at hM;change kE _ A.in1 (tryCatch (aeU [v]<|call (ao f) [v]) _ >>= _) _ _ _;show kC<|lM<|kX<|lj (M3 turn J1 O1 (λv z=>by rw[hod]at z;cases z) (λv z=>by cases z) cf s0 rx hM) (λu' s2 he=>?_) λZ Z hF=>hD hF;have(v',H2,J2,rv2,(t,Y,ck,rfl,hck,R),L):=he;cases rv2;have hit2:hH (b7 s2) I a<|j+1+1:=(G,L.hI,hoc,hod);have k1:=Ck J2 hck;have k2:=Ck J2<|hcb.same t;change kE _ A.in1 (tryCatch (aeU [v,ao Y]<|nq .Lt (ao Y) (ao pb) >>= _) _ >>= _) _ _ _;show kC<|lM<|kX<|kC<|k1.lt k2 (A:=p9 A) (by change ic A+1+8<lg;lia) X.prog X.w _ _ ?_;show kC<|kX<|lJ ?_;show kC<|mr<|kF ?_;by_cases U:eP ck cb=t_
  .have s1:=cP.update s2.heap S<|cS λZ=>#[v,ao Y];obtain⟨c2,hc2⟩:∃c2,c7 (fi (b7 s2) S<|cS λZ=>#[v,ao Y]) S=aK (kL "list" #[v,ao Y] c2):=(_,lO L.hS λZ=>#[v,ao Y]);rw[qz U]at R;simp?[U,if_true];show kC ?_;show mh L.hS rfl<|kC<|mr ?_;rw[y];have J3:Inv X M σ H2 { s2 with heap:=fi (b7 s2) S (cS λZ=>#[v,ao Y]),toks:=nc s2 }:=xq (fp:=[S]) J2 (λb o C e=>eI (s1.2 b<|λz=>C<|by simp[z]) e) λb C=>by rw[mSq.mp C];show L.fS
   show kF (lD cM _,ih (j+1) H2 _ _ v Y ck c2 G ∅ E J3 (eM s0 t) (t.seq hS) (L.fI,L.fS,L.ff,eI (s1.2 I<|h7 P) L.hI,hc2,eI (s1.2 f hfS) L.hf) (G,eI (s1.2 I<|h7 P) L.hI,hoc,hod) rx hck R)
  .rw[qE U]at R;simp?[U,bT,if_false];show kC<|mr ?_;rw[y];show kF (lD cM _,ih (j+1) H2 _ xb ub pb cb c G ∅ E J2 (eM s0 t) (t.seq hS) L hit2 rb (hcb.same t) R)
def aap(K:Ζ)(n:V->Hp->VK->Prop):List V->Hp->VK->Prop
 | [],_,_=>False
 |x::xs,H,Q=>n x H λv l=>qk H l/\∃p c,v = cx p/\Ai K l p c/\L5 K n xs x c l Q
def PQ{E:Ψ}(hh:lL A=n_)(hu:ic A+64<lg)(turn:Wc X n σ A.in1 H0 f fo kq)(cf:∀v,vr fo ≠ n8 v)
  (J:Inv X n σ H s) (s0:qk H0 H) (hS:sN X.K H a xs) (ff:wy X n H f) (hf:c7 (b7 s) f=aK fo) (hM:aap X.K kq xs H Q) :
  kE (kG X.prog X.w) A (call (kj "min") [ao a] [%[lG "key"|ao f]]) (EP X n σ Q) E s:=by
 have l:(toString "min" ++ toString ".loop" : String) = "min.loop" := by rfl
 have(y,rv,pl,hz):=oG J hS;have B:=eQ pl;have(ol,hol,_):=id B;have hll:a<s⁻¹:=ae hol;have O:f<s⁻¹:=ae hf;cases xs with
 |nil=>show hD hM
 |cons x0 xs=>
 show kmk_tree aBk aB7 aB8 (kmk_min_key _ _) ?_;change kE _ A.in1 (k5 "min" ["key","default"] 0 ([],[%[lG "key"|ao f]]) >>= _) _ _ s;show kC<|wpAny_of_eq (show k5 "min" ["key","default"] 0 ([],[%[lG "key"|ao f]])=pure [aK<|ao f,n_]from rfl) ?_;show kC<|kF ?_;show kC<|mD B ?_;show kC<|mK ?_<|aH _;rw[l];have P:(ig (b7 s) { cls:=iD "list_iterator", data:=fT #[ao a,iT 0 0] }).objs.size=s⁻¹+1:=mR ..;have kp:∀b o,c7 (b7 s) b=aK o->c7 (ig (ig (b7 s) { cls:=iD "list_iterator", data:=fT #[ao a,iT 0 0] })<|kL "list" #[] 0) b=aK o:=λb o e=>aa _<|aa _ e;have gI:c7 (ig (ig (b7 s) { cls:=iD "list_iterator", data:=fT #[ao a,iT 0 0] })<|kL "list" #[] 0) s⁻¹=aK { cls:=iD "list_iterator", data:=fT #[ao a,iT 0 0] }:=aa _<|aA _ rfl;have gS:c7 (ig (ig (b7 s) { cls:=iD "list_iterator", data:=fT #[ao a,iT 0 0] })<|kL "list" #[] 0) (s⁻¹+1)=aK (kL "list" #[] 0):=by rw[←P];show aA _ rfl
 rw[P];generalize hI:s⁻¹=I at *;have R:a≠I:=ar hll;have t:I+1≠I:=jE I;have S:f≠I:=ar O;have U:f≠I+1:=ar<|bS O;have fI:wy X n H I:=J.fpOk (dX hI)<|l6 (t7 J)<|dX hI;have fS:wy X n H<|I+1:=J.fpOk (by rw[hI];show bI I)<|l6 (t7 J)<|by rw[hI];show bI I
 show kF (lD cM _,?_);have W:=pa (prog:=eT X) (w:=X.w) (A:=p9 A) hh I a R<|b9 y;have hsz:y.toArray.size=aX xs+1:=by rw[aq];show fQ<|iL rv
 show kY gj ?_;rw[eo cM _];change kE _ A.in1 (nT (ao _) >>= _) _ _ _;show kC<|lU gS rfl ?_;change kE _ A.in1 (tryCatch (lZ<|ao I) _ >>= _) _ _ _;show kC<|lM<|W.item 0 _ _ _ (by rw[hsz];show Nat.succ_pos _) ((_,gI,rfl,rfl),(B.push _).push _) λv h' tk' hP Y C=>?_;have hv:y[0]?=aK v:=by simpa using hP
 have(u2,hu2,rx):=rv.get (i:=0) (x:=x0) rfl;rw[hv]at hu2;cases hu2;have(G,hoI',hoc,hod):=id Y.1;have J1:Inv X n σ H { s with heap:=h',toks:=tk' }:=xq (fp:=[I]) J (λb o L e=>C b o L<|kp b o e) λb L=>by rw[mSq.mp L];show fI
 have O1:W6 X n H h' I (I+1) f G (kL "list" #[] 0) fo:=(fI,fS,ff,hoI',C _ _ (by simpa using t) gS,C f _ (by simpa using S)<|kp _ _ hf);change kE _ A.in1 (tryCatch (aeU [v]<|call (ao f) [v]) _ >>= _) _ _ _;show kC<|lM<|kX<|lj (M3 turn J1 O1 (λv z=>by rw[hod]at z;cases z) (λv z=>by cases z) cf s0 rx hM) (λu' s2 he=>?_) λZ Z hF=>hD hF;have(v',H2,J2,rv2,(s2',M,ck,rfl,hck,hM2),u):=he;cases rv2;have s1:=cP.update s2.heap (I+1)<|cS λZ=>#[v,ao M];obtain⟨c2,hc2⟩:∃c2,c7 (fi (b7 s2) (I+1)<|cS λZ=>#[v,ao M]) (I+1)=aK (kL "list" #[v,ao M] c2):=(_,lO u.hS λZ=>#[v,ao M]);change kE _ A.in1 (ox (I+1) (λZ=>#[v,ao M]) >>= _) _ _ _;show kC ?_;show mh u.hS rfl ?_;rw[l];have J3:Inv X n σ H2 { s2 with heap:=fi (b7 s2) (I+1) (cS λZ=>#[v,ao M]),toks:=nc s2 }:=xq (fp:=[I+1]) J2 (λb o L e=>eI (s1.2 b<|λz=>L<|by simp[z]) e) λb L=>by rw[mSq.mp L];show u.fS
 show kF (lD cM _,mZ (On (xs:=x0::xs) hh hu turn cf R t S U _ 0 H2 _ x0 v M ck c2 G rfl (gu<|aH _) J3 (eM s0 s2') (s2'.seq hS) (u.fI,u.fS,u.ff,eI (s1.2 I<|h7 t) u.hI,hc2,eI (s1.2 f U) u.hf) (G,eI (s1.2 I<|h7 t) u.hI,hoc,hod) rx hck hM2) λr s' h=>?_);cases r with
 |error e=>show hD h
 |ok fl=>cases fl <;> first|show h|show h.elim
def QC(K:Ζ)(i:Nat)(te:TA)(tb:TE):TE:=λσ H Q=>te σ H λvs l=>∃a xs n,vs=[cx a]/\σ[i]?=aK (aK n)/\sN K l a xs /\
 ∀r,qk l r->aap K (λv H Q=>tb [aK v,aK n] H Q) xs r Q
def SI(hr:uF (k+1+1) X.A)(hc:X.calm=t_)(hg:Gl X "min")(hm:X.mg "min" = n_)(t:X.env.code = ao c)(C:codeHdIn X.K c P=t_)(E:%[P|X.env.qual ++ "<lambda>"]∈wD X.K)
  (G:defaultsOf l X.env=%[[]|[]]) (M:adl scope X.env=pure cl) (L:FN X x m scope cl) (hN:X.N[i]?=aK m) (ha:PA X [e] te)
  (hb:∀pm y u n,adE (kla_fn "<lambda>" (X.env.qual ++ "<lambda>") l body scope cl pm (ao n) y) ([u],[])=pure [%[x|u]])
  (ht:∀f n s H,uF k (Jz X X.A.in1 [x,m] (X.env.qual ++ "<lambda>") scope f (ao n) cl s H).A->PE (Jz X X.A.in1 [x,m] (X.env.qual ++ "<lambda>") scope f (ao n) cl s H) body tb)
  (he:↑(mE pos (kO [e]<|iI X)=%[f_|eval e<|iI X]::mE pos (kO []<|iI X))) (O:↑((mE pos<|kO [e]<|iI X).any (·.1)=f_)) :
  PE X (m8 (g9 "min" p) [e] [(aK "key", .Lambda l body scope B,kp)] pos)<|QC X.K i te tb:=by
 intro oO s σ H Q I h;show lY<|wX I hg hm boot_min ?_ ⋯<|by rfl
 show callWith_kw (ua (ha pos oO s σ H _ I h) λus s1 R=>kws_cons ?_) he O rfl rfl;have(vs,H1,S,r1,a,xs,vm,e1,U,hS,hM):=R;subst e1;have(u,rfl,ru):=vL r1;cases ru;show U1 S t C E G M λf n oc ws tq y Y h' tk I2 sm hc' hd hv hge hn hf=>kws_nil ?_;have J:qk H1 Y:=sm;show PQ (A:=X.A) (H0:=Y) (fo:=kla_obj "<lambda>" (X.env.qual ++ "<lambda>") l body scope cl (rh (X.mg "__name__") gX) n y) (S.ok.hd hc) hr.units ?_ (λv z=>by cases z) I2 (j9 _) (J.seq hS) (S.fpOk hge hn) hf<|hM Y J;intro more H3 s3 v u3 Q3 I3 s03 hf3 rv hk;show ZW (k:=k) I3 L hr.in1 rfl hN U rv hf3 ?_ (hb _ _ _ _) (λr=>ht f n s3 H3 r) hk;have(q1,_):=t7 I3 n _<|s03 _ _ hc';show(n,oc,ws,tq,rfl,q1,hd,hv)
end Mr
namespace Z
open PySem PySem.W L2 Mr
open PySem.Spec PyProof.Rows
def Kc(l:MK)(n d:D):Option Λ:=cc (l [aK<|b8 d,aK<|b8 n]) λy=>(match y.1 with|b8 k=>xU k|_=>n_)
def V1(l:MK)(n:D):List D->D->Λ->Option D
 | [],r,_=>aK r
 |d::ds,r,s=>cc (Kc l n d) λc=>if eP c s=t_ then V1 l n ds d c else V1 l n ds r s
def acg(l:MK)(n:D):List D->Option D
 | []=>n_
 |d::ds=>cc (Kc l n d) λc=>V1 l n ds d c
noncomputable def Xr(S:AS)(i:Nat):Option D:=cc (S[i]?) λx=>cc x λa=>(match a with|b8 d=>aK d|_=>n_)
def Kq(i:Nat)(l:ML)(n:MK):ME:=λS=>cc (l S) λx=>cc (Xr x.2 i) λr=>(acg n r x.1).map λd=>%[d|x.2]
def Zn(h:Xr S i=aK d):S[i]?=aK (aK<|b8 d):=by unfold Xr at h;have(x,n,h):=oBq.mp h;have(a,r,l):=oBq.mp h;subst r;cases a with
 |sh s=>cases l;show n
 |_=>cases l
section
variable {K:Ζ}
def U9(C:SK K tb kb)(s:qk l H)(r:rq K l d v)(E:rq K l u x)(e:Kc kb u d=aK c)Q(q:∀n p,qk H n->Ai K n p c->Q (cx p) n):tb [aK v,aK x] H Q:=by
 have(y,G,e):=oBq.mp e;have rs:qo K l [d,u] [v,x]:=.cons r<|.cons E .nil;have R:=JD (K:=K) (N:=[("" : Str), ""]) s rs;have I:qI K H l l [aK<|b8 d,aK<|b8 u] [aK v,aK x] H [[],[]]:=R;show C I (a:=y.1) (S':=y.2) G Q λJ n L w F t R2 z ow=>?_;split at e;.rename_i k hk;rw[hk]at z;have M:=Af e;cases z with
  |sh B=>rw[M]at B;have(p,rfl,O):=BU<|Qf B R2.sub;show q n p t.sh O
 .cases e
def YN(M:SK K tb kb)(O:rq K l E G)Q:∀{ds}{vs}{u}{n}{r}{d}{H},qk l H->qo K l ds vs->rq K l u n->V1 kb E ds u r=aK d->(∀y v,qk H y->rq K l d v->Q v y) ->
  L5 K (λv H Q=>tb [aK v,aK G] H Q) vs n r H Q:=by intro ds;induction ds with
 |nil=>intro vs u n r d H s rs z e q;cases vs with
  |cons=>show absurd rs.1 ⋯
  |nil=>cases e;show q H n (j9 _) z
 |cons x ds I=>intro vs u n r d H s rs z e q;cases vs with
  |nil=>show absurd rs.1 ⋯
  |cons v vs=>
   have(c,P,e):=oBq.mp e;have J:rq K l x v:=rs.2 0 x v rfl rfl;have rt:qo K l ds vs:=(by have:=rs.1;simpa using this,λi a b h1 h2=>rs.2 (i+1) a b (by show h1)<|by show h2);show U9 M s J O P _ λy p t R=>(t,p,c,rfl,R,?_);by_cases L:eP c r=t_;.rw[qz L]at e ⊢;show I (eM s t) rt J e λB w C=>q B w<|eM t C
   .rw[qE L]at e ⊢;show I (eM s t) rt z e λB w C=>q B w<|eM t C
def SB(hl:SQ K te l)(L:SK K tb kb):SR K (QC K i (uK te wV) tb)<|Kq i l kb:=by
 intro H₀ B Hf S σ H Fs d S' R e Q q;have(x,Y,e):=oBq.mp e;have(dm,e2,e):=oBq.mp e;have(d',y,e):=oMq.mp e;cases e;show hl R (ds:=x.1) (S':=x.2) Y _ λn M Fs1 p1 s t1 t h1 z=>?_;have(O,F,hv,hF,rm):=t.rep i _<|Zn e2;have u:rq K n dm O:=by cases rm with|sh r=>show r
 show(p1,s,O,rfl,hv,h1,λH2 C=>?_);generalize x.1=E at *;cases E with
 |nil=>cases y
 |cons P E=>cases s with
  |nil=>show absurd z.1 ⋯
  |cons U vs=>have(c,e4,y):=oBq.mp y;have X:rq K n P U:=z.2 0 P U rfl rfl;have rt:qo K n E vs:=(by have:=z.1;simpa using this,λi a b h1 h2=>z.2 (i+1) a b (by show h1)<|by show h2);show U9 L (eM t.sub C) X u e4 _ λH' p G hp=>(G,p,c,rfl,hp,?_);show YN L u Q (eM (eM t.sub C) G) rt X y λI w s3 rw=>?_;have J:qk M I:=eM (eM C G) s3;have ts:zW n M Fs1 n I Fs1:=(j9 _,J,λZ h=>h,λb h g=>absurd h g);show q n I Fs1 w (hU t1 ts) (t.laid J)<|Qf rw<|eM t.sub J
end
def WN(S)i l n:Kq i l n S=cc (l S) λx=>cc (Xr x.2 i) λr=>(acg n r x.1).map λd=>%[d|x.2]:=rfl
end Z
namespace Mr
open PySem PySem.W L2 PySem.Calls
open PySem.Spec PyProof.Rows
def FN.of{cl}(kind:scope.kind = pk)(co:scope.isCoroutine=f_)(gen:scope.isGenerator=f_)(h:(scope.names.all λp=>(p.2 != o6) && (p.2 != p4 || p.1 == m))=t_)
  (xl:scope.names.lookup x=aK kU) (ml:scope.names.lookup m=aK p4) (n:∃c,cl=[%[m|c]]/\X.env.cells.lookup m=aK c) (vis:aAe (iI X) m=aK o6):FN X x m scope cl:=(kind,co,gen,λy l z=>by have:=gB.mp h y l;rw[z]at this;show absurd this ⋯,xl,ml,λy l=>by have:=gB.mp h _<|eL l;simpa using this,n,vis)
def okC{K}{st}(F:Yu K x qual st f fd)(S:pS N ps<|oX st)(len:∀vs H Q E,sp vs H Q E->aX vs=aX ps)
  (l:∀A outer s H vs Q E,uF k (rp A<|mJ qual (oX st) s⁻¹ f fd.code)->sp vs H Q E ->
   ∃t,LN (Lz XN P w K mg base N qual (oX st) f fd.code A outer s H E).nox (vF st) t/\t { nx:=λZ u=>Q pd u,rt:=Q } (Ao N vs) H):An P w K mg base XN (k+1) f fd ps sp:=by have(B,od,kV,y,pm,C,G,ct,z,rfl,lk,n):=F.ex;show fn_of lk n S len λA outer s H vs Q E hr r=>?_;have(t,h,q):=l A outer s H vs Q E hr r;show(t,h.nox,q)
end Mr
namespace MrS
open PySem PySem.W PyProof.Rows
section
variable {E:Ψ}{vs:Ξ}{keys:Ω}
def Np(hk:c7 (b7 s) kS=aK (kL "list" keys e))(ha:c7 (b7 s) a=aK (kL "list" #[] e1))(n:kS≠a)(hz:keys.size<=kK)(r:xs.size<=kK)
  (h:∀t tk c,(∀b o,b≠a->b≠kS->c7 (b7 s) b=aK o->c7 t b=aK o)->c7 t a=aK (kL "list" (xs.map (·.2)) c)->P (.done<|pG gX) { s with heap:=t,toks:=tk }) :
  kE (kG prog w) A (ksk_tail a f_ e1 (ao kS)<|RG κ' xs p g) P E s:=by
 have y:=cP.update s.heap kS<|cS λQ=>(#[]:Ω);have l:c7 (fi (b7 s) kS<|cS λQ=>(#[]:Ω)) a=aK (kL "list" #[] e1):=eI (y.2 a<|h7 n) ha;have z:=cP.update (fi (b7 s) kS<|cS λQ=>(#[]:Ω)) a (cS λQ=>xs.map (·.2));obtain⟨u,x⟩:∃u,c7 (fi (fi (b7 s) kS<|cS λQ=>(#[]:Ω)) a (cS λQ=>xs.map (·.2))) a=aK (kL "list" (xs.map (·.2)) u):=(_,lO l λQ=>xs.map (·.2));unfold ksk_tail;dsimp only;show kC<|lW hk rfl ?_ hz<|aH _;show kC<|mr ?_;show kC<|nQ l rfl ?_;show kC<|lW l rfl ?_ (aH _)<|by simp?[bT,if_false,iW];show Nat.le_succ_of_le r
 simp?[bne_self_eq_false,bT,if_false];show kF<|h _ _ u (λb o b1 b2 e=>eI (z.2 b b1)<|eI (y.2 b b2) e) x
def Yj(hk:c7 (b7 s) kS=aK (kL "list" keys e))(ha:c7 (b7 s) a=aK (kL "list" #[] e1))(u:kS≠a)(z:keys.size=aX vs)(M:aX vs<64)
  (I:2<=aX vs->∀Q:lK->Shared->Prop,Q κ s->kE (kG prog w) A (ny keys) Q E s)
  (C:Eu prog w A s κ Pk lt) (J:∀x,x∈keys.zip (b9 vs)->Pk x) (O:∀(j r:Nat) (x y:kH),j<r->(keys.zip<|b9 vs)[j]?=aK x->(keys.zip<|b9 vs)[r]?=aK y->lt x y=f_->lt y x=f_->ix x<=ix y)
  (h:∀xs l tk c,jS xs (keys.zip<|b9 vs)->Fo (ltx lt ix) xs 0 (aX vs)->(∀b o,b≠a->b≠kS->c7 (b7 s) b=aK o->c7 l b=aK o)->c7 l a=aK (kL "list" (xs.map (·.2)) c)->P (.done<|pG gX) { s with heap:=l,toks:=tk }) :
  kE (kG prog w) A (ksk_end a f_ (b9 vs) e1 (ao kS) keys) P E s:=by
 have B:(keys.zip<|b9 vs).size=aX vs:=by rw[Array.size_zip,z,aq,jn]
 have R:kK=16777216:=lh;unfold ksk_end;dsimp only;rw[qE ⋯];by_cases h2:vs.toArray.size<2
 .rw[qz h2,qz h2];show kC<|kF ?_;rw[aAx];show kC<|kF ?_;dsimp only;rw[qE ⋯];show Np (κ':=general') (p:=#[]) (g:=7) (xs:=keys.zip<|b9 vs) hk ha u ∅ ∅ λl tk c n t=>h _ l tk c (jS.refl _) ?_ n t;intro p q x y h1 X Y ex L;rw[aq]at h2;have:p=q:=by lia
  subst this;rw[ex]at L;cases L;show(C.od.ltx ix).refl _<|J _<|aQq ex
 .rw[qE h2,qE h2];rw[aq]at h2;show kC<|I (by rfl') _ ?_;rw[qE ⋯];show kC<|lj (JN (E:=E) (ix:=ix) (arr:=keys.zip<|b9 vs) (g:=7) C J ∅ (by ac_nf) O (Q:=λZ G=>∃xs p H,G=RG κ xs p H/\jS xs (keys.zip<|b9 vs)/\Fo (ltx lt ix) xs 0 (keys.zip<|b9 vs).size) λxs p H n t=>(xs,p,H,rfl,n,t)) ?_ λZ Z e=>e;rintro⟨⟨⟩,G⟩ s' ⟨rfl,xs,p,H,rfl,n,t⟩;dsimp only;rw[B]at t;show Np hk ha u ∅ (by rw[n.size_eq,B];lia) λl tk c S U=>h xs l tk c n t S U
end
end MrS
namespace Mr
open PySem PySem.W L2 PySem.Calls
open PySem.Spec PyProof.Rows
def ZM{E':Ψ}{σ:St}(B:x3 n=x3 X.A)(F:An X.prog X.w X.K X.mg X.base CX k f fd ps sp)(hr:uF k n)(C:xH X.K fd ps ds)(hd:qr dvs ds)
  (E:∀H s e x,¬ CX (we X) H s XE e x) (I:Inv X y σ H s) (r:qr vs us) (h:sp (vs++dvs) H Q XE):kE (kG X.prog X.w) n (call (ao f) us) (EP X y σ Q) E' s:=by
 have z:qr (vs++dvs)<|us++ds:=GH r hd;have hl:aX (us++ds)=aX ps:=by rw[←iL z];show F.len _ _ _ _ h
 have l:=I.env0;have G:Wb X.prog X.w X.K X.mg X.base n (we X) s H:=(eI B l.frames,l.mod,l.bs,l.bsz,l.funs,l.frf,l.hok,l.bare,l.tb);show wpAny_call<|mZ (F.run n (we X) s H (us,[]) (us++ds) (vs++dvs) Q XE hr G (C s us I.kIn hl) z h) λr x t=>?_;cases r with
 |error e=>show absurd t<|E H s e x
 |ok fl=>cases fl with
  |ret u=>show I.after t
  |next=>show hD t
  |brk=>show hD t
  |cont=>show hD t
def ON(sp:Sp)(XE:XK):List V->List V->Hp->(List V->Hp->Prop)->Prop
 | [],ks,H,Q=>Q ks H
 |x::xs,ks,H,Q=>sp [x] H (λv l=>ON sp XE xs (ks++[v]) l Q) XE
structure Up (X:Cx)(oO:Φ)(H:Hp)(s:Shared)(a t kS:Addr)(e1:Nat)(kA:Ω)(e:Nat)(to:Obj):Prop where
 fa:wy X oO H a
 ft:wy X oO H t
 fk:wy X oO H kS
 ha:s.heap.get? a=aK (kL "list" #[] e1)
 ht:s.heap.get? t=aK to
 hk:s.heap.get? kS=aK (kL "list" kA e)
 tc:∀v,to.data ≠ .cell v
def Tp{E':Ψ}{σ:St}(Y:x3 L=x3 X.A)(F:An X.prog X.w X.K X.mg X.base CX k f fd ps sp)(hr:uF k L)(hb:xH X.K fd ps [])
  (hx:∀H s e y,¬ CX (we X) H s XE e y) (I:Inv X l σ H s) (O:Up X l H s a t C E G e to) (r:qW x u) (h:sp [x] H Q XE) :
  kE (kG X.prog X.w) L (call (ao f) [u]) (λM y=>∃v B,Inv X l σ B y/\qW v M/\Q v B/\Up X l B y a t C E G e to) E' s:=by
 have P:∀(R:Ω) (n:Nat) v,vr (kL "list" R n) ≠ n8 v:=λR n v z=>by cases z
 have I2:Inv X (l++[%[a|kL "list" #[] E],%[t|to],%[C|kL "list" G e]]) σ H s:=I.pins_of λp hp=>by
  obtain z|z:=mAq.mp hp;.show I.pin p<|ay _ z
  .simp?[ag,bZ,or_false]at z;obtain rfl|rfl|rfl:=z;.show(O.ha,O.fa.1,O.fa.2.1,O.fa.2.2.1,P _ _)
   .show(O.ht,O.ft.1,O.ft.2.1,O.ft.2.2.1,O.tc)
   .show(O.hk,O.fk.1,O.fk.2.1,O.fk.2.2.1,P _ _)
 show lj (ZM (E':=E') Y F hr hb j8 hx I2 (hL r j8)<|by rw[aNq];show h) (λM y hq=>?_) λZ Z e=>e;have(v,B,J,rv,q):=hq;have S:=J.pin %[a|kL "list" #[] E] ⋯;have pt:=J.pin %[t|to] ⋯;have U:=J.pin %[C|kL "list" G e] ⋯;show(v,B,J.unpinned,rv,q,(S.2.1,O.fa.2),(pt.2.1,O.ft.2),(U.2.1,O.fk.2),S.1,pt.1,U.1,O.tc)
def R7{E':Ψ}{σ:St}(hA:x3 U=x3 X.A)(F:An X.prog X.w X.K X.mg X.base CX k f fd ps sp)(hr:uF k U)(Q:xH X.K fd ps [])
  (hx:∀H s e B,¬ CX (we X) H s XE e B) (I:Inv X J σ H s) (O:Up X J H s a t y M #[] e0 to) (r:qr xs vs) (hz:aX vs<=1000) (n1:y≠a) (n2:y≠t) (hK:ON sp XE xs [] H Q0)
  (h:∀B E ks n e,Inv X J σ E B->Up X J E B a t y M n e to->qr ks (km n)->aX ks=aX xs->Q0 ks E->kE (kG X.prog X.w) U (ksk_end a f_ (b9 vs) M (ao y) n) P E' B) :
  kE (kG X.prog X.w) U (ksk_rest a (ao f) f_ (b9 vs) M<|ao y) P E' s:=by
 have hl:=iL r;have hsl:kK=16777216:=lh;unfold ksk_rest;show kC<|nX ?_;first
  |rw[ip]
  | (rw[←ji];rfl)
  |rw[←ji]
 show kC (ksk_fold (λi B=>∃E ks n e,Inv X J σ E B/\Up X J E B a t y M n e to/\qr ks (km n)/\aX ks=i/\ON sp XE (xs.drop i) ks E Q0) vs 0 s
  (H,[],#[],e0,I,O,j8,rfl,hK) ?step ?done);case step=>
  rintro j u B hu ⟨E,ks,n,e,I',Y,R,lk,l⟩;simp?[aU]at lk l ⊢;have hj:j<aX vs:=(gSq.mp hu).1;have(u2,S,rx):=r.get (i:=j) (x:=xs[j]'∅)<|gEg ∅;rw[hu]at S;cases S;rw[aC (by lia:j<xs.length)]at l;show kC<|nr<|lj (Tp (E':=λZ Z=>False) hA F hr Q hx I' Y rx l) (λL C he=>?_) λZ Z hF=>hD hF;have(v,H2,I2,rv,q,G):=he;dsimp only;have hz2:n.size<=1000:=by
   have q1:n.size=aX ks:=by rw[←dJ];first|show iL R|show fQ<|iL R
   lia
  have s1:=cP.update C.heap y (cS (·.push L));obtain⟨c2,hc2⟩:∃c2,c7 (fi (b7 C) y (cS (·.push L))) y=aK (kL "list" (n.push L) c2):=(_,lO G.hk (·.push L));show kC<|lW G.hk rfl ?_ ∅<|bH (dX<|jQ ..) ∅;have I3:Inv X J σ H2 { C with heap:=fi (b7 C) y (cS (·.push L)),toks:=nc C }:=xq (fp:=[y]) I2 (λb o Q e=>eI (s1.2 b<|λz=>Q<|by simp[z]) e)<|λb Q=>by rw[mSq.mp Q];show G.fk
  show kF (rfl,H2,ks++[v],n.push L,c2,I3,(G.fa,G.ft,G.fk,eI (s1.2 a<|h7 n1) G.ha,eI (s1.2 t<|h7 n2) G.ht,hc2,G.tc),?_,by simp[lk],q);rw[Array.toList_push];show GH R<|hL rv j8
 case done=>rintro B ⟨E,ks,n,e,I',Y,R,lk,l⟩;rw[aU]at lk l;rw[bU<|by rfl']at l;show kC<|ad9 Y.hk rfl ?_;show h B E ks n e I' Y R (by ac_nf) l
def aeN{σ:St}(I:Inv X B σ H s)(fa:wy X B H a)(fk:wy X B H x)(kp:∀b u,b≠a->b≠x->c7 (b7 s) b=aK u->c7 C b=aK u)
  (new:tE X.prog X.w (rG H a o) C a o):Inv X B σ (rG H a o) { s with heap:=C,toks:=t' }:=by
 have hf:∀b∈[a,x],wy X B H b:=λb t=>by
  simp?[ag,bZ,or_false]at t;obtain rfl|rfl:=t;.show fa
  .show fk
 have k:∀b u,b∉[a,x]->c7 (b7 s) b=aK u->c7 C b=aK u:=λb u t e=>kp b u (λz=>t<|by simp[z]) (λz=>t<|by simp[z]) e;have G:∀b u,H b=aK u->b∉[a,x]:=λb u e z=>by rw[(hf b z).1]at e;cases e
 have y:∀b u,H b=aK u->b≠a:=λb u e z=>by rw[z,fa.1]at e;cases e
 show I.step (g':=s.gens) (d':=s.drawn) (ch:=[a,x]) (λb t=>?_) (λb u Z Z l e Z=>k b u l e) (λb u Z Z l e Z=>(aA6 u,k b u l e))
  (λb u l Z n=>by rw[pI<|λz=>l<|by simp[z]];show n) (λb u l e=>(u,k b u l e)) (λb E e=>by rw[pI<|y _ _ e];show e) (λb u E e=>by rw[pI<|y _ _ e];show e) (λb Z e=>by rw[pI<|y _ _ e];show e) (λm J=>?_) (λb u e=>?_) I.bare;.have(_,f1,_,L,M,O):=hf b t;show(L,f1,M,O)
 .have(ob,P,Q,R,r):=J;show(ob,P,Q,k _ _ (λz=>(hf _ z).2.1 rfl) R,r)
 .by_cases c:b=a;.cases c;rw[pW]at e;cases e;show new
  .rw[pI c]at e;show(t7 I b u e).stay (λc v l q=>k c v ?_ q) (λc q=>by rw[pI<|y _ _ q];show q) (λc E q=>by rw[pI<|y _ _ q];show q) λc E q=>by rw[pI<|y _ _ q];show q
   obtain rfl|l:=l;.show G _ _ e
   .show G _ _ l
def adQ(cd:Addr->Λ)(n:Addr->Nat)(l r:Δ):Prop:=dg r l/\r.Pairwise λx y=>eP (cd y) (cd x)=f_/\(eP (cd x) (cd y)=t_∨n x<=n y)
def Qk(l:Δ)(Q:VK)(ks:List V)(H:Hp):Prop:=∃(n:Δ) (cs:List Λ) (cd:Addr->Λ) (t:Addr->Nat),ks=n.map cx/\aX cs=aX n/\(∀(i:Nat) p c,n[i]?=aK p->cs[i]?=aK c->yX H p c/\c≠[]) /\
 (∀(j:Nat) z c,l[j]?=aK z->cs[j]?=aK c->cd z=c)/\(∀(j r:Nat) z s,j<r->l[j]?=aK z->l[r]?=aK s->eP (cd z) (cd s)=f_->eP (cd s) (cd z)=f_->t z<=t s)/\∀a u,H a=n_->adQ cd t l u->Q (cx a) (rG H a<|et<|u.map cx)
def Pq{E':Ψ}{σ:St}(hA:x3 A'=x3 X.A)(hu:ic A'+40<lg)(F:An X.prog X.w X.K X.mg X.base CX k f fd ps sp)(hr:uF k A')(hb:xH X.K fd ps [])
  (M:∀H s e s',¬ CX (we X) H s XE e s') (I:Inv X oO σ H s) (fa:wy X oO H a) (ho:c7 (b7 s) a=aK (kL "list" (b9<|l.map ao) n)) (hz:aX l<64) (hK:ON sp XE (l.map cx) [] H<|Qk l Q)
  (h:∀s' E,Inv X oO σ E s'->Q (cx a) E->P (.done<|pG gX) s') :
  kE (kG X.prog X.w) A' (ksk_tree a (ao f) f_) P E' s:=by
 have hsl:kK=16777216:=lh;have ha:a<s⁻¹:=ae ho;have s1:=cP.update s.heap a<|cS λZ=>(#[]:Ω);obtain⟨e1,ho1⟩:∃e1,c7 (fi (b7 s) a<|cS λZ=>(#[]:Ω)) a=aK (kL "list" #[] e1):=(_,lO ho λZ=>#[]);have hsz:(fi (b7 s) a<|cS λZ=>(#[]:Ω)).objs.size=s⁻¹:=cg ..;unfold ksk_tree;show kC<|ad9 ho rfl ?_;show kC<|lW ho rfl ?_ (by rw[aq,lMq];lia)<|aH _;show kC<|nQ ho1 rfl ?_;show kC<|oN ?_<|by change(aX<|l.map ao)<=_;rw[lMq];lia
 show kC<|mK ?_<|aH _;show kX ?_;have hkS:(ig (fi (b7 s) a<|cS λZ=>(#[]:Ω))<|kL "tuple" (b9<|l.map ao) 0).objs.size=s⁻¹+1:=by rw[mR,hsz]
 have I3:Inv X oO σ H { s with heap:=ig (ig (fi (b7 s) a<|cS λZ=>(#[]:Ω))<|kL "tuple" (b9<|l.map ao) 0) (kL "list" #[] 0),toks:=nc s }:=xq (fp:=[a]) I (λb o hb e=>aa _<|aa _<|eI (s1.2 b<|λz=>hb<|by simp[z]) e)<|λb hb=>by rw[mSq.mp hb];show fa
 have ft:wy X oO H s⁻¹:=I.fpOk (ab _)<|l6 (t7 I)<|ab _;have fk:wy X oO H<|s⁻¹+1:=I.fpOk (bI _)<|l6 (t7 I)<|bI _;have ht:c7 (ig (ig (fi (b7 s) a<|cS λZ=>(#[]:Ω))<|kL "tuple" (b9<|l.map ao) 0)<|kL "list" #[] 0) s⁻¹=aK (kL "tuple" (b9<|l.map ao) 0):=by show aa _ ?_;rw[←hsz];show aA _ rfl
 have hk:c7 (ig (ig (fi (b7 s) a<|cS λZ=>(#[]:Ω))<|kL "tuple" (b9<|l.map ao) 0)<|kL "list" #[] 0) (s⁻¹+1)=aK (kL "list" #[] 0):=by rw[←hkS];show aA _ rfl
 have hka:s⁻¹+1≠a:=by lia
 change kE _ _ (ksk_rest a (ao f) f_ (b9<|l.map ao) e1<|ao (ig (fi (b7 s) a<|cS λZ=>(#[]:Ω))<|kL "tuple" (b9<|l.map ao) 0).objs.size) _ _ _;rw[hkS];show R7 (to:=kL "tuple" (b9<|l.map ao) 0) (t:=s⁻¹) (Q0:=Qk l Q) hA F hr hb M I3 (fa,ft,fk,aa _<|aa _ ho1,ht,hk,λv z=>by cases z) (xa l) (by rw[lMq];lia) hka (by ac_nf) hK λs' E ks kA e I' O' rk lk q=>?_;have(C,cs,cd,ia,rfl,lc,hE,hcd,hia,q):=q;have ei:=uC rk;simp?[lMq,lMq]at lk;obtain rfl:kA=b9 (C.map ao):=by rw[←ei]
 have S:∀p∈C,zT s'.heap p (ro E p)/\ro E p≠[]:=λp U=>by have(i,hi):=aj.mp U;have il:=(gSq.mp hi).1;have(h1,h2):=hE i p (cs[i]'∅) hi<|gEg ∅;rw[h1.eq];show(QZ I' h1,h2)
 have B:∀j (x:kH),((C.map ao).toArray.zip<|b9<|l.map ao)[j]?=aK x->∃p z,x=%[ao p|ao z]/\C[j]?=aK p/\l[j]?=aK z:=λj x J=>by rw[jH,fh,bY,gMq,gMq]at J;have(h1,h2):=J;have(p,L,p2):=oMq.mp h1;have(z,R,z2):=oMq.mp h2;show(p,z,iO p2.symm<|fQ z2,L,R)
 have Y:∀(j:Nat) (p z:Addr),C[j]?=aK p->l[j]?=aK z->ro E p=cd z:=λj p z L R=>by have jl:=(gSq.mp L).1;have cj:cs[j]?=aK (cs[j]'∅):=gEg ∅;simp?[(hE j p _ L cj).1.eq,hcd j z _ R cj]
 show MrS.Yj (κ:=nZ f_) (Pk:=λx=>∃p,x.1 = ao p/\p∈C) (lt:=ltM<|ro E) (ix:=λx=>ia<|rD x.2) O'.hk O'.ha hka (by rw[aq,lMq,lMq,lk]) (by rw[lMq];show hz)
  (λh2 Q q=>aaG (by rw[lMq]at h2;ac_nf) (λp U=>(S p U).1) (λp U=>(S p U).2) q) (adN hu λp U=>(S p U).1) (λx M=>?_) (λj r x y J M hy O G=>?_) λxs h' tk c q1 q2 q3 q4=>?_;.have(j,J):=iP.mp M;have(p,z,rfl,L,_):=B j x J;show(p,rfl,mGq L)
 .have(p,z,rfl,L,R):=B j x M;have(p',z',rfl,p2,z2):=B r y hy;have O:eP (ro E p) (ro E p')=f_:=O;have G:eP (ro E p') (ro E p)=f_:=G;rw[Y j p z L R,Y r p' z' p2 z2]at O G;show hia j r z z' J R z2 O G
 .have sh2:∀x∈km xs,∃p z,x=%[ao p|ao z]/\ro E p=cd z:=λx M=>by have(j,J):=iP.mp<|q1.mem_iff.mp<|Array.mem_toList_iff.mp M;have(p,z,rfl,L,R):=B j x J;show(p,z,rfl,Y j p z L R)
  have ez:km (xs.map (·.2))=(xs.toList.map λx=>rD x.2).map ao:=by rw[jF,mPq];show mCq λx M=>?_;have(p,z,rfl,_):=sh2 x M;rfl
  have pz:dg (xs.toList.map λx=>rD x.2) l:=by
   have:=(Array.perm_iff_toList_perm.mp q1).map λx=>rD x.2;show kT this ?_;rw[jH,eJ];show dg.of_eq ?_;have e:(ph (C.map ao)<|l.map ao).map (λx=>rD x.2)=((ph (C.map ao)<|l.map ao).map kr).map rD:=by rw[mPq];rfl
   rw[e,jI<|by rw[lMq,lMq];ac_nf,mPq];show gW l
  have st:adQ cd ia l<|xs.toList.map λx=>rD x.2:=by
   show(pz,?_);rw[aG,bF];intro i j hi J hij;have ei:=gEg hi;have ej:=gEg J;rw[fe]at ei ej;have sg:=q2 i j _ _ (aH _) (bQ hij) (by rw[lMq];have:=ef pz;rw[lMq]at this;lia) ei ej;have(p,z,e1,c1):=sh2 _<|gRq hi;have(p',z',e2,c2):=sh2 _<|gRq J;rw[e1,e2]at sg ⊢;have(O,G):=MrS.uc.mp sg;have O:eP (ro E p') (ro E p)=f_:=O;rw[c1,c2]at O;show(O,?_);obtain G|G:=G;.have G:eP (ro E p) (ro E p')=t_:=G;rw[c1,c2]at G;show jB G
   .show ir G
  generalize xs.toList.map (λx=>rD x.2)=zs at ez pz st;have fin:=q a zs O'.fa.1 st;show h _ _ (aeN I' O'.fa O'.fk (λb u b1 b2 e=>q3 b u b1 b2 e)<|show tE X.prog X.w _ h' _ (et<|zs.map cx)from (by rw[lMq,ef pz];lia,zs.map ao,c,xa zs,?_)) fin;rw[q4,←ez]
def K0{E':Ψ}{σ:St}(F:An X.prog X.w X.K X.mg X.base CX k f fd ps sp)(hr:uF (k+1+1) X.A)(M:ic X.A+64<lg)(z:xH X.K fd ps [])
  (B:∀H s e y,¬ CX (we X) H s XE e y) (I:Inv X x σ H s) (hl:pj (b7 s) l<|b9<|n.map ao) (hz:aX n<64) (C:ON sp XE (n.map cx) [] H<|Qk n Q) :
  kE (kG X.prog X.w) X.A (call (kj "sorted") [ao l] [%[lG "key"|ao f]]) (EP X x σ Q) E' s:=by
 have E:kK=16777216:=lh;show call_function_entry_kw aeX adV aeF (ksk_s1 _ _) ?_;unfold Builtin.«sorted»;show kC (m:=checkCount "sorted" 1 1 _)<|kF ?_;show kC<|collect_list hl ?_<|by rw[lMq];lia
 show kC<|mK ?_<|by rw[lMq];lia
 have r:(fi (ig (b7 s)<|kL "list" #[] 0) s⁻¹ (cS (· ++ b9 (n.map ao)))).objs.size=s⁻¹+1:=by rw[cg,mR]
 have u:c7 (ig (fi (ig (b7 s)<|kL "list" #[] 0) s⁻¹ (cS (· ++ b9 (n.map ao))))<|kL "list" (b9<|n.map ao) 0) (s⁻¹+1)=aK (kL "list" (b9<|n.map ao) 0):=by rw[←r];show aA _ rfl
 have keep:∀b o,c7 (b7 s) b=aK o->c7 (ig (fi (ig (b7 s)<|kL "list" #[] 0) s⁻¹ (cS (· ++ b9 (n.map ao))))<|kL "list" (b9<|n.map ao) 0) b=aK o:=λb o q=>by have t:b<s⁻¹:=ae q;rw[ee _ _ _<|by rw[r];show ar<|bS t,cA _ _ _ _<|ar t,ee _ _ _<|ar t];show q
 change kE _ _ _ _ _ { s with heap:=ig (fi (ig (b7 s)<|kL "list" #[] 0) s⁻¹ (cS (· ++ b9 (n.map ao)))) (kL "list" (b9<|n.map ao) 0) };rw[r];have G:Inv X x σ H { s with heap:=ig (fi (ig (b7 s)<|kL "list" #[] 0) s⁻¹ (cS (· ++ b9 (n.map ao)))) (kL "list" (b9<|n.map ao) 0),toks:=nc s }:=I.kept keep;have fa:wy X x H<|s⁻¹+1:=I.fpOk (bI _)<|l6 (t7 I)<|bI _;show kC<|kX<|wpAny_call_entry_kw aad (_,u,rfl) ou ?body<|ksk_l1 _ _;case body=>change kE (kG X.prog X.w) X.A.in1.in1 (Builtin.«list.sort» ([ao<|s⁻¹+1],[%[lG "key"|ao f]])) _ _ _;simp?[ksk_t1];show Pq (Q:=Q) rfl (by change ic X.A+1+1+40<lg;lia) F hr.in1.in1 z B G fa u hz C λy J L q=>(_,rfl,?_);show kF (_,rfl,cx<|s⁻¹+1,J,L,rfl,q)
def QI(K:Ζ)(sp:Sp)(XE:XK)(r:TA):TE:=λσ H Q=>r σ H λvs n=>∃a l,vs=[cx a]/\sN K n a (l.map cx)/\aX l<64/\ON sp XE (l.map cx) [] n (Qk l Q)
def MR(F:An X.prog X.w X.K X.mg X.base CX k f fd ps sp)(hr:uF (k+1+1) X.A)(E:Gl X "sorted")(G:X.mg "sorted" = n_)(l:Gl X x)(n:X.mg x=aK (ao f))(J:xH X.K fd ps [])(L:∀H s e M,¬ CX (we X) H s XE e M)(ha:PA X [e] B)
  (r:⇑((x == ("__debug__" : Str))=f_)) (O:↑(mE pos (kO [e]<|iI X)=%[f_|eval e<|iI X]::mE pos (kO []<|iI X))) (t:↑((mE pos<|kO [e]<|iI X).any (·.1)=f_)) :
  PE X (m8 (g9 "sorted" p) [e] [(aK "key", g9 x C,kp)] pos)<|QI X.K sp XE B:=by
 intro P s σ H Q I h;show lY<|wX I E G boot_sorted ?_ ⋯<|by rfl
 show callWith_kw (ua (ha pos P s σ H _ I h) λus s1 y=>kws_cons ?_) O t rfl rfl;have(vs,H1,z,R,a,S,U,hS,Y,hK):=y;subst U;have(u,rfl,ru):=vL R;cases ru;show Rb z l n (kws_nil ?_) r;have(ws,rv,hl,_):=oG z hS;have ei:=uC rv;subst ei;show K0 F hr hr.units J L z (eQ hl) Y hK
end Mr
namespace Z
open PySem PySem.W L2 Mr Xe
open PySem.Spec PyProof.Rows
abbrev Cd:=Λ
def IP{α:Type}(p:Cd×α):List (Cd×α)->List (Cd×α)
 | []=>[p]
 |q::l=>if eP q.1 p.1=t_ then q::IP p l else p::q::l
def LI:List (Cd×α)->List (Cd×α)
 | []=>[]
 |p::l=>IP p<|LI l
theorem EA(p:Cd×α):∀l,dg (IP p l)<|p::l
 | []=>yG _
 |q::l=>by
  unfold IP;split;.show(kT<|dg.cons q<|EA p l)<|dg.swap p q l
  .show yG _
theorem yy:∀l:List<|Cd×α,dg (LI l) l
 | []=>yG _
 |p::l=>kT (EA p<|LI l)<|dg.cons p<|yy l
def leK{α:Type}(ix:α->Nat)(p q:Cd×α):Prop:=eP q.1 p.1=f_/\(eP p.1 q.1=t_∨ix p.2<=ix q.2)
theorem FB{α}ix p:∀l:List<|Cd×α,l.Pairwise (leK ix)->(∀q∈l,p.1=q.1->ix p.2<=ix q.2)->(IP p l).Pairwise (leK ix)
 | [],_,_=>eV ..
 |q::l,h,hp=>by
  have(h1,h2):=cJ.mp h;unfold IP;split
  .rename_i e;show e8 cJ (λr hr=>?_,FB ix p l h2 λr hr=>hp r<|mCo _ hr);obtain rfl|hr:=ag.mp<|(EA p l).mem_iff.mp hr;.show(HT.xh _ _ e,jB e)
   .show h1 r hr
  .rename_i e;have t:eP q.1 p.1=f_:=by simpa using e
   have n:∀r∈q::l,eP r.1 p.1=f_->leK ix p r:=λr hr z=>by show(z,?_);cases c:eP p.1 r.1 with
    |true=>show jB rfl
    |false=>show ir<|hp r hr<|aA4 _ _ c z
   show e8 cJ (λr hr=>n r hr ?_,h);obtain rfl|s:=ag.mp hr;.show t
   .show aAk _ _ _ t (h1 r s).1
theorem Di{α}ix:∀l:List<|Cd×α,l.Pairwise (λp q=>p.1=q.1->ix p.2<=ix q.2)->(LI l).Pairwise (leK ix)
 | [],_=>bp.nil
 |p::l,h=>by have(h1,h2):=cJ.mp h;show FB ix p _ (Di ix l h2) λq n=>h1 q<|(yy l).mem_iff.mp n
theorem Q7(g:α->β):∀l:List<|Cd×α,LI (l.map λp=>%[p.1|g p.2])=(LI l).map λp=>%[p.1|g p.2]
 | []=>rfl
 |p::l=>by
  have ins:∀l:List<|Cd×α,IP %[p.1|g p.2] (l.map λp=>%[p.1|g p.2])=(IP p l).map λp=>%[p.1|g p.2]:=λl=>by induction l with
   |nil=>rfl
   |cons q l n=>
    simp?[ax,IP];split;.rw[n];rfl
    .rfl
  change IP %[p.1|g p.2] (LI<|l.map _)=_;rw[Q7 g l,ins];rfl
def O4(f:MF)(d:D):Option Cd:=cc (f [d]) λa=>(match a with|b8 k=>xU k|_=>n_)
def FR(f:MF):List D->Option (List Cd)
 | []=>aK []
 |d::ds=>cc (O4 f d) λc=>(FR f ds).map λcs=>c::cs
def Z3(h:O4 f d=aK c):f [d]=aK (b8<|dC c):=by unfold O4 at h;have(a,n,l):=oBq.mp h;cases a with
 |sh k=>rw[n,Af l]
 |_=>cases l
theorem JI:∀{ds}{cs},FR f ds=aK cs->aX cs=aX ds
 | [],cs,h=>by cases h;rfl
 |d::ds,cs,h=>by have(c,r,h):=oBq.mp h;have(l,n,h):=oMq.mp h;cases h;simp[JI n]
theorem Ha:∀{ds}{cs},FR f ds=aK cs->∀(i:Nat) d c,ds[i]?=aK d->cs[i]?=aK c->O4 f d=aK c
 | [],cs,h=>λi d c e=>by cases e
 |d::ds,cs,h=>by have(c,l,h):=oBq.mp h;have(n,r,h):=oMq.mp h;cases h;intro i s t h1 h2;cases i with
  |zero=>cases h1;cases h2;show l
  |succ i=>show Ha r i s t (by show h1)<|by show h2
def Sh(ds:List D):Prop:=(∀d∈ds,∃M,d=dM M)∨∀d∈ds,∃c b,d = eH [dC c,dI b]
section
variable {K:Ζ}
theorem GL{α:Type}g(r:∀a b v,rq K H (g a) v->rq K H (g b) v->a=b):∀{as bs:List α}{vs},qo K H (as.map g) vs->qo K H (bs.map g) vs->as=bs
 | [],[],_,_,_=>rfl
 | [],b::bs,vs,h1,h2=>by have l:=h1.1;have n:=h2.1;simp at l n;lia
 |a::as,[],vs,h1,h2=>by have l:=h1.1;have n:=h2.1;simp at l n;lia
 |a::as,b::bs,vs,h1,h2=>by have(v,x,rfl,s,t):=eC (d:=g a) (ds:=as.map g) h1;have(y,u,e,b1,b2):=eC (d:=g b) (ds:=bs.map g) h2;cases e;rw[r a b _ s b1,GL g r t b2]
def Nq{α:Type}{g}(l:∀a b v,rq K H (g a) v->rq K H (g b) v->a=b){as bs:List α}(h1:rq K H (d9<|as.map g) v)(h2:rq K H (d9<|bs.map g) v):as=bs:=by have(p,t,rfl,n,r):=l5 h1;have(u,s,e,b1,b2):=l5 h2;cases e;rw[n]at b1;cases b1;show GL g l r b2
def Q4{α:Type}{g}(l:∀a b v,rq K H (g a) v->rq K H (g b) v->a=b){as bs:List α}(h1:rq K H (eH<|as.map g) v)(h2:rq K H (eH<|bs.map g) v):as=bs:=by have(p,t,rfl,n,r):=oe h1;have(u,s,e,b1,b2):=oe h2;cases e;rw[n]at b1;cases b1;show GL g l r b2
def RP:∀a b v,rq K H (bo a) v->rq K H (bo b) v->a=b:=λa b v h1 h2=>by cases h1;cases h2;rfl
def abX(h:Sh ds)(m:d∈ds)(l:d'∈ds)(r:rq K H d v)(r':rq K H d' v):d=d':=by
 have n:∀(a b:Ϝ) (v:V),rq K H (dI a) v->rq K H (dI b) v->a=b:=λa b v h1 h2=>Nq (g:=bo) RP h1 h2;obtain h|h:=h;.have(M,rfl):=h d m;have(G,rfl):=h d' l;rw[Nq (g:=dI) n r r']
 .have(c,b,rfl):=h d m;have(I,J,rfl):=h d' l;have(p,L,rfl,s,t):=oe r;have(O,u,e,b1,b2):=oe r';cases e;rw[s]at b1;cases b1;have(P,Q,rfl,x,y):=eC t;have(R,S,e,z,B):=eC b2;cases e;have(U,X,rfl,C,Y):=eC y;have(v4,w4,e,E,y4):=eC B;cases e;rw[Q4 (g:=λr:Ϝ=>eH<|r.map bo) (λa b v h1 h2=>Q4 (g:=bo) RP h1 h2) x z,n _ _ _ C E]
def acE(h:Sh ds)(m:d∈ds)(r:rq K H d v):∃p,v = cx p:=by
 obtain h|h:=h;.have(M,rfl):=h d m;have(p,_,e,_):=l5 r;show(p,e)
 .have(c,b,rfl):=h d m;have(p,_,e,_):=oe r;show(p,e)
theorem Qu:∀{vs}{es},Sh ds->(∀e∈es,e∈ds)->qo K H es vs->∃l:Δ,vs=l.map cx
 | [],es,_,_,_=>([],rfl)
 |v::vs,[],_,_,r=>by have:=r.1;simp at this
 |v::vs,e::es,h,m,r=>by have(y,z,n,s,t):=eC r;cases n;have(p,rfl):=acE h (m e<|ai ..) s;have(l,rfl):=Qu h (λx u=>m x<|mCo _ u) t;show(p::l,rfl)
end
section
variable {K:Ζ}
theorem L1:∀{ds}{vs}{cs}ks {H}{Q0},qk u H->qo K u ds vs->FR f ds=aK cs ->
  (∀t (n:Δ),qk H t->aX n=aX cs->(∀(i:Nat) p c,n[i]?=aK p->cs[i]?=aK c->yX t p c)->Q0 (ks++n.map cx) t)->ON (sH K f) E0 vs ks H Q0
 | [],vs,cs,ks,H,Q0,s,r,e,q=>by
  cases e;rw[h8 r];have:=q H [] (j9 _) rfl<|λi p c h=>by cases h
  rw[jm,aNq]at this;show this
 |d::ds,vs,cs,ks,H,Q0,s,r,e,q=>by
  have(c,B,e):=oBq.mp e;have(C,E,e):=oMq.mp e;cases e;have(v,S,rfl,G,I):=eC r;show(u,[d],b8<|dC c,s,.cons G .nil,Z3 B,λx t w F U y J X L nd fr=>?_);have Ct:rq K x (dC c) w:=by cases L with|sh r=>show r
  have(p,rfl,M):=K4 Ct;show L1 (ks++[cx p]) (eM s y) I E λO n z hl P=>?_;have:=q O (p::n) (eM y z) (by simp[hl]) λi Q R h1 h2=>by cases i with
   |zero=>cases h1;cases h2;show(M.same J).same z
   |succ i=>show P i Q R (by show h1)<|by show h2
  rw[ax]at this;rw[bg];show this
end
def II{α:Type}(a:α):List α->Nat
 | []=>0
 |x::l=>@ite _ (x=a) (dE _) 0<|II a l+1
theorem Dn{a:α}:∀l j,l[j]?=aK a->II a l<=j/\l[II a l]?=aK a
 | [],j,h=>by cases h
 |x::l,j,h=>by
  unfold II;by_cases e:x=a;.rw[qz e];show(aH _,by rw[e];rfl)
  .rw[qE e];cases j with
   |zero=>cases h;show absurd rfl e
   |succ j=>
    have(h1,h2):=Dn l j<|by show h
    show(by rfl',by show h2)
def NI(cs:List Cd)(ds:List D):Prop:=∀(i j r:Nat) d d',i<j->j<r->ds[i]?=aK d->ds[r]?=aK d->ds[j]?=aK d'->cs[i]?=cs[j]?->d'=d
def Gp(f:MF)(l:ML):MK:=λS=>cc (l S) λx=>cc (FR f x.1) λcs=>wa (aX x.1<64/\(∀c∈cs,c≠[])/\Sh x.1/\NI cs x.1)<|aK %[el<|(LI<|ph cs x.1).map λp=>b8 p.2|x.2]
def VN(f)l S:Gp f l S=cc (l S) λx=>cc (FR f x.1) λcs=>wa (aX x.1<64/\(∀c∈cs,c≠[])/\Sh x.1/\NI cs x.1)<|aK %[el<|(LI<|ph cs x.1).map λp=>b8 p.2|x.2]:=rfl
section
variable {K:Ζ}
def Ud(hl:SQ K te l):SK K (QI K (sH K f) E0<|uK te wV)<|Gp f l:=by
 intro H₀ Hf₀ Hf S σ H Fs av S' R e Q q;have(x,e1,e):=oBq.mp e;have(cs,e2,e):=oBq.mp e;obtain⟨⟨h64,hne,Y,hni⟩,e⟩|e:=qe e
 .cases e;show hl R (ds:=x.1) (S':=x.2) e1 _ λX H1 Fs1 p1 vs1 t1 R1 h1 r1=>?_;generalize x.1=n at *;have(u,rfl):=Qu Y (λZ h=>h) r1;have lds:aX n=aX u:=by have:=r1.1;simpa using this
  have lcs:=JI e2;show(p1,u,rfl,h1,by lia,L1 [] R1.sub r1 e2 λH' cps s' lc hc=>?_);rw[gO];have y:∀j z,u[j]?=aK z->∃d,n[j]?=aK d:=λj z h=>(n[j]'(by rw[lds];show(gSq.mp h).1),gEg _);have G:∀j d,n[j]?=aK d->∃c,cs[j]?=aK c:=λj d h=>(cs[j]'(by rw[lcs];show(gSq.mp h).1),gEg _);have rz:∀j z d,u[j]?=aK z->n[j]?=aK d->rq K X d (cx z):=λj z d h O=>r1.2 j d _ O<|by rw[gMq,h];rfl
  obtain⟨B,I⟩:∃B:Addr->D,∀j z d,u[j]?=aK z->n[j]?=aK d->B z=d:=(λz=>dk n (II z u) kR,λj z d h O=>by have(E,g2):=Dn u j h;have(d0,J):=y _ _ g2;change dk n (II z u) kR=d;rw[gDq,J];show abX Y (mGq J) (mGq O) (rz _ z d0 g2 J)<|rz j z d h O);obtain⟨code,s⟩:∃code:D->Cd,∀j d c,n[j]?=aK d->cs[j]?=aK c->code d=c:=(λd=>dk cs (II d n) [],λj d c h O=>by have(E,g2):=Dn n j h;have(c0,J):=G _ _ g2;change dk cs (II d n) []=c;rw[gDq,J];have t:=Ha e2 _ _ _ g2 J;rw[Ha e2 _ _ _ h O]at t;show(aK.inj t).symm);have mono:∀(j r:Nat) (d M:D),j<r->n[j]?=aK d->n[r]?=aK M->code d=code M->II d n<=II M n:=λj r d M L h O P=>by
   have(u1,u2):=Dn n j h;have(w1,w2):=Dn n r O;by_cases hlt:II M n<II d n
   .have(c1,t):=G _ _ w2;have(c2,C):=G _ _ h;have z:=hni (II M n) j r M d ∅ L w2 O h<|by rw[t,C,←s _ _ _ w2 t,←s _ _ _ h C,P]
    rw[z];show ab _
   .rfl'
  show(cps,cs,λz=>code<|B z,λz=>II (B z) n,rfl,fQ lc,λi p c E g2=>(hc i p c E g2,hne c<|mGq g2),λj z c E g2=>?_,λj r z z' L E g2 J g4=>?_,λa zs ha st=>?_);.have(d,J):=y j z E;change code (B z)=c;rw[I j z d E J];show s j d c J g2
  .have(d,t):=y j z E;have(M,C):=y r z' g2;have a1:=I j z d E t;have a2:=I r z' M g2 C;have g5:code (B z)=code (B z'):=aA4 _ _ J g4;change II (B z) n<=II (B z') n;simp?[a1,a2]at *;show mono j r d M L t C g5
  .have R2:=R1.laid s';have ts:zW X H1 Fs1 X H' Fs1:=(j9 _,s',λZ h=>h,λb h g=>absurd h g);have(t4,R4,n1,n2,n3):=R2.new (o:=et<|zs.map cx) ha;have pz:u.map (λz=>%[code<|B z|B z])=ph cs n:=by show cC λj=>?_;rw[gMq];cases g:u[j]? with
    |none=>have:=fO.mp g;rw[e8 fO<|by rw[eZ];ac_nf];rfl
    |some z=>have(d,t):=y j z g;have(c,C):=G j d t;rw[show(ph cs n)[j]?=aK %[c|d]from e8 bY (C,t)];change aK %[code<|B z|B z]=aK %[c|d];rw[I j z d g t,s j d c t C]
   have U:∀p∈ph cs n,p.2∈n:=λp hp=>(gM hp).2;have eq:zs.map (λz=>%[code<|B z|B z])=LI (ph cs n):=by
    show dg.eq_of_pairwise (le:=leK λd=>II d n) (λp r hp hr l1 l2=>?_) ?_ (Di _ _ ?_)<|kT (kT (st.1.map _)<|.of_eq pz)<|T1<|yy _
    .have m1:p∈ph cs n:=by rw[←pz];show(st.1.map _).mem_iff.mp hp
     have m2:r∈ph cs n:=(yy _).mem_iff.mp hr;have c1:p.1=r.1:=aA4 _ _ l2.1 l1.1;have i1:II p.2 n<=II r.2 n:=sr l1.2<|by rw[c1,HT.xM];show aZ
     have i2:II r.2 n<=II p.2 n:=sr l2.2<|by rw[c1,HT.xM];show aZ
     have(j1,t):=aj.mp<|U p m1;have(j2,C):=aj.mp<|U r m2;have a1:=(Dn n j1 t).2;have a2:=(Dn n j2 C).2;rw[jR i1 i2,a2]at a1;show iO c1<|fQ<|aK.inj a1
    .show e8 aG st.2
    .show e8 bF λj r hj hr L P=>?_;simp?[eZ]at hj hr;rw[jJ,jJ]at P ⊢;have t:n[j]?=aK n[j]:=gEg<|by omega
     have C:n[r]?=aK n[r]:=gEg<|by omega
     show mono j r _ _ L t C ?_;rw[s j _ _ t<|gEg ∅,s r _ _ C<|gEg ∅];show P
   have e3:(LI<|ph cs n).map (λp=>b8 p.2)=(zs.map B).map b8:=by rw[←eq,mPq,mPq];rfl
   rw[e3]at q;show q _ _ _ (cx a) [a] (hU (hU t1 ts) t4) R4 (x4 pW n1 ?_)<|(q5 R2 ha).back<|hU t1 ts;show(by simp,λi d v E g2=>?_);rw[gMq]at E g2;cases g:zs[i]? with
   |none=>rw[g]at E;cases E
   |some z=>rw[g]at E g2;cases E;cases g2;have(j,t):=aj.mp<|st.1.mem_iff.mp<|mGq g;have(d,C):=y j z t;rw[I j z d t C];show rz j z d t C
 .cases e
end
end Z
namespace Mr
open PySem PySem.Spec PyProof.Rows L2
def qd(S:pS N P sc)(n:PE X e te)(r:↑(X.N=N))(s:↑(X.N[i]?=aK x))(t:Loc X.env.scope x:=by first|show jB rfl|show ir rfl)(u:↑(oz e (aK<|g9 x l) pos.line X.env=pure f_))(hf:↥(X.fn x=t_∨X.env.scope.names.lookup x=aK kU)) :
  PS X (aAh [g9 x l] e pos)<|Hk te<|uv i:=aa6 (r ▸ S.nd) s t n u hf
def vz(S:pS N P sc)(l:↑(X.N=N))(n:↑(X.N[i]?=aK x))(r:Loc X.env.scope x:=by first|show jB rfl|show ir rfl)(hf:↥(X.fn x=t_∨X.env.scope.names.lookup x=aK kU)):PG X (g9 x pos)<|uv i:=KN (l ▸ S.nd) n r hf
section
variable {st:Stmt}
def qj(G:Fn X.prog X.w X.K X.mg X.base k x st ps sp f fd)(hr:uF n X.A)(ha:PA X (e::es) t)(hk:⇑(k<=n))(s:↑(Gl X x))(l:⇑((x == ("__debug__" : Str))=f_))
  (u:↑(kO (e::es) X.env=%[f_|eval e<|iI X]::kO es X.env)) (r:↑((mE pos<|kO es<|iI X).any (·.1)=f_)) :
  PE X (m8 (g9 x p) (e::es) [] pos)<|Mv sp [] E0 t:=ad4 G (hr.mono hk) ha s l u r
end
def sC(a:↑(l.kind = pk))(b:↑(l.isCoroutine=f_))(c:↑(l.isGenerator=f_))(d:↥(c9 N))(e:↑(N.take (aX P)=P))(f:↥(∀x∈P,l.names.lookup x=aK kU∨l.names.lookup x=aK o6))(g:↥(∀y∈hZ l,y.2 ≠ p4)):pS N P l:=(a,b,c,d,e,f,g)
def Jv{K}{st}(D:xP K mg x st ps f fd)(S:pS N ps<|oX st)
  (h:∀l A outer s H E,uF k (rp A<|mJ x (oX st) s⁻¹ f l)->ic (rp A<|mJ x (oX st) s⁻¹ f l)+64<lg->ic (rp A<|mJ x (oX st) s⁻¹ f l)+65<lg ->
   ∃t,LN (Lz XN P w K mg base N x (oX st) f l A outer s H E).nox (vF st) t/\Z.SS K t m):Fn P w K mg base (k+1) x st ps (Z.sH K<|Z.sL (aX ps) (aX N) m) f fd:=(D,D.F.ok S (λn H Q E h=>Z.OH h) λl A outer s H n Q E hr hh=>by have(t,a,b):=h l A outer s H E hr hr.units<|uF.units65 hr;show(t,a,Z.GO N b hh))
def FZ{K}{st}(D:xP K mg x st ps f fd)(S:pS N ps<|oX st)
  (h:∀l A outer s H E,pS N ps (oX st)->uF k (rp A<|mJ x (oX st) s⁻¹ f l)->ic (rp A<|mJ x (oX st) s⁻¹ f l)+64<lg->ic (rp A<|mJ x (oX st) s⁻¹ f l)+65<lg ->
   ∃t,Z.SS K t m/\LN (Lz XN P w K mg base N x (oX st) f l A outer s H E).nox (vF st) t):Fn P w K mg base (k+1) x st ps (Z.sH K<|Z.sL (aX ps) (aX N) m) f fd:=(D,D.F.ok S (λn H Q E h=>Z.OH h) λl A outer s H n Q E hr hh=>by have(t,b,a):=h l A outer s H E S hr hr.units<|uF.units65 hr;show(t,a,Z.GO N b hh))
def aa1(n:ic X.A+1<lg)(r:PE X i ty)(s:PE X o l)(h1:mS S3 o=f_):PT X (T2 i [S3] [o] pos)<|tB<|Lk ty l:=Dg (xk n r s) h1
end Mr
namespace L2
open PySem PySem.Spec PyProof.Rows
def acV(H:Hp):Prop:=∀b,H b=n_∨(∃o xs,H b=aK (pT o<|et xs))∨∃q,H b=aK (.tbl q)
def Fl(K:Ζ)(h:Heap):Prop:=∀q∈wD K,(wD K).lookup q.1=aK q.2/\K.lookup q.1=n_/\c7 h q.1=aK (W.tabObj #[])/\∃c,W.CodeHd h c q.1
structure Ent (K:Ζ)(a:Addr)(ob:Obj)(xs:List V)(H:Hp):Prop where
 what:∀b u,H b=aK u->(b=a/\K.lookup a=n_/\u = .frz ob (.lst xs))∨∃q,u = .tbl q/\%[b|q]∈wD K
 tb:YI K H
def Ent.only{K}(e:Ent K a ob xs H):acV H:=λb=>by cases q:H b with
 |none=>show jB rfl
 |some u=>
  obtain⟨_,_,z⟩|⟨l,z,_⟩:=e.what b u q;.show ir<|jB (ob,xs,by rw[z])
  .show ir<|ir (l,by rw[z])
section
variable {K:Ζ}{mg mb:Str->Υ}{s₁:Shared}{vs:Ξ}{ns:Ϝ}
def Ent.none(e:Ent K a { cls:=iD "list", data:=k6<|b9 vs } (ns.map c8) H)(ha:c7 (b7 s₁) a=aK { cls:=iD "list", data:=k6<|b9 vs })(l:Fl K<|b7 s₁)(h:c7 (b7 s₁) b=aK o)(h1:o.cls = iD "list" -> False∨∃es ep,vr o = x6 es ep)(h2:o.cls = gX->∃es ep,vr o = x6 es ep):H b=n_:=by cases q:H b with
 |none=>rfl
 |some u=>
  obtain⟨z,_,_⟩|⟨n,_,z⟩:=e.what b u q
  .subst z;rw[ha]at h;cases h;obtain z|⟨_,_,z⟩:=h1 rfl;.show hD z
   .cases z
  .have:=(l _ z).2.2.1;rw[h]at this;cases this;have(_,_,z):=h2 rfl;cases z
def M1(C:Ent K a { cls:=iD "list", data:=k6<|b9 vs } (ns.map c8) H)
  (KX:K.In<|b7 s₁) (E:s₁.heap.Ns kN mg) (O:s₁.heap.Ns mH mb) (Q:∀x:Str,x ≠ "__name__" -> mb x=mM x) (G:s₁.heap.NoLimit) (hg:s₁.gens=#[]) (M:Fl K<|b7 s₁)
  (R:∃I o,mg "__builtins__" = aK (ao I)/\I≠mH/\c7 (b7 s₁) I=aK o/\o.cls = iD "module" /\ o.dict=aK mH/\vr o = .plain)
  (ha:c7 (b7 s₁) a=aK { cls:=iD "list", data:=k6<|b9 vs }) (hr:uF k nO)
  (F:∀base:Heap,K.In base->base.Ns kN mg->An P w K mg base CX k fa fd [x] sp) (y:∀s u,oa s fd ([u],[]) [%[x|u]])
  (hok:Dw P w H<|b7 s₁) (S:sp [cx a] H (λv Z=>v = lR t_) λZ Z Z=>False)
  (U:∀H e B,CX [] H s₁ (λZ Z Z=>False) e B->False) :
  mq (kG P w) nO (.call (ao fa) ([ao a],[])) (λr B=>r = T3 (pG<|eF t_)/\OldK s₁.heap B.heap/\B.os=s₁.os/\nF B.gens) s₁:=by
 have l:∀{b:Addr}{m:Str->Υ},s₁.heap.Ns b m->(Nl s₁.heap H).Ns b m:=λ{b m} ⟨o,es,ep,e,d,r⟩=>(o,es,ep,Ho e<|C.none ha M e (λZ=>ir (es,ep,d)) λZ=>(es,ep,d),d,r);have J:K.In<|Nl s₁.heap H:=λb o e=>Ho (KX b o e) (by cases q:H b with
  |none=>rfl
  |some u=>
   obtain⟨z,X,_⟩|⟨Y,_,z⟩:=C.what b u q;.rw[z,X]at e;cases e
   .rw[(M _ z).2.1]at e;cases e);have hM:Mod K mg<|Nl s₁.heap H:=(J,l E,(mb,l O,Q),let ⟨mc,h1,h2⟩:=G;(mc,l h1,h2),by have(I,o,b1,b2,b3,b4,b5):=R;show(I,o,b1,b2,Ho b3 (C.none ha M b3 (λz=>by rw[b4]at z;injection z with z;show absurd z ⋯) λz=>by rw[b4]at z;cases z),b4,b5));have e0:Wb P w K mg (Nl s₁.heap H) nO [] s₁ H:=(rfl,hM,λb o e=>Z2 e,dX<|TK _ _,trivial,λb O=>absurd (show b∈([]:Δ)from O) ⋯,hok,.of_eq hg,C.tb);show mZ ((F _ J<|l E).run nO [] s₁ H ([ao a],[]) [ao a] [cx a] _ _ hr e0 (y s₁<|ao a) (hL rfl j8) S) λr B h=>?_;cases r with
 |error e=>show(U H e B h).elim
 |ok fl=>cases fl with
  |next=>show hD h
  |brk=>show hD h
  |cont=>show hD h
  |ret u=>have(v,H',os,bare,un,n,r',q):=h;have Y:v = lR t_:=q;subst Y;obtain rfl:u=eF t_:=r';have nf:∀b:Addr,b∉Uj []:=λb z=>absurd (show b∈([]:Δ)from z) ⋯;show(rfl,(λb o e=>?_,λb o e=>un.there b o e ⋯),os,bare);cases q:H b with
   |none=>show jB<|un.keep b o e q (nf b) ⋯
   |some u=>
    obtain⟨z1,_,z⟩|⟨Y,z,zm⟩:=C.what b u q;.subst z;have X:=un.frzs b _ _ q;have(e1,_):=hok b _ q;have(e2,_):=n b _ X;rw[e]at e1;cases e1;show jB e2
    .subst z;have(_,_,h3,c,hc):=M _ zm;have L:c7 (b7 s₁) b=aK (W.tabObj #[]):=h3;rw[e]at L;cases L;have(ps,e2,_):=n b _<|un.tbls b _ q;have t:=hc.tab h3;show ir<|jB (t.isCodeTable,rfl,#[],ps,rfl,by rw[Array.empty_append];show e2)
end
theorem yY{α:Type}{q}:∀{l:List<|Addr×α},l.lookup b=aK q->%[b|q]∈l
 | [],h=>by cases h
 | %[c|r]::l,h=>by rw[fF]at h;cases e:b == c with
  |true=>rw[e]at h;cases h;rw[beq_iff_eq.mp e];show .head _
  |false=>rw[e]at h;show .tail _<|yY h
def Xs{K}{mg mb:Str->Υ}{vs:Ξ}{ns:Ϝ}
  (Y:K.In<|b7 l) (J:l.heap.Ns kN mg) (t:l.heap.Ns mH mb) (L:∀x:Str,x ≠ "__name__" -> mb x=mM x) (y:l.heap.NoLimit) (hg:l.gens=#[]) (I:Fl K<|b7 l)
  (M:∃bm o,mg "__builtins__" = aK (ao bm)/\bm≠mH/\c7 (b7 l) bm=aK o/\o.cls = iD "module" /\ o.dict=aK mH/\vr o = .plain)
  (ha:c7 (b7 l) a=aK { cls:=iD "list", data:=k6<|b9 vs }) (hi:lI vs ns) (hl:aX ns<=kK) (hr:uF k nO)
  (F:∀base:Heap,K.In base->base.Ns kN mg->An P w K mg base CX k fa fd [x] sp) (n:∀s u,oa s fd ([u],[]) [%[x|u]])
  (O:∀H:Hp,acV H->sN K H a (ns.map c8)->sp [cx a] H (λv Z=>v = lR t_) λZ Z Z=>False)
  (Q:∀H e R,CX [] H l (λZ Z Z=>False) e R->False) :
  mq (kG P w) nO (.call (ao fa) ([ao a],[])) (λr R=>r = T3 (pG<|eF t_)/\OldK l.heap R.heap/\R.os=l.os/\nF R.gens) l:=by
 have rv:=vals_ints hi;have S:=G1 hi;have U:∀(H:Hp) q,q∈wD K->tE P w H l.heap q.1 (.tbl q.2):=λH q B=>(#[],(I q B).2.2.1,trivial,λp cv z=>by cases z);have tN:∀q∈wD K,q.1≠a:=λq B z=>by have:=(I q B).2.2.1;rw[z,ha]at this;cases this
 cases hk:K.lookup a with
 |some o=>have e:=Y a o hk;rw[ha]at e;cases e;have X:Ent K a { cls:=iD "list", data:=k6<|b9 vs } (ns.map c8)<|λb=>((wD K).lookup b).map HO.tbl:=(λb u z=>by have(q,C,E):=oMq.mp z;show ir (q,fQ E,yY C),λq B=>by change((wD K).lookup q.1).map HO.tbl=_;rw[(I q B).1];rfl);show M1 X Y J t L y hg I M ha hr F n (λb u z=>?_) (O _ X.only<|ir (_,b9 vs,_,hk,rfl,rfl,rfl,by rw[aq,S];show hl,by show rv)) Q;have(q,C,E):=oMq.mp z;rw[←E];show U _ %[b|q]<|yY C
 |none=>
  have X:Ent K a { cls:=iD "list", data:=k6<|b9 vs } (ns.map c8)<|λb=>if b=a then aK (pT { cls:=iD "list", data:=k6<|b9 vs }<|et<|ns.map c8)else ((wD K).lookup b).map HO.tbl:=(λb u z=>by
   by_cases t:b=a;.have G:=eI (qz t).symm z;cases G;show jB (t,hk,rfl)
   .have G:=eI (qE t).symm z;have(q,C,E):=oMq.mp G;show ir (q,fQ E,yY C),λq B=>by show(eI<|qE<|tN q B) ?_;rw[(I q B).1];rfl);show M1 X Y J t L y hg I M ha hr F n (λb u z=>?_) (O _ X.only<|jB<|ir (_,qz rfl)) Q;by_cases t:b=a;.have G:=eI (qz t).symm z;cases G;cases t;show(ha,by rw[lMq];show hl,vs,_,rv,ha)
  .have G:=eI (qE t).symm z;have(q,C,E):=oMq.mp G;rw[←E];show U _ %[b|q]<|yY C
def Zz{l:W.OpenLaw}{P:(Str->Υ)->Heap->Prop}{K:Params->Ζ}{CX:kM->Ou}{sp:kM->Sp}
  (hn:l.most=aK n) (C:n<=kK) (E:d.params.defaults=[]) (hr:uF k nO)
  (Q:∀w h,B w h->(K w.params).In h) (R:∀w h,B w h->Fl (K w.params) h)
  (F:∀w (mg:Str->Υ) fa h,(K w.params).In h->h.Ns kN mg->mg d.name=aK (ao fa) ->
   ∃fd:lH,(∀s u,oa s fd ([u],[]) [%[x|u]]) /\
    ∀base:Heap,(K w.params).In base->base.Ns kN mg->An l.prog w (K w.params) mg base (CX w) k fa fd [x] (sp w))
  (I:∀w H a (ns:Ϝ),aX ns<=n->acV H->sN (K w.params) H a (ns.map c8)->sp w [cx a] H (λv Z=>v = lR t_) λZ Z Z=>False)
  (J:∀w H s e L,CX w [] H s (λZ Z Z=>False) e L->False) :
  W.WalkO q loose P B l.row.toRowW d []<|λf vs=>aC0 f vs:=by show Att.NJ hn E λw s₀ y mg mb fa o pm cd S a vs ns G Y ho hd U M z t r X=>?_;have O:=Q w _ Y;have(fd,hb,hF):=F w mg fa _ O G.T.g M;show Xs O G.T.g G.T.b G.T.builtins G.T.nolimit X (R w _ Y) G.T.bmain z t (bH r C) hr hF hb (λH hO hS=>I w H a ns r hO hS) λH e L=>J w H y e L
end L2
namespace Zl
open PySem L2 Mr Z
def ES:MS:=(oZ (wz (rH<|pU Al (tY qV<|oQ (oR 0) oV)<|rC<|bo 0) (qB<|tF pJ) qm)
 (oZ (pX 1<|kSc<|Oj "list" Ez (oR 0)<|oQ (tY ZK<|oQ (oR 0) oV) oV)
 (qB<|EV (lOf<|JZ (sX 0) (tX<|oR 1) xT)<|lOf<|JZ (sX 0) xT<|tX<|oR 1)))
def Aj:MF:=sL 1 2 ES
def yR:MS:=(LZ 1<|DT 2)
def Ep:MS:=(oZ (pX 1<|tF pJ)
 (oZ (A4 2 (pD 0) yR)
 (qB<|Bl 1)))
def wk:MF:=sL 1 3 Ep
def AQ:MS:=(oZ (wz (rH<|pU Qt (oR 1)<|tY qV<|oQ (oR 0) oV) (qB<|kSc<|pU DF (oR 0)<|oR 1) qm)
 (qB<|kSc<|rC<|bo 0))
def pK:MF:=sL 2 2 AQ
def Ap:MS:=(qB<|J8<|rF (wC<|pD 0) [] qi<|pQ Zl.Aj<|oU (pD 0) pJ)
def uT:MF:=sL 1 1 Ap
def HC:MS:=(qB<|Kf<|lOf<|pQ Zl.wk<|oU (pD 0) pJ)
def Av:MF:=sL 1 1 HC
def yT:MS:=(xS 1 (oR 4)<|pD 2)
def yM:MS:=(A4 4 (pD 3) yT)
def DV:MS:=(oZ (pX 1 C2)
 (oZ (Nf 2 3 (pD 0) yM)
 (qB<|Bl 1)))
def xN:MF:=sL 1 5 DV
def B7 ns(h:0<=k):pK [ov ns,bo k]=i0 (cell ns<|jz k):=by
 by_cases c:k<(aX ns)
 .have hk:jz k<aX ns:=by ac_nf
  have e:=zC hk;simp! [pK,AQ,c,D7 h,gEg hk,cell,e]
 .have hk:aX ns<=jz k:=by lia
  have e:dk ns (jz k) 0=0:=by rw[gDq,aR hk];rfl
  simp! [pK,AQ,c,cell,e]
def XS ns:pK [ov ns,bo 0]=i0 (cell ns 0):=B7 ns ⋯
def XO ns:pK [ov ns,bo 1]=i0 (cell ns 1):=B7 ns ⋯
def RC ns:pK [ov ns,bo 2]=i0 (cell ns 2):=B7 ns ⋯
def Sa{ns:Ϝ}:ns.foldl min n∈n::ns/\∀x∈n::ns,ns.foldl min n<=x:=(vP ns n,λx l=>(ag.mp l).elim (λe=>e ▸ (wK ns n).1)<|(wK ns n).2 x)
def Tj(hl:aX ns<=500000):Aj [dI ns]=aK (aI<|good ns):=by cases ns with
 |nil=>have h1:((0))=0:=rfl;simp! [Aj,ES,h1];rfl
 |cons n ns=>
  have(h1,h2):=Sa;have e:=FG h1 h2;have l:=P7<|n::ns;have s:¬ (aX<|n::ns:Int)=0:=by simp?[lCq];lia
  have t:ZK [dI<|n::ns]=aK (bo<|ns.foldl min n):=by change(su<|(n::ns).map bo).bind (λns=>(DD ns).map bo)=_;rw[rP];rfl
  have u:Ez (dI<|n::ns) [bo<|ns.foldl min n]=aK (bo<|qM (n::ns)<|aX<|n::ns):=by change(su<|(n::ns).map bo).bind _=_;rw[rP];change(if _ then _ else _)=_;rw[qz h1,e]
  generalize x:n::ns=N at *;have r:aX (N.drop<|qM N<|aX N)+aX (N.take<|qM N<|aX N)<=qZ:=by rw[aL,lTq];change _<=16777216;lia
  simp! [Aj,ES,s,t,u,Ac,Cp N _ l,Ar N _ l,r,←mBq,Gw];rfl
def sW{rs:Λ}{r:Ϝ}(h:rs[i]?=aK r):bf (rs.take<|i+1)=bf (rs.take i)++r:=by rw[fg,h];simp
def vV(rs:Λ)i:aX (rs.take i).flatten<=aX (bf rs):=by have:=congrArg aX<|congrArg bf<|aQ i rs;rw[fAq,lAq]at this;lia
def Gg{rs:Λ}{i:Nat}(h:(rs.map dI)[i]?=aK d):∃r,rs[i]?=aK r/\d=dI r:=by rw[gMq]at h;have(r,h1,h2):=oMq.mp h;show(r,h1,fQ h2)
def RV{ns:Ϝ}{i:Nat}(h:(ns.map bo)[i]?=aK d):∃z,ns[i]?=aK z/\d = bo z:=by rw[gMq]at h;have(r,h1,h2):=oMq.mp h;show(r,h1,fQ h2)
def Lv(hl:aX (bf rs)<=500000):wk [dM rs]=aK (aI<|bf rs):=by
 have key:=uL (x:=2) (body:=yR) (λi S=>∃v,S=[aK<|b8<|dM rs,aK<|aI<|bf<|rs.take i,v]) (S:=[aK<|b8<|dM rs,aK<|el [],n_]) (n_,by rfl) (by
  rintro i d S hd ⟨v,rfl⟩;have(r,hr,rfl):=Gg hd;have h1:=sW hr;have h2:=vV rs<|i+1;rw[h1,lAq]at h2;have l:aX (rs.take i).flatten+aX r<=qZ:=by lia
  show(_,?_,aK<|b8<|dI r,rfl);rw[h1];simp! [yR,l,Gw,←mBq]);have(n,e,v,rfl):=key;rw[lMq,aS]at e;simp! [wk,Ep,e]
def aaQ{rs:Λ}(h:d∈rs.map dI):∃r∈rs,d=dI r:=by have(r,h1,h2):=mMq.mp h;show(r,h1,fQ h2)
def YG:D->Ϝ
 | d9 ds=>rh (su ds) []
 |_=>[]
def Ra r:YG (dI r)=r:=by change(su<|r.map bo).getD []=r;rw[rP];rfl
def Xw{β:Type}(g:Ϝ->β)(rs:Λ):(rs.map dI).map (λd=>g<|YG d)=rs.map g:=by rw[mPq];show mCq λr Q=>by change g (YG<|dI r)=g r;rw[Ra]
def NL{rs:Λ}(hl:∀r∈rs,aX r<=500000):qJ qi (pQ Aj<|oU (pD 0) pJ) [] (rs.map dI)=aK ((rs.map good).map aI):=by
 rw[qN<|λd=>aI<|good<|YG d];.rw[Xw<|λr=>aI<|good r,mPq];rfl
 .intro d hd;have(r,hr,rfl):=aaQ hd;show([aK<|b8<|dI r],?_);simp! [Tj<|hl r hr,Ra]
def ae0{l:Λ}(h:a<aX l):atI (l.map dI) (a:Int)=aK (dI<|dk l a []):=by rw[Yq,D7<|by rfl',cB,gDq,gEg h];rfl
def EI(hl:∀r∈rs,aX r<=500000)(t:aX rs<=63):uT [dM rs]=aK (el<|(Fe<|rs.map good).map aI):=by
 have n:=NL hl;have s:aX rs<=qZ:=by change _<=16777216;lia
 have l:(aX rs<64)=True:=eq_true<|by rfl'
 simp! [uT,Ap,n,s,l]
end Zl
open Zl renaming pK->nC
namespace Zl
open PySem L2 Mr Z Xe
noncomputable def bare(rs:Λ):Nat:=rs.countP (·=([]:Ϝ))
section
variable {rs:Λ}(hl:rs.flatten.length<=500000)
include hl
end
end Zl
namespace Zl
open PySem L2 Mr Z
def Q8(hl:aX (bf rs)<=63):Av [dM rs]=aK (aI<|qY<|bf rs):=by
 have l:(aX (bf rs)<64)=True:=eq_true<|by rfl'
 simp! [Av,HC,Lv<|bH hl ⋯,l]
def uS(p:Nat)(r:Ϝ):List<|pZ×D:=r.map λe=>%[ak e|bo (p:Int)]
def qt:Nat->Λ->List (pZ×D)
 |_,[]=>[]
 |p,r::rs=>uS p r++qt (p+1) rs
theorem B0 r:∀rs p,qt p (rs++[r])=qt p rs++uS (p+aX rs) r
 | [],p=>by simp[qt]
 |s::rs,p=>by change uS p s++qt (p+1) (rs++[r])=(uS p s++qt (p+1) rs)++_;simp?[B0 r rs<|p+1,bg,lCq,show p+1+aX rs=p+(aX rs+1) by rfl']
theorem zL:∀rs p,(qt p rs).map (·.1)=rs.flatten.map ak
 | [],p=>rfl
 |r::rs,p=>by change(uS p r++qt (p+1) rs).map (·.1)=_;simp?[mBq,zL rs<|p+1,fCq,mBq];unfold uS;rw[mPq];rfl
def Hi(rs)p:aX (qt p rs)=aX (bf rs):=by have:=congrArg aX<|zL rs p;rwa [lMq,lMq]at this
def yQ(h:k∉kvs.map (·.1)):xj kvs k d=kvs++[%[k|d]]:=by unfold xj;rw[qE];intro e;have(kv,hk,e):=cW.mp e;show h<|e8 mMq (kv,hk,of_decide_eq_true e)
theorem getD_app:∀{a b},k∉a.map (·.1)->e9 (a++b) k=e9 b k
 | [],b,_=>rfl
 |x::a,b,h=>by unfold e9;rw[fE,bP<|by intro e;show h<|by rw[←of_decide_eq_true e];simp];show getD_app λm=>h<|by simp?[ax,ag];show ir m
theorem MQ:∀{r},e∈r->e9 (uS p r++b) (ak e)=aK (bo p)
 | [],h=>by cases h
 |x::r,h=>by
  change((%[(ak x)|bo<|p]::(uS p r++b)).find? _).map _=_;by_cases c:x=e;.subst c;rw[bW ⋯];rfl
  .rw[bP<|by simp[c]];show MQ<|sr (ag.mp h) λz=>c<|fQ z
theorem A6{r:Ϝ}:∀{rs:Λ}{i:Nat}p,c9 (bf rs)->rs[i]?=aK r->e∈r->e9 (qt p rs) (ak e)=aK (bo ((p+i:Nat):Int))
 | [],i,p,_,h,_=>by simp at h
 |s::rs,0,p,hn,h,he=>by simp at h;subst h;show MQ he
 |s::rs,i+1,p,hn,h,he=>by
  rw[fCq,nAq]at hn;have l:=by show h
  have:=A6 (p+1) hn.2.1 l he;rw[show p+1+i=p+(i+1) by rfl']at this;rw[←this];show getD_app ?_;unfold uS;rw[mPq];intro m;have(x,n,t):=mMq.mp m;cases t;show hn.2.2 _ n _ (e8 mFq (r,mGq l,he)) rfl
def DA(hn:c9<|bf rs)(hl:aX (bf rs)<=500000):xN [dM rs]=aK (eu<|qt 0 rs):=by have key:=Qz (x:=2) (y:=3) (k:=0) (body:=yM) (λi S=>∃B C l,S=[aK<|b8<|dM rs,aK<|eu<|qt 0<|rs.take i,B,C,l]) (ds:=rs.map dI) (S:=[aK<|b8<|dM rs,aK<|eu [],n_,n_,n_]) (n_,n_,n_,rfl) (by
  rintro i d S hd ⟨B,C,l,rfl⟩;rw[aU];have(r,hr,rfl):=Gg hd;have s:=sW hr;have E:=vV rs<|i+1;have P:i<aX rs:=(gSq.mp hr).1;have t:c9<|bf (rs.take i)++r:=by
   rw[←s];have I:bf rs=bf (rs.take<|i+1)++bf (rs.drop<|i+1):=by rw[←fAq,aQ]
   rw[I]at hn;show(nAq.mp hn).1
  rw[s,lAq]at E;have J:=uL (x:=4) (body:=yT) (λj S=>∃l,S=[aK<|b8<|dM rs,aK<|eu<|qt 0 (rs.take i)++uS i (r.take j),i0 i,aK<|b8<|dI r,l]) (S:=[aK<|b8<|dM rs,aK<|eu<|qt 0<|rs.take i,i0 i,aK<|b8<|dI r,l]) (l,by simp[uS]) (by
   rintro j d S hd ⟨l,rfl⟩;have(z,G,rfl):=RV hd;have L:aX (qt 0 (rs.take i)++uS i (r.take j))<qZ:=Hl (by rw[lAq,Hi];unfold uS;rw[lMq,lTq];lia);have u:xj (qt 0 (rs.take i)++uS i (r.take j)) (ak z) (bo<|i)=qt 0 (rs.take i)++uS i (r.take<|j+1):=by
    rw[yQ];.unfold uS;rw[qh G,mBq,bg];rfl
    .rw[mBq,zL];intro m;have M:=qh G;obtain m|m:=mAq.mp m;.have(x,H,n):=mMq.mp m;cases n;show(nAq.mp t).2.2 _ H _ (mGq G) rfl
     .unfold uS at m;rw[mPq]at m;have(x,H,n):=mMq.mp m;cases n;have:=bp.sublist (cO (j+1) r) (nAq.mp t).2.1;rw[M]at this;show(nAq.mp this).2.2 _ H _ ⋯ rfl
   show(_,?_,i0 z,rfl);simp! [yT,L,u]);have(Q,n,O,rfl):=J;rw[lMq,aS]at n;show(_,?_,i0 i,aK<|b8<|dI r,O,rfl);rw[qh hr,B0,lTq,dY<|by rfl'];simp! [yM,n]);have(R,e,B,C,l,rfl):=key;rw[aU,lMq,aS]at e;simp! [xN,DV,e]
theorem yE(P:AS->Prop)(μ:AS->Nat)(t:AS->Prop)(h:∀S,P S->∃b r,c S=aK %[b|r]/\(b=t_->∃s,body r=aK (k4 s)/\P s/\μ s<μ S)/\(b=f_->t r)) :
  ∀l S,P S->μ S<l->∃S',tW c body l S=aK (k4 S')/\t S'
 |0,S,_,u=>absurd u<|bR _
 |n+1,S,x,u=>by have(b,r,y,h1,h2):=h S x;rw[La,y,cu];cases b with
  |true=>have(s,z,B,m2):=h1 rfl;rw[z];show yE P μ t h n s B ∅
  |false=>show(r,rfl,h2 rfl)
end Zl
namespace Zl
open PySem L2 Mr Z Xe
def kd(ks:Θ):List<|pZ×D:=ks.map λk:Nat=>%[(ak (k:Int):pZ)|fb t_]
def kd_any ks(t:Nat):(kd ks).any (λkv=>decide<|kv.1=(ak (t:Int):pZ))=decide (t∈ks):=by induction ks with
 |nil=>rfl
 |cons k ks l=>
  unfold kd at l ⊢;simp?[ax,fH,l];by_cases h:t=k;.subst h;simp
  .have n:¬ (ak<|k:pZ)=ak (t:Int):=λq=>h<|by have:=ak.inj q;lia
   simp[n,h]
def kd_get ks(t:Nat):j3 (e9 (kd ks)<|ak (t:Int))=decide (t∈ks):=by unfold e9;rw[dZ,←kd_any,bG,gh,cW]
noncomputable def addN(kn:Θ)(t:Nat):Θ:=if t∈kn then kn else kn++[t]
def kd_put2 ks(t:Nat):xj (kd ks) (ak (t:Int)) (fb t_)=kd (addN ks t):=by
 unfold addN;by_cases h:t∈ks;.rw[qz h];unfold xj;rw[kd_any,d7 h];unfold kd;rw[mPq];show mCq λk Q=>?_;change(if _ then _ else _)=_;split <;> rfl
 .rw[qE h];unfold xj;rw[kd_any,d8 h];simp[kd]
noncomputable def plc(rs:Λ)(e:Int):Nat:=rs.findIdx λr=>decide<|e∈r
def same_place{rs:Λ}(hn:c9<|bf rs){i:Nat}{r s:Ϝ}(l:rs[i]?=aK r)(n:rs[j]?=aK s)(h1:e∈r)(h2:e∈s):i=j:=by have a:=A6 0 hn l h1;have b:=A6 0 hn n h2;rw[a]at b;have:=D.int.inj<|aK.inj b;lia
def plc_eq(hn:c9<|bf rs){r:Ϝ}(l:rs[i]?=aK r)(h1:e∈r):plc rs e=i:=by have hl:rs.findIdx (λr=>decide<|e∈r)<aX rs:=gn (r,mGq l,d7 h1);have h2:=iY (w:=hl);show same_place hn (gEg hl) l (of_decide_eq_true h2) h1
structure Mp (rs:Λ):Prop where
 hn:rs.flatten.Nodup
 hl:rs.flatten.length<=63
 hr:rs.length<=63
 hneg:∀e∈rs.flatten, -e∈rs.flatten
def Mp.at(h:Mp rs)(n:e∈bf rs):∃r,rs[plc rs e]?=aK r/\e∈r:=by have(r,h1,h2):=mFq.mp n;have(i,l):=aj.mp h1;show(r,by rw[plc_eq h.hn l h2];show l,h2)
def Mp.other(h:Mp rs){k:Nat}{r:Ϝ}(hk:rs[k]?=aK r)(l:e∈r):-e∈bf rs:=h.hneg e<|e8 mFq (r,mGq hk,l)
def Mp.kv(h:Mp rs)(l:e∈bf rs):e9 (qt 0 rs) (ak e)=aK (bo (plc rs e:Int)):=by have(r,h1,h2):=h.at l;have:=A6 0 h.hn h1 h2;rwa [aU]at this
def Mp.lt(h:Mp rs)(l:e∈bf rs):plc rs e<aX rs:=by have(r,h1,_):=h.at l;show(gSq.mp h1).1
def Mp.row(h:Mp rs){k:Nat}{r:Ϝ}(hk:rs[k]?=aK r):r.length<=1000:=by have:=cY.length_le<|aM<|mGq hk;have:=h.hl;lia
def R6{α β:Type}{f:α->β->α}{a}{r:List β}{e}(l:r[i]?=aK e):(r.take<|i+1).foldl f a=f ((r.take i).foldl f a) e:=by have(n,h2):=gSq.mp l;rw[eB n,fj,h2];rfl
noncomputable def itr(f:Int->Int):Nat->Int->Int
 |0,e=>e
 |n+1,e=>f<|itr f n e
theorem AR(f)m e:∀n:Nat,itr f (n+m) e=itr f n (itr f m e)
 |0=>by rw[aU];rfl
 |n+1=>by rw[Nat.add_right_comm];change f (itr f (n+m) e)=f (itr f n<|itr f m e);rw[AR f m e n]
theorem S7:∀(l E:Ϝ),c9 l->(∀x∈l,x∈E)->aX l<=aX E
 | [],E,_,_=>aH _
 |x::l,E,hn,h=>by have n:=az.mp hn;have r:=h x<|ai ..;have h2:=S7 l (E.erase x) n.2 (λy s=>by show(fA ?_).mpr<|h y<|mCo _ s;intro e;show n.1<|e ▸ s);rw[iC r]at h2;have:=dQ r;rw[lCq];lia
def XU{p:Nat->Prop}:∀n,p n->∃m,m<=n/\p m/\∀j,j<m->¬ p j:=by intro n;induction n using gP with
 |_ n s=>
  intro h;by_cases c:∃j,j<n/\p j;.have(j,l,r):=c;have(m,h1,h2,t):=s j l r;show(m,by lia,h2,t)
  .show(n,ab _,h,λj l r=>c (j,l,r))
structure Oi (f:Int->Int)(E:Ϝ):Prop where
 nd:E.Nodup
 to:∀e∈E,f e∈E
 inj:∀a∈E,∀b∈E,f a=f b->a=b
theorem Oi.itr_mem(h:Oi f E)(l:e∈E):∀n,itr f n e∈E
 |0=>l
 |n+1=>h.to _<|h.itr_mem l n
theorem Oi.itr_inj(h:Oi f E)(ha:a∈E)(l:b∈E):∀n,itr f n a=itr f n b->a=b
 |0,e=>e
 |n+1,e=>h.itr_inj ha l n<|h.inj _ (h.itr_mem ha n) _ (h.itr_mem l n) e
def Oi.cut(h:Oi f E)(l:e∈E)(n:i<=j)(q:itr f i e=itr f j e):itr f (j-i) e=e:=by
 have r:itr f j e=itr f i (itr f (j-i) e):=by rw[←AR];congr 1;ac_nf
 rw[r]at q;show(h.itr_inj l (h.itr_mem l _) i q).symm
structure Cy (f:Int->Int)(e:Int)(l:Ϝ):Prop where
 len:1<=l.length
 get:l=(bD l.length).map λn=>itr f n e
 back:itr f l.length e=e
 nd:l.Nodup
def Oi.cy(h:Oi f E)(s:e∈E):∃l,Cy f e l/\aX l<=aX E/\∀j,0<j->j<aX l->itr f j e≠e:=by
 have t:∃k,1<=k/\k<=aX E/\itr f k e=e:=by
  by_cases c:c9 ((bD<|aX E+1).map λn=>itr f n e)
  .have:=S7 _ E c<|λx B=>by have(n,_,rfl):=mMq.mp B;show h.itr_mem s n
   rw[lMq,bq]at this;rfl'
  .rw[aE,aG]at c;have:∃i j,i<j/\j<aX E+1/\itr f i e=itr f j e:=by
    by_cases d:∃i j,i<j/\j<aX E+1/\itr f i e=itr f j e;.show d
    .exfalso;show c ?_;show bp.imp_of_mem (λ{a b} ha hb hab q=>d (a,b,hab,bE.mp hb,q)) iQ
   have(i,j,u,y,q):=this;show(j-i,by lia,by lia,h.cut s (bQ u) q)
 have(k,h1,h2,C):=t;have(m,m1,(m2,G),z):=XU (p:=λk=>1<=k/\itr f k e=e) k (h1,C);show((bD m).map λn=>itr f n e,(by rw[lMq,bq];show m2,by rw[lMq,bq],by rw[lMq,bq];show G,?_),by rw[lMq,bq];lia,λj y r q=>?_);.rw[aE,aG];show bp.imp_of_mem (λ{a b} ha hb hab q=>?_) iQ;have H:=bE.mp hb;show z (b-a) ∅ (by lia,h.cut s (bQ hab) q)
 .rw[lMq,bq]at r;show z j r (y,q)
def Cy.at(h:Cy f e l)(n:i<aX l):l[i]?=aK (itr f i e):=by have r:=congrArg (λx=>x[i]?) h.get;rw[r,gMq,dN n];rfl
def Cy.one(h:Cy f e l)(r:Cy f e n):l=n:=by
 have key:∀{l n:Ϝ},Cy f e l->Cy f e n->¬ aX l<aX n:=λ{l n} h r hlt=>by
  have t:=r.at (i:=0) ∅;have s:=r.at hlt;rw[h.back]at s;have:=r.nd;have u:=(jy (i:=0) (j:=aX l) ∅ this).mp<|by rw[t,s];rfl
  have:=h.len;lia
 have h1:=key h r;have h2:=key r h;have hl:aX l=aX n:=by lia
 rw[h.get,r.get,hl]
def Cy.self(h:Cy f e l):e∈l:=mGq<|h.at (i:=0)<|by have:=h.len;rfl'
def Cy.rot(h:Cy f e l)(u:j<aX l):Cy f (itr f j e)<|l.drop j++l.take j:=by
 have n:aX (l.drop j++l.take j)=aX l:=by rw[lAq,aL,lTq];lia
 show(by rw[n];show h.len,?_,?_,?_)
 .show cC λi=>?_;rw[n,gMq];by_cases s:i<aX l
  .rw[dN s,bJ,←AR];by_cases r:i<aX l-j;.rw[gZq<|by rw[aL];show r,eW,h.at ∅,gc j i]
   .rw[gYq<|by rw[aL];rfl',aL,eD ∅,h.at ∅];have t:i+j=(i-(aX l-j))+aX l:=by lia
    rw[t,AR,h.back]
  .rw[aR ∅,aR<|by rw[bq];rfl'];rfl
 .rw[n,←AR,gc,AR,h.back]
 .show e8 (l8 dR)<|by rw[aQ];show h.nd
def Cy.good(h:Cy f e l)(u:x∈l)(y:Cy f x t):A1 t=A1 l:=by have(j,s):=aj.mp u;have n:=(gSq.mp s).1;rw[h.at n]at s;have r:=h.rot n;rw[aK.inj s]at r;rw[y.one r];show Vo h.nd j
structure SJ (f:Int->Int)(E:Ϝ)(L:Λ):Prop where
 cy:∀l∈L,∃e,Cy f e l
 dj:L.flatten.Nodup
 all:∀x,x∈L.flatten↔x∈E
theorem RS:∀{L:Λ},c9 (bf L)->L.Pairwise λa b=>∀x∈a,∀y∈b,x≠y
 | [],_=>bp.nil
 |a::L,h=>by rw[fCq,nAq]at h;show e8 cJ (λb l x n y r=>h.2.2 x n y<|e8 mFq (b,l,r),RS h.2.1)
def SJ.nd(h:SJ f E L):c9<|L.map A1:=by rw[aE,aG];have hd:=RS h.dj;show bp.imp_of_mem (λ{a b} ha hb hab q=>?_) hd;have(e,c):=h.cy a ha;have h1:=e8 (tR a).mem_iff c.self;rw[q]at h1;show hab e c.self e ((tR b).mem_iff.mp h1) rfl
def SJ.sub(hf:Oi f E)(h:SJ f E L)(r:SJ f E M)(t:y∈L.map A1):y∈M.map A1:=by have(l,hl,rfl):=mMq.mp t;have(e,c):=h.cy l hl;have u:=(h.all e).mp<|e8 mFq (l,hl,c.self);have(m,s,n):=mFq.mp<|e8 (r.all e) u;have(z,x):=r.cy m s;show e8 mMq (m,s,fQ<|x.good n c)
def SJ.perm(hf:Oi f E)(h:SJ f E L)(l:SJ f E M):dg (L.map A1)<|M.map A1:=e8 (cL h.nd l.nd) λy=>(h.sub hf l,l.sub hf h)
end Zl
open Zl renaming plc->aA5
namespace K51
open PySem L2 Mr Z Xe
def vJ:MS:=(oZ (pX 7<|kSc<|tZ (oR 2)<|Bn vf<|oR 6)<|wz (rH<|wM (oR 7)<|oR 3) (oZ (xS 3 (oR 7)<|kSc<|rC<|fb t_)<|zS 4<|pD 7) qm)
def xY:MS:=(oZ (GA 5<|FE 4)<|A4 6 (NY (sX 0)<|oR 5) vJ)
def Im:MS:=(oZ (pX 2<|pQ Zl.xN<|oU (pD 0) pJ)
 (oZ (pX 3<|G3 (oR 1)<|kSc<|rC<|fb t_)
 (oZ (pX 4<|tF<|oU (pD 1) pJ)
 (oZ (tW (rH<|pU Iy (tY qV<|oQ (oR 4) oV)<|rC<|bo 0) xY 100000)
 (qB<|Fd<|oR 3)))))
def Aa:MF:=sL 2 8 Im
def zj:MS:=(xS 1 (oR 5)<|kSc<|rC<|fb t_)
def vt:MS:=(wz (rH<|wM (oR 3)<|oR 1) (oZ (pX 4<|pQ K51.Aa<|oU (pD 0)<|oU (pD 3) pJ)<|oZ (A4 5 (pD 4) zj)<|zS 2<|rF (wC<|pD 4) [0] qi<|CZ<|lOf<|NY (sX 1)<|oR 0) qm)
def EZ:MS:=(oZ (pX 1 C2)
 (oZ (pX 2<|tF pJ)
 (oZ (BB 3 (oQ (tY qV<|oQ (oR 0) oV) oV) vt)
 (qB<|Bl 2))))
def vq:MF:=sL 1 6 EZ
def IZ:MS:=(qB<|rF (wC<|pD 0) [] qi<|CZ<|sX 0)
def yI:MF:=sL 1 1 IZ
end K51
open K51 renaming vq->UA,yI->aBb
namespace K31
open PySem L2 Mr Z Xe
def DC:MS:=(oZ (pX 2<|kSc<|Oj "list" Ez (oR 0)<|oQ (oR 1) oV)
 (qB<|EV (lOf<|JZ (sX 0) (tX<|oR 2) xT)<|lOf<|JZ (sX 0) xT<|tX<|oR 2))
def wt:MF:=sL 2 3 DC
def mb_round_turns_0:MS:=(oZ (pX 7<|kSc<|Bn vf<|pU DF (oR 4)<|oR 6)<|oZ (pX 8<|kSc<|tZ (oR 2)<|oR 7)<|oZ (wz (rH<|wM (oR 8)<|oR 5) (oZ (xS 5 (oR 8)<|kSc<|rC<|fb t_)<|oZ (zS 3<|pQ K31.wt<|oU (NY (sX 0)<|oR 8)<|oU (pD 7) pJ)<|LZ 4<|lOf<|NY (sX 3)<|Bn vf<|rC<|bo 1) qm)<|Oq 6 (λa b=>a+b)<|rC<|bo 1)
def Ff:MS:=(oZ (pX 3<|kSc<|rC<|bo 1)
 (oZ (pX 4<|kSc<|rC<|bo 0)
 (oZ (wz (rH<|pU Iy (pU rX (oR 0)<|rC<|bo 3)<|rC<|bo 0) (oZ (pX 3<|kSc<|pU yS (rC<|bo 1)<|pU rX (pU ve (oR 0)<|rC<|bo 3)<|pU NW (rC<|bo 10)<|rC<|bo 40)<|pX 4<|kSc<|pU rX (pU ve (oR 1)<|rC<|bo 66)<|pU NW (rC<|bo 10)<|rC<|bo 40) qm)
 (qB<|kSc<|pU yS (pU Du (oR 3)<|pU yS (pU rX (pU yS (pU Du (pU yS (rC<|bo 1)<|pU rX (oR 1)<|rC<|bo 66)<|oR 2)<|oR 0)<|rC<|bo 67)<|rC<|bo 1)<|oR 4))))
def vk:MF:=sL 3 5 Ff
def uQ:MS:=(ZG 8 3 (pIx 3 (Ww 3)<|pU DF (oR 4)<|pU D3 (tY qV<|oQ (oR 4) oV)<|rC<|bo 1)<|Oc 3 (CL (rH<|pU Al (pU rX (oR 7)<|rC<|bo 4)<|rC<|bo 1)<|rH<|pU Iy (tY qV<|oQ (oR 4) oV)<|rC<|bo 1) (λQ=>(KZ<|FE 4))<|Oc 3 (CL (rH<|pU Al (pU rX (oR 7)<|rC<|bo 4)<|rC<|bo 2)<|rH<|pU Iy (tY qV<|oQ (oR 5) oV)<|rC<|bo 0) (Oe 3 (pX 9<|kSc<|pU D3 (tY qV<|oQ (oR 5) oV)<|rC<|bo 1)<|Oe 3 (wz (rH<|oR 2) (pX 9<|kSc<|pU rX (pU ve (oR 7)<|rC<|bo 8)<|tY qV<|oQ (oR 5) oV) qm)<|LG 3<|Ba 5<|oR 9)<|Oc 3 (rH<|pU Iy (tY qV<|oQ (oR 6) oV)<|rC<|bo 0) (Oe 3 (GA 10<|X5 Du (Ba 6<|rC<|bo 0)<|pU D3 (rC<|bo 1)<|pU Du (rC<|bo 2)<|pU rX (pU ve (oR 7)<|rC<|bo 4)<|rC<|bo 2)<|λpath=>oZ ((Ro 3<|pD 10) path)<|wz (rH<|pU Al (pU rX (oR 7)<|rC<|bo 4)<|rC<|bo 0) (oZ (zS 3<|tF<|oU (kSc<|Bn vf<|oR 10) pJ)<|zS 4<|kSc<|pU D3 (tY qV<|oQ (oR 3) oV)<|rC<|bo 1)<|zS 5<|kSc<|Bn vf<|oR 10)<|λQ=>qm)
def xW:MS:=(OG 3 (pIx 3 (Ww 3)<|pU DF (oR 4)<|pU D3 (tY qV<|oQ (oR 4) oV)<|rC<|bo 1)<|FE 5)
def Hc:MS:=(oZ (pX 3<|tF<|oU (tF pJ) pJ)
 (oZ (pX 4<|tF<|oU (kSc<|rC<|bo 0) pJ)
 (oZ (pX 5<|tF pJ)
 (oZ (pX 6<|CZ<|sX 1)
 (oZ (A4 7 (pD 0) uQ)
 (oZ (tW (rH<|pU Iy (tY qV<|oQ (oR 5) oV)<|rC<|bo 0) xW 100000)
 (qB<|Bl 3)))))))
def wY:MF:=sL 3 11 Hc
end K31
open K31 renaming vk->Fi
namespace K33
open PySem L2 Mr Z Xe
def DQ:MS:=(qB<|KB<|lOf<|rF (wC<|pD 1) [0] qi<|kSc<|tZ (oR 1)<|Bn vf<|oR 0)
def vn:MF:=sL 2 2 DQ
def AM:MS:=(xS 1 (oR 3)<|pD 2)
def HA:MS:=(oZ (pX 1 C2)
 (oZ (Nf 2 3 (pQ Zl.wk<|oU (pD 0) pJ) AM)
 (qB<|KB<|lOf<|rF (wC<|pD 0) [1] qi<|pQ K33.vn<|oU (pD 1)<|oU (pD 0) pJ)))
def yp:MF:=sL 1 4 HA
end K33
namespace K15
open PySem L2 Mr Z
def AF:MS:=(xS 1 (pU DF (oR 2)<|oR 3)<|kSc<|pU DF (oR 2)<|pU rX (pU yS (oR 3)<|rC<|bo 1)<|tY qV<|oQ (oR 2) oV)
def AE:MS:=(BB 3 (oQ (tY qV<|oQ (oR 2) oV) oV) AF)
def Ij:MS:=(oZ (pX 1 C2)
 (oZ (A4 2 (pD 0) AE)
 (qB<|Bl 1)))
def vB:MF:=sL 1 4 Ij
end K15
open K15 renaming vB->aAm
namespace K72
open PySem L2 Mr Z Xe
def Gz:MS:=(qB<|kSc<|IQ (tY zZ<|oQ (oR 0)<|oQ (rC<|.ty "int") oV)<|ack<|tY zZ<|oQ (oR 0)<|oQ (rC<|.ty "bool") oV)
def uy:MF:=sL 1 1 Gz
end K72
open K72 renaming uy->se
namespace K44
open PySem L2 Mr Z
def wZ:MS:=(oZ (pX 2<|kSc<|pU yS (pU yS (oR 2)<|rC<|bo 1)<|pU rX (oR 0)<|pU NW (rC<|bo 10)<|rC<|bo 57)<|oZ (pX 0<|kSc<|pU Ur (oR 0)<|pU NW (rC<|bo 10)<|rC<|bo 57)<|zS 3<|pD 2)
def BG:MS:=(oZ (pX 2<|kSc<|rC<|bo 0)
 (oZ (pX 3<|tF pJ)
 (oZ (BB 4 (oQ (oR 1) oV) wZ)
 (qB<|Bl 3))))
def vc:MF:=sL 2 5 BG
def Bd:MS:=(oZ (UB 3<|Ba 2<|pU rX (oR 0)<|tY qV<|oQ (oR 2) oV)<|pX 0<|kSc<|pU ve (oR 0)<|pU yS (tY qV<|oQ (oR 2) oV)<|rC<|bo 1)
def GZ:MS:=(oZ (pX 2<|CZ<|sX 1)
 (oZ (pX 3<|tF pJ)
 (oZ (BB 4 (oQ (tY qV<|oQ (oR 1) oV) oV) Bd)
 (qB<|Bl 3))))
def Aw:MF:=sL 2 5 GZ
def wG:MS:=(LZ 2<|lOf<|tF<|oU (pD 3)<|oU (kSc<|Bn vf<|oR 3) pJ)
def wI:MS:=(zS 8<|kSc<|tZ (oR 4)<|pU DF (oR 8)<|Bn vf<|rC<|bo 1)
def wJ:MS:=(xS 6 (oR 9)<|kSc<|rC<|fb t_)
def vg:MS:=(wz (rH<|wM (oR 7)<|oR 6) (oZ (pX 8<|tF<|oU (pD 7) pJ)<|oZ (tW (rH<|pU Gb (tZ (oR 4)<|pU DF (oR 8)<|Bn vf<|rC<|bo 1)<|oR 7) wI 100000)<|oZ (A4 9 (pD 8) wJ)<|zS 5<|pD 8) qm)
def D5:MS:=(oZ (pX 2<|tF pJ)
 (oZ (A4 3 (pD 1) wG)
 (oZ (pX 4<|kDZ<|oQ (oR 2)<|oQ (rOf<|pQ K44.Aw<|oU (pD 0)<|oU (pD 2) pJ) oV)
 (oZ (pX 5<|tF pJ)
 (oZ (pX 6 C2)
 (oZ (A4 7 (pD 2) vg)
 (qB<|Bl 5)))))))
def wu:MF:=sL 2 10 D5
end K44
namespace K40
open PySem L2 Mr Z
def wc:MS:=(wz (rH<|pU Gb (tY qV<|oQ (rOf<|pQ UA<|oU (pD 0) pJ) oV)<|rC<|bo 1) K8 qm)
def tL:MF:=sL 1 1 wc
def mb_round_turns_0:MS:=(oZ (pX 7<|kSc<|Bn vf<|pU DF (oR 4)<|oR 6)<|oZ (pX 8<|kSc<|tZ (oR 2)<|oR 7)<|oZ (wz (rH<|wM (oR 8)<|oR 5) (oZ (xS 5 (oR 8)<|kSc<|rC<|fb t_)<|oZ (zS 3<|pQ K31.wt<|oU (NY (sX 0)<|oR 8)<|oU (pD 7) pJ)<|LZ 4<|lOf<|NY (sX 3)<|Bn vf<|rC<|bo 1) qm)<|Oq 6 (λa b=>a+b)<|rC<|bo 1)
def B4:MS:=(oZ (pX 2<|pQ Zl.xN<|oU (pD 0) pJ)
 (oZ (wz (rH<|wM (oR 1)<|oR 2) K8 qm)
 (oZ (pX 3<|tF<|oU (pQ K31.wt<|oU (NY (sX 0)<|tZ (oR 2)<|oR 1)<|oU (pD 1) pJ) pJ)
 (oZ (pX 4<|CZ<|lOf<|NY (sX 3)<|rC<|bo 0)
 (oZ (pX 5<|G3 (tZ (oR 2)<|oR 1)<|kSc<|rC<|fb t_)
 (oZ (pX 6<|kSc<|rC<|bo 0)
 (oZ (tW (rH<|pU Qt (oR 6)<|tY qV<|oQ (oR 4) oV) mb_round_turns_0 100000)
 (qB<|Bl 3))))))))
def vQ:MF:=sL 2 9 B4
def CT:MS:=(qB<|pQ Zl.wk<|oU (pQ K40.vQ<|oU (pD 0)<|oU (pD 1) pJ) pJ)
def yh:MF:=sL 2 2 CT
def C5:MS:=(qB<|pQ K33.yp<|oU (pQ K40.vQ<|oU (pD 0)<|oU (pD 1) pJ) pJ)
def rS:MF:=sL 2 2 C5
def mb_L_pairs_0:MS:=(oZ (wz (yf (wo<|rH<|tY zZ<|oQ (oR 1)<|oQ (rC<|.ty "tuple") oV)<|rH<|pU Gb (tY qV<|oQ (oR 1) oV)<|rC<|bo 2) (qB<|kSc<|rC<|fb f_) qm)<|wz (yf (wo<|rH<|qO se<|oQ (pU vE (oR 1)<|rC<|bo 0) oV)<|wo<|rH<|qO se<|oQ (pU vE (oR 1)<|rC<|bo 1) oV) (qB<|kSc<|rC<|fb f_) qm)
def mf_L_pairs:MS:=(oZ (wz (wo<|rH<|tY zZ<|oQ (oR 0)<|oQ (rC<|.ty "list") oV) (qB<|kSc<|rC<|fb f_) qm)
 (oZ (A4 1 (pD 0) mb_L_pairs_0)
 (qB<|kSc<|rC<|fb t_)))
def f_L_pairs:MF:=sL 1 2 mf_L_pairs
def vH:MS:=(wz (yf (rH<|pU Gb (tZ (oR 5)<|Bn vf<|oR 6)<|Bn vf<|tZ (oR 5)<|oR 6)<|rH<|pU Gb (tZ (oR 5)<|KC (oR 3)<|oR 6)<|tZ (oR 4)<|tZ (oR 5)<|oR 6) (qB<|kSc<|rC<|fb f_) qm)
def yP:MS:=(oZ (wz (yf (wo<|rH<|qO K40.f_L_pairs<|oQ (oR 0) oV)<|rH<|pU zO (oR 0)<|rOf<|KS<|sX 0) (qB<|kSc<|rC<|fb f_) qm)
 (oZ (pX 3<|pQ aAm<|oU (pD 1) pJ)
 (oZ (pX 4<|pQ aAm<|oU (pD 2) pJ)
 (oZ (pX 5<|kDP<|sX 0)
 (oZ (wz (rH<|pU zO (rOf<|rF (wC<|pD 0) [] qi<|kSc<|pU vE (oR 0)<|rC<|bo 0)<|rOf<|Fd<|oR 3) (qB<|kSc<|rC<|fb f_) qm)
 (oZ (wz (rH<|pU zO (rOf<|Kf<|lOf<|rF (wC<|pD 0) [] qi<|kSc<|pU vE (oR 0)<|rC<|bo 1)<|rOf<|Fd<|oR 4) (qB<|kSc<|rC<|fb f_) qm)
 (oZ (Wf 6 3 vH)
 (qB<|kSc<|rC<|fb t_))))))))
def uW:MF:=sL 3 7 yP
def AJ:MS:=(xS 1 (oR 4)<|pD 2)
def ya:MS:=(A4 4 (pD 3) AJ)
def tH:MS:=(wz (rH<|wM (tZ (oR 1)<|Bn vf<|oR 4)<|oR 5) (oZ (xS 5 (tZ (oR 1)<|Bn vf<|oR 4)<|kSc<|rC<|fb t_)<|zS 8<|kSc<|tZ (oR 1)<|Bn vf<|oR 4) qm)
def uj:MS:=(oZ (A4 4 (NY (sX 0)<|pU DF (oR 8)<|oR 9) tH)<|pX 9<|kSc<|pU yS (oR 9)<|rC<|bo 1)
def vA:MS:=(wz (rH<|wM (oR 7)<|oR 5) (oZ (xS 5 (oR 7)<|kSc<|rC<|fb t_)<|oZ (pX 8<|tF<|oU (pD 7) pJ)<|oZ (pX 9<|kSc<|rC<|bo 0)<|oZ (tW (rH<|pU Qt (oR 9)<|tY qV<|oQ (oR 8) oV) uj 100000)<|zS 6<|rF (wC<|pD 8) [0] qi<|NY (sX 1)<|oR 0) qm)
def Ds:MS:=(oZ (pX 1 C2)
 (oZ (Nf 2 3 (pD 0) ya)
 (oZ (pX 5 C2)
 (oZ (pX 6<|tF pJ)
 (oZ (BB 7 (oQ (tY qV<|oQ (oR 0) oV) oV) vA)
 (qB<|Bl 6))))))
def xi:MF:=sL 1 10 Ds
end K40
open K40 renaming rS->xG
namespace K37
open PySem L2 Mr Z
def yx:MS:=(oZ (pX 1<|pQ Zl.Av<|oU (pD 0) pJ)
 (oZ (wz (rH<|pU Al (tY qV<|oQ (oR 1) oV)<|rC<|bo 0) (qB<|tF pJ) qm)
 (qB<|pQ K40.yh<|oU (pD 0)<|oU (kSc<|Kq 0 (sX 1)<|pQ xG<|oU (pD 1)<|oU (pD 0) pJ) pJ)))
def uY:MF:=sL 1 2 yx
def zR:MS:=(oZ (Vr<|kSc<|qO K40.tL<|oQ (oR 0) oV)
 (oZ (pX 1<|pQ Zl.Av<|oU (pD 0) pJ)
 (oZ (wz (rH<|pU Al (tY qV<|oQ (oR 1) oV)<|rC<|bo 0) (qB<|pQ K33.yp<|oU (pD 0) pJ) qm)
 (qB<|Rp<|lOf<|rF (wC<|pD 1) [0] qi<|pQ xG<|oU (pD 1)<|oU (pD 0) pJ))))
def ui:MF:=sL 1 2 zR
def NG:MS:=(qB<|Ph<|lOf<|rF (wC<|pQ UA<|oU (pD 0) pJ) [] qi<|pQ K37.ui<|oU (pD 0) pJ)
def vY:MF:=sL 1 1 NG
def FQ:MS:=(qB<|Gp K37.ui<|lOf<|pQ UA<|oU (pD 0) pJ)
def yu:MF:=sL 1 1 FQ
def zA:MS:=(LZ 2<|lOf<|kLZ<|oQ (rOf<|pQ K37.uY<|oU (pD 3) pJ)<|oQ (rOf<|pQ K37.uY<|oU (pD 4) pJ) oV)
def Jh:MS:=(oZ (pX 2<|tF pJ)
 (oZ (VH 3 4 (pQ K37.yu<|oU (pD 0) pJ) (pQ K37.yu<|oU (pD 1) pJ) zA)
 (qB<|KS<|sX 2)))
def Ea:MF:=sL 2 5 Jh
def yU:MS:=(oZ (pX 6<|kSc<|pU Du (pU DF (oR 2)<|oR 5)<|pU D3 (rC<|bo 1)<|pU Du (rC<|bo 2)<|pU rX (pU ve (oR 3)<|pU yS (oR 5)<|rC<|bo 2)<|rC<|bo 2)<|oZ (xS 4 (pU DF (oR 1)<|oR 5)<|pD 6)<|xS 4 (Bn vf<|pU DF (oR 1)<|oR 5)<|kSc<|Bn vf<|oR 6)
def Et:MS:=(oZ (pX 4 C2)
 (oZ (BB 5 (oQ (tY qV<|oQ (oR 1) oV) oV) yU)
 (qB<|rF (wC<|pD 0) [4] qi<|rF (wC<|pD 0) [1] qi<|kSc<|tZ (oR 1)<|oR 0)))
def uJ:MF:=sL 4 7 Et
def Iq:MS:=(oZ (pX 3<|kSc<|pU ve (tY qV<|oQ (oR 0) oV)<|rC<|bo 2)
 (oZ (pX 4<|pQ K31.wY<|oU (JZ (sX 0) xT<|tX<|oR 3)<|oU (JZ (sX 1) xT<|tX<|rC<|bo 6)<|oU (kSc<|pU Al (pU rX (oR 2)<|rC<|bo 2)<|rC<|bo 1) pJ)
 (oZ (pX 5<|pQ K31.wY<|oU (JZ (sX 0) (tX<|oR 3) xT)<|oU (JZ (sX 1) (tX<|rC<|bo 6)<|tX<|rC<|bo 12)<|oU (kSc<|pU Al (pU rX (oR 2)<|rC<|bo 2)<|rC<|bo 1) pJ)
 (oZ (pX 6<|pQ K31.wY<|oU (JZ (sX 0) xT<|tX<|oR 3)<|oU (JZ (sX 1) (tX<|rC<|bo 12) xT)<|oU (kSc<|pU Al (pU rX (oR 2)<|rC<|bo 2)<|rC<|bo 1) pJ)
 (oZ (pX 7<|JZ (lOf<|tF<|oU (pD 4)<|oU (pD 5)<|oU (pD 6) pJ) xT<|tX<|pU yS (rC<|bo 1)<|pU rX (pU ve (oR 2)<|rC<|bo 2)<|rC<|bo 3)
 (qB<|EV (DT 7)<|lOf<|rF (iR1<|oQ (pU rX (pU ve (oR 2)<|rC<|bo 6)<|rC<|bo 3) oV) [] qi<|tF<|oU (tF pJ) pJ))))))
def yq:MF:=sL 3 8 Iq
def zN:MS:=(LZ 1<|DT 2)
def FD:MS:=(oZ (pX 1<|tF pJ)
 (oZ (A4 2 (pD 0) zN)
 (qB<|pQ Zl.uT<|oU (pD 1) pJ)))
def wb:MF:=sL 1 3 FD
end K37
open K37 renaming vY->sS,uJ->aAn,wb->aBa
namespace K39
open PySem L2 Mr Z Xe
def mb_L_pairs_0:MS:=(oZ (wz (yf (wo<|rH<|tY zZ<|oQ (oR 1)<|oQ (rC<|.ty "tuple") oV)<|rH<|pU Gb (tY qV<|oQ (oR 1) oV)<|rC<|bo 2) (qB<|kSc<|rC<|fb f_) qm)<|wz (yf (wo<|rH<|qO se<|oQ (pU vE (oR 1)<|rC<|bo 0) oV)<|wo<|rH<|qO se<|oQ (pU vE (oR 1)<|rC<|bo 1) oV) (qB<|kSc<|rC<|fb f_) qm)
def mf_L_pairs:MS:=(oZ (wz (wo<|rH<|tY zZ<|oQ (oR 0)<|oQ (rC<|.ty "list") oV) (qB<|kSc<|rC<|fb f_) qm)
 (oZ (A4 1 (pD 0) mb_L_pairs_0)
 (qB<|kSc<|rC<|fb t_)))
def f_L_pairs:MF:=sL 1 2 mf_L_pairs
end K39
namespace K38
open PySem L2 Mr Z
def BO:MS:=(qB<|Rp<|lOf<|rF (wC<|EV (DT 0)<|DT 1) [0,1] (rH<|pU Gb (Oj "list" yV (oR 1)<|oQ (oR 0) oV)<|Oj "list" yV (oR 2)<|oQ (oR 0) oV)<|pD 0)
def xA:MF:=sL 2 2 BO
def B2:MS:=(oZ (pX 2<|pQ sS<|oU (pD 0) pJ)
 (oZ (pX 3<|pQ sS<|oU (pD 1) pJ)
 (oZ (wz (rH<|pU yi (oR 2)<|oR 3) (qB<|EM<|oU (kSc<|rC<|j5 "alike")<|oU (pQ K37.Ea<|oU (pD 0)<|oU (pD 1) pJ) pJ) qm)
 (oZ (pX 4<|pQ K38.xA<|oU (pD 2)<|oU (pD 3) pJ)
 (qB<|EM<|oU (kSc<|rC<|j5 "unlike")<|oU (pD 4)<|oU (kSc<|Oj "list" yV (oR 2)<|oQ (oR 4) oV)<|oU (kSc<|Oj "list" yV (oR 3)<|oQ (oR 4) oV) pJ)))))
def rL:MF:=sL 2 5 B2
open K38 renaming rL->aAo
def rZ:MS:=(wz (rH<|wM (pU vE (oR 7)<|rC<|bo 0)<|oR 4) (oZ (xS 4 (pU vE (oR 7)<|rC<|bo 0)<|kSc<|pU vE (oR 7)<|rC<|bo 1)<|zS 5<|kSc<|pU vE (oR 7)<|rC<|bo 0)<|wz (rH<|pU Gb (tZ (oR 4)<|pU vE (oR 7)<|rC<|bo 0)<|pU vE (oR 7)<|rC<|bo 1) (qB<|kSc<|rC kR) qm)
def vy:MS:=(oZ (GA 6<|FE 5)<|A4 7 (tF<|oU (EM<|oU (kSc<|Bn vf<|oR 6)<|oU (kSc<|Bn vf<|tZ (oR 4)<|oR 6) pJ)<|oU (EM<|oU (kSc<|tZ (oR 0)<|oR 6)<|oU (kSc<|KC (oR 1)<|tZ (oR 4)<|oR 6) pJ) pJ) rZ)
def E6:MS:=(oZ (pX 4<|G3 (oR 2)<|pD 3)
 (oZ (pX 5<|tF<|oU (pD 2) pJ)
 (oZ (tW (rH<|pU Iy (tY qV<|oQ (oR 5) oV)<|rC<|bo 0) vy 100000)
 (qB<|Bl 4))))
def xJ:MF:=sL 4 8 E6
def vI:MS:=(VM 1<|pD 2)
def tP:MS:=(oZ (wz (yf (rH<|pU Gb (pU DF (oR 1)<|oR 6)<|oR 4)<|rH<|pU Al (oR 6)<|oR 4) (qB<|kSc<|rC kR) qm)<|oZ (zS 5<|kSc<|rIf (rH<|pU Qt (oR 4)<|oR 6) (pU yS (tY LS<|oQ (oR 4)<|oQ (oR 6) oV)<|rC<|bo 1)<|pU D3 (Bn vf<|tY LS<|oQ (oR 4)<|oQ (oR 6) oV)<|rC<|bo 1)<|Oq 4 (λa b=>a+b)<|rC<|bo 1)
def vG:MS:=(oZ (pX 5<|tF pJ)<|oZ (GJ 6 (pD 2) tP)<|zS 3<|pD 5)
def BF:MS:=(oZ (wz (yf (wo<|rH<|tY zZ<|oQ (oR 0)<|oQ (rC<|.ty "tuple") oV)<|wo<|rH<|tY OP<|oQ (rOf<|rF (iTp<|pD 0) [] qi<|kSc<|tY zZ<|oQ (oR 0)<|oQ (rC<|.ty "tuple") oV) oV) (qB<|kSc<|rC kR) qm)
 (oZ (pX 1<|tF pJ)
 (oZ (GJ 2 (pD 0) vI)
 (oZ (wz (wo<|rH<|tY OP<|oQ (rOf<|rF (wC<|pD 1) [1] qi<|kSc<|IQ (qO se<|oQ (oR 0) oV)<|YV dLe Qt (rC<|bo 0) (oR 0)<|tY qV<|oQ (oR 1) oV) oV) (qB<|kSc<|rC kR) qm)
 (oZ (pX 3<|tF pJ)
 (oZ (pX 4<|kSc<|rC<|bo 0)
 (oZ (GJ 2 (pD 0) vG)
 (qB<|Bl 3))))))))
def vT:MF:=sL 1 7 BF
def tQ:MS:=(oZ (pX 5<|pQ aAm<|oU (pD 4) pJ)<|wz (yf (rH<|pU Al (tY Bj<|oQ (oR 3) oV)<|rC<|bo 0)<|rH<|pU Gb (tY Bj<|oQ (oR 3) oV)<|tY Bj<|oQ (oR 5) oV) (Oq 2 (λa b=>a+b)<|tY Fv<|oQ (pU Al (tY Bj<|oQ (oR 3) oV)<|tY Bj<|oQ (oR 5) oV) oV)<|oZ (pX 6<|kSc<|tY Mb<|oQ (oR 3) oV)<|oZ (pX 7<|rF (acR 5) [3,5,6] qi<|pQ K38.xJ<|oU (pD 1)<|oU (pD 2)<|oU (pD 3)<|oU (pD 0) pJ)<|Oq 2 (λa b=>a+b)<|tY Fv<|oQ (tY Vn<|oQ (rOf<|rF (wC<|pD 7) [3] qi<|kSc<|IQ (pU JH (oR 0)<|rC kR)<|pU Al (tY Bj<|oQ (oR 0) oV)<|tY Bj<|oQ (oR 1) oV) oV) oV)
def BK:MS:=(oZ (pX 2<|kSc<|rC<|bo 0)
 (oZ (pX 3<|pQ aAm<|oU (pD 0) pJ)
 (oZ (A4 4 (pD 1) tQ)
 (qB<|Bl 2))))
def vS:MF:=sL 2 8 BK
def FA:MS:=(oZ (pX 4<|pD 3)
 (oZ (wz (CL (rH<|pU Al (pU rX (pU ve (oR 3)<|rC<|bo 18)<|rC<|bo 5)<|rC<|bo 2)<|rH<|pU Iy (tY qV<|oQ (oR 0) oV)<|rC<|bo 0) (oZ (pX 5<|kSc<|pU rX (pU ve (oR 3)<|rC<|bo 90)<|tY qV<|oQ (oR 0) oV)<|pX 0<|EV (lOf<|EV (lOf<|JZ (sX 0) xT<|tX<|oR 5)<|lOf<|tF<|oU (kSc<|pU yS (pU yS (pU DF (oR 0)<|oR 5)<|rC<|bo 1)<|pU rX (pU ve (oR 3)<|rC<|bo 90)<|rC<|bo 3) pJ)<|lOf<|JZ (sX 0) (tX<|pU yS (oR 5)<|rC<|bo 1) xT) qm)
 (oZ (wz (rH<|pU Al (pU rX (pU ve (oR 3)<|rC<|bo 18)<|rC<|bo 5)<|rC<|bo 3) (pX 0<|IL (sX 0)<|tX<|Bn vf<|rC<|bo 1) qm)
 (oZ (wz (rH<|pU Al (pU rX (pU ve (oR 3)<|rC<|bo 18)<|rC<|bo 5)<|rC<|bo 4) (pX 4<|kSc<|pU yS (pU rX (oR 3)<|rC<|bo 2)<|pU Du (rC<|bo 2)<|pU rX (pU ve (oR 3)<|rC<|bo 90)<|rC<|bo 9) qm)
 (oZ (pX 6<|rF (iR1<|oQ (rC<|bo 18) oV) [1] qi<|kSc<|qO Fi<|oQ (qO nC<|oQ (oR 1)<|oQ (rC<|bo 1) oV)<|oQ (qO nC<|oQ (oR 1)<|oQ (rC<|bo 3) oV)<|oQ (oR 0) oV)
 (oZ (pX 7<|rF (wC<|pQ K37.yq<|oU (pD 0)<|oU (pD 2)<|oU (pD 4) pJ) [2,6,3] qi<|pQ aAn<|oU (pD 0)<|oU (pD 1)<|oU (pD 2)<|oU (kSc<|pU ve (oR 3)<|rC<|bo 90) pJ)
 (oZ (wz (rH<|pU Al (pU rX (pU ve (oR 3)<|rC<|bo 18)<|rC<|bo 5)<|rC<|bo 1) (pX 7<|rF (wC<|pD 7) [] qi<|rF (wC<|pD 0) [] qi<|IL (sX 0)<|tX<|Bn vf<|rC<|bo 1) qm)
 (qB<|Bl 7))))))))
def yt:MF:=sL 4 8 FA
def FP:MS:=(oZ (pX 5<|pQ K38.vT<|oU (acC (pD 0)<|rC<|bo 1) pJ)
 (oZ (wz (yf (rH<|pU acw (oR 5)<|rC kR)<|yf (wo<|rH<|qO se<|oQ (pU vE (oR 0)<|rC<|bo 2) oV)<|yf (wo<|rH<|qO se<|oQ (pU vE (oR 0)<|rC<|bo 3) oV)<|rH<|pU Al (pU vE (oR 0)<|rC<|bo 2)<|pU vE (oR 0)<|rC<|bo 3) (qB<|kSc<|rC<|fb f_) qm)
 (oZ (wz (yf (rH<|pU Gb (qO K38.vS<|oQ (oR 5)<|oQ (oR 1) oV)<|pU vE (oR 0)<|rC<|bo 2)<|rH<|pU Gb (qO K38.vS<|oQ (oR 5)<|oQ (oR 2) oV)<|pU vE (oR 0)<|rC<|bo 3) (qB<|kSc<|rC<|fb f_) qm)
 (qB<|kSc<|tY OP<|oQ (rOf<|rF (wC<|EV (DT 3)<|DT 4) [3,4,0] (rH<|pU V7 (oR 0)<|pU vE (oR 3)<|rC<|bo 1)<|kSc<|pU Al (Oj "list" yV (oR 1)<|oQ (oR 0) oV)<|Oj "list" yV (oR 2)<|oQ (oR 0) oV) oV))))
def yH:MF:=sL 5 6 FP
def wU:MS:=(oZ (pX 1<|pQ sS<|oU (pD 0) pJ)
 (oZ (wz (rH<|pU yi (oR 0)<|rOf<|tF pJ) (qB<|kSc<|IQ (pU yi (oR 1)<|rOf<|tF pJ)<|pU yi (rOf<|pQ aAo<|oU (pD 0)<|oU (tF pJ) pJ)<|rOf<|EM<|oU (kSc<|rC<|j5 "alike")<|oU (tF pJ) pJ) qm)
 (oZ (wz (yf (rH<|pU zO (rOf<|pQ aAo<|oU (tF pJ)<|oU (tF pJ) pJ)<|rOf<|EM<|oU (kSc<|rC<|j5 "alike")<|oU (tF pJ) pJ)<|rH<|pU zO (rOf<|pQ aAo<|oU (tF pJ)<|oU (pD 0) pJ)<|rOf<|EM<|oU (kSc<|rC<|j5 "unlike")<|oU (NY (sX 1)<|rC<|bo 0)<|oU (kSc<|rC<|bo 0)<|oU (kSc<|Oj "list" yV (oR 1)<|oQ (pU DF (oR 1)<|rC<|bo 0) oV) pJ) (qB<|kSc<|rC<|fb f_) qm)
 (qB<|kSc<|pU yi (rOf<|pQ aAo<|oU (pD 0)<|oU (tF pJ) pJ)<|rOf<|EM<|oU (kSc<|rC<|j5 "unlike")<|oU (NY (sX 1)<|rC<|bo 0)<|oU (kSc<|Oj "list" yV (oR 1)<|oQ (pU DF (oR 1)<|rC<|bo 0) oV)<|oU (kSc<|rC<|bo 0) pJ))))
def tj:MF:=sL 1 2 wU
def yZ:MS:=(oZ (zS 2<|kSc<|pU Du (oR 3)<|pU D3 (rC<|bo 1)<|pU Du (rC<|bo 2)<|pU rX (oR 0)<|rC<|bo 2)<|pX 0<|kSc<|pU ve (oR 0)<|rC<|bo 2)
def Dz:MS:=(oZ (pX 2<|tF pJ)
 (oZ (A4 3 (pD 1) yZ)
 (qB<|Bl 2)))
def zB:MF:=sL 2 4 Dz
def C6:MS:=(oZ (pX 1<|kSc<|qO nC<|oQ (oR 0)<|oQ (rC<|bo 2) oV)
 (oZ (pX 2<|rF (iR1<|oQ (rC<|bo 18) oV) [0] qi<|kSc<|qO Fi<|oQ (qO nC<|oQ (oR 1)<|oQ (rC<|bo 0) oV)<|oQ (qO nC<|oQ (oR 1)<|oQ (rC<|bo 1) oV)<|oQ (oR 0) oV)
 (oZ (pX 3<|pQ K37.yq<|oU (JZ (sX 0) (tX<|rC<|bo 4)<|tX<|rC<|bo 67)<|oU (pD 2)<|oU (pD 1) pJ)
 (qB<|EM<|oU (pD 3)<|oU (pQ K38.yt<|oU (JZ (sX 0) (tX<|rC<|bo 4)<|tX<|rC<|bo 67)<|oU (pD 0)<|oU (pD 2)<|oU (pD 1) pJ) pJ))))
def wB:MF:=sL 1 4 C6
def xX:MS:=(oZ (pX 1<|kSc<|qO nC<|oQ (oR 0)<|oQ (rC<|bo 0) oV)
 (oZ (pX 2<|pQ K44.vc<|oU (kSc<|qO nC<|oQ (oR 0)<|oQ (rC<|bo 1) oV)<|oU (kSc<|pU rX (oR 1)<|rC<|bo 21) pJ)
 (oZ (pX 3<|EV (lOf<|pQ K40.xi<|oU (pQ K44.wu<|oU (kSc<|qO nC<|oQ (oR 0)<|oQ (rC<|bo 2) oV)<|oU (pD 2) pJ) pJ)<|lOf<|rF (iR1<|oQ (pU rX (pU ve (oR 1)<|rC<|bo 21)<|rC<|bo 4) oV) [] qi<|tF<|oU (tF pJ) pJ)
 (oZ (pX 4<|kSc<|pU rX (pU ve (oR 1)<|rC<|bo 84)<|rC<|bo 4)
 (oZ (pX 5<|pQ K44.vc<|oU (kSc<|qO nC<|oQ (oR 0)<|oQ (rC<|bo 3) oV)<|oU (kSc<|tY qV<|oQ (oR 2) oV) pJ)
 (oZ (wz (rH<|pU Iy (oR 4)<|rC<|bo 1) (pX 5<|pQ K44.vc<|oU (kSc<|qO nC<|oQ (oR 0)<|oQ (rC<|bo 3) oV)<|oU (kSc<|pU rX (pU ve (oR 1)<|rC<|bo 336)<|rC<|bo 21) pJ) qm)
 (oZ (pX 5<|pQ K38.zB<|oU (kSc<|qO nC<|oQ (oR 0)<|oQ (rC<|bo 5) oV)<|oU (pQ K44.Aw<|oU (kSc<|qO nC<|oQ (oR 0)<|oQ (rC<|bo 4) oV)<|oU (pD 5) pJ) pJ)
 (oZ (wz (rH<|pU Iy (oR 4)<|rC<|bo 1) (oZ (pX 6<|pQ K40.xi<|oU (pQ K44.wu<|oU (kSc<|qO nC<|oQ (oR 0)<|oQ (rC<|bo 6) oV)<|oU (pD 5) pJ) pJ)<|qB<|EM<|oU (pD 3)<|oU (EV (DT 6)<|lOf<|rF (iR1<|oQ (pU rX (pU ve (oR 1)<|rC<|bo 7056)<|rC<|bo 4) oV) [] qi<|tF<|oU (tF pJ) pJ) pJ) qm)
 (oZ (pX 6<|rF (wC<|pD 3) [2,5] qi<|pQ aAn<|oU (pD 0)<|oU (pD 1)<|oU (pD 2)<|oU (kSc<|rC<|bo 0) pJ)
 (oZ (wz (rH<|pU Al (oR 4)<|rC<|bo 1) (pX 6<|rF (wC<|pD 6) [] qi<|rF (wC<|pD 0) [] qi<|IL (sX 0)<|tX<|Bn vf<|rC<|bo 1) qm)
 (qB<|EM<|oU (pD 3)<|oU (pD 6) pJ)))))))))))
def vx:MF:=sL 1 7 xX
def Xp:MS:=(oZ (IW [1,2]<|pQ K38.wB<|oU (pD 0) pJ)
 (oZ (wz (rH<|pU Al (pU rX (tY qV<|oQ (oR 0) oV)<|rC<|bo 2)<|rC<|bo 0) (IW [1,2]<|pQ K38.vx<|oU (pD 0) pJ) qm)
 (oZ (pX 3<|pQ aBa<|oU (pD 1) pJ)
 (oZ (pX 4<|pQ aBa<|oU (pD 2) pJ)
 (oZ (pX 5<|pQ aBb<|oU (pD 3) pJ)
 (oZ (pX 6<|pQ aBb<|oU (pD 4) pJ)
 (oZ (pX 7<|pQ aAo<|oU (pD 5)<|oU (pD 6) pJ)
 (oZ (wz (yf (wo<|rH<|tY Sz<|oQ (oR 7)<|oQ (rC<|.ty "tuple") oV)<|yf (rH<|pU zO (oR 5)<|oR 3)<|yf (rH<|pU zO (oR 6)<|oR 4)<|wo<|rH<|qO K38.tj<|oQ (oR 3) oV) (qB<|kSc<|rC<|fb f_) qm)
 (oZ (wz (CL (rH<|pU Al (tY qV<|oQ (oR 7) oV)<|rC<|bo 2)<|rH<|pU Al (pU GP (oR 7)<|rC<|bo 0)<|rC<|j5 "alike") (qB<|kSc<|IQ (pU Al (IX<|oR 3)<|IX<|oR 4)<|qO K40.uW<|oQ (pU GP (oR 7)<|rC<|bo 1)<|oQ (oR 3)<|oQ (oR 4) oV) qm)
 (oZ (wz (yf (rH<|pU Gb (tY qV<|oQ (oR 7) oV)<|rC<|bo 4)<|rH<|pU Gb (pU GP (oR 7)<|rC<|bo 0)<|rC<|j5 "unlike") (qB<|kSc<|rC<|fb f_) qm)
 (qB<|kSc<|qO K38.yH<|oQ (oR 7)<|oQ (oR 1)<|oQ (oR 2)<|oQ (rOf<|pQ sS<|oU (pD 3) pJ)<|oQ (rOf<|pQ sS<|oU (pD 4) pJ) oV)))))))))))
def QV:MF:=sL 1 8 Xp
seal PE PA PS LN PT PW PC PG PGs PI PO PF Fk uM UnR SR SK SL SQ SS Gy SA WJ SM Ex S0 BmD UnD
set_option hygiene false
local macro_rules|`(tactic|and_intros)=>do let x<-("aa1 BC pB oT oP oS pv oW qj qd qT qf tS OS zx Kw uE Pl pO Ed sM ud RE yF tV tm E5 acF P3 MR aa4 Kt wm sZ vz Lw yr Gq KA qG vC Lo xC Nu QX ac3 xu sv uG MV Bo qU qg Dh J7 Ge C3 BR sy xR A5 Dp xK uf Wi Ft NN uu EC DJ abh BJ D9 uD BH PW.pt".splitOn).toArray.mapM λs=>`(@$(Lean.mkIdent s.toName));`(tactic|apply_rules (maxDepth:=100000) only [$[$x:term],*])
local macro_rules|`(tactic|infer_instance)=>do let x<-("qc qK pN pH oY qb pY pV SR.kSc qS qw qa SK.lOf SK.rOf acT Z6 aem aaZ ab8 aeY DG UK WB abv Vc EH ac8 Yf Fc wH ZF Ay acA Rf Fu abm yw adF adw vZ J5 FW KY acX Us aeM Dd uo Cm Ss J0 V5 aeZ ZN xQ RL K7 UC VX GG LM Ud SV Qb Xb BL aep Z0 U3 Ln Co abd YK zV WM Eh Na ug wQ abG Zv yg Ni IY ad6 P2 abk abb adL BE ac9 OD Zs Vf Zi X0 OM Gf Zj Vx OO YS EO Zu Ma WV wO WC ux uH NS Y2 XT acq WR vO VQ Kh Jf FO za SL.q".splitOn).toArray.mapM λs=>`(@$(Lean.mkIdent s.toName));`(tactic|((first | apply qc | apply uH | apply wO | apply EO) <;> apply_rules (maxDepth:=100000) [$[$x:term],*] <;> first | decide | exact λ_ _ _ h=>h))
local macro_rules|`(tactic|bv_omega)=>do let i:=λs:String=>(s.splitOn.map λs=>Lean.mkIdent s.toName).toArray;let x:=i "aw PassesOwn.never qH PySem.boot_len cH dG fc cQ aN aO rA Dx dA dB CA dr dt Qd iG PySem.F.type_list_index VB dH Eb G_least_code.ok G_least_code.D.m G_least_code.D.b du gF ku de";let y:=i "Bt.len Bt.sorted Bt.isi Bt.range Bt.enum Bt.min Bt.int Bt.bool Bt.list";let z:=i "jB ir AB S8";let w:=i "aa0 K2 K3 KM";`(tactic|(intro _ _ _ _ _ _ S hr hu hu65;apply Exists.intro;apply And.intro;infer_instance;((first|refine pB ?_|refine oT ?_ ?_)<;>and_intros<;>(try ((with_reducible intro _ _ _ _);and_intros))<;>first|rfl|exact nobehind _ (by decide) (by decide)|assumption|exact qu _|decide|exact λ_=>rfl|exact λ_ _=>rfl|exact ir (jB rfl)|exact ir (ir rfl)|exact tM hr|first|rfl|exact trivial|(intro _ _;rfl)|exact Eo hu65|exact sI.none (by decide +kernel)|exact IxR.or sy xR|(simp;done)|exact Vw hu65|exact hr.mono (by decide)|exact λ_ _ _ _ h=>h|exact uM.or Dx WI|(first $[|exact $x]*)|(first $[|exact $y ‹_›]*)|(first $[|exact $z rfl]*)|(first $[|exact $w hu]*)|decide +kernel|trivial)))
set_option hygiene true
noncomputable def zc(i:Nat):Stmt:=dk PySem.Challenge.pw_mapround_k38_whole_told_apart.main.body i<|.Pass (0,0,0,0)
abbrev zi:Stmt:=zc 5
def Kj:pS ["turns","told","turn"] ["turns"]<|oX zi:=sC
abbrev zF(P w K mg base):=Fn P w K mg base 1 "told_ends" zi ["turns"]<|sH K Zl.wk
def Lq(D:xP K mg "told_ends" zi ["turns"] f fd)(B:Bt mg):zF P w K mg base f fd:=FZ D Kj<|by bv_omega
abbrev Cs:Stmt:=zc 6
def O6:pS ["m"] ["m"]<|oX Cs:=sC
abbrev EN(P w K mg base):=Fn P w K mg base 2 "ends_of" Cs ["m"]<|sH K Zl.Av
def Pi(D:xP K mg "ends_of" Cs ["m"] f fd)(B:Bt mg)(l:zF P w K mg base u0 v0):EN P w K mg base f fd:=FZ D O6<|by bv_omega
abbrev zJ:Stmt:=zc 7
def Lb:pS ["m","places","place","turn","end"] ["m"]<|oX zJ:=sC
abbrev Bw(P w K mg base):=Fn P w K mg base 1 "places_at" zJ ["m"]<|sH K Zl.xN
def KJ(D:xP K mg "places_at" zJ ["m"] f fd)(B:Bt mg):Bw P w K mg base f fd:=FZ D Lb<|by bv_omega
abbrev B6:Stmt:=zc 9
def Ox:pS ["m","start","place_of","known","waiting","here","end","there"] ["m","start"]<|oX B6:=sC
abbrev JF(P w K mg base):=Fn P w K mg base 2 "reached" B6 ["m","start"]<|sH K K51.Aa
def Qj(D:xP K mg "reached" B6 ["m","start"] f fd)(B:Bt mg)(l:Bw P w K mg base u2 v2):JF P w K mg base f fd:=FZ D Ox<|by bv_omega
abbrev Eg:Stmt:=zc 10
def yo:pS ["m","known","found","start","places","place"] ["m"]<|oX Eg:=sC
abbrev DH(P w K mg base):=Fn P w K mg base 3 "pieces" Eg ["m"]<|sH K UA
def Ua(D:xP K mg "pieces" Eg ["m"] f fd)(B:Bt mg)(l:JF P w K mg base u3 v3):DH P w K mg base f fd:=Jv D yo λQ Q Q Q Q Q hr r n=>(_,
   (oT (qd (i:=1) yo yF)
   (oT (qd (i:=2) yo<|tm oS)
   (oT (uG ek rfl (vC (by rfl) B.range<|oP (pO qH (by rfl) B.len ed<|oP (pv 0) oS) oS) (vz (i:=3) yo)
    (pB (tS (Dg<|xk (tM hr) (pv 3)<|pv 1) (oT (qd (i:=4) yo<|qj l hr<|oP (pv 0)<|oP (pv 3) oS) (oT (uG ek rfl (qG<|pv 4) (vz (i:=5) yo)
    (pB<|xu (tM hr) (pv 1) (pv 5) zx rfl))<|pB<|sv<|uE aw aN aO rA (pv 2)<|oP (sM (N:=["place","m"]) (fr:=[0]) rfl rfl (by trivial) rfl (by trivial) rfl (p7 (by trivial) rfl rfl (by show(rfl,trivial)) (by repeat (first|show trivial|show((by first|show λQ=>(_,rfl)|show λh=>(by obtain h|h:=h <;> cases h)),?_)))<|by show((rfl,rfl,rfl),trivial)) (qG<|pv 4) (λQ Q Q Q=>sZ)<|λQ Q Q Q=>(vK wF (by rfl) B.list de<|oP (tV sy (pv 1) (pv 0)<|λQ Q=>rfl) oS)) oS)) qU)))
   (pB<|qT<|pv 2)))),by infer_instance)
abbrev tI:Stmt:=zc 11
def Ab:pS ["m"] ["m"]<|oX tI:=sC
abbrev wN(P w K mg base):=Fn P w K mg base 4 "refuse_not_one_piece" tI ["m"]<|sH K K40.tL
def Ag(D:xP K mg "refuse_not_one_piece" tI ["m"] f fd)(B:Bt mg)(l:DH P w K mg base u4 v4):wN P w K mg base f fd:=FZ D Ab<|by bv_omega
abbrev zt:Stmt:=zc 13
def KD:pS ["turn","end","start"] ["turn","end"]<|oX zt:=sC
abbrev FK(P w K mg base):=Fn P w K mg base 1 "turn_from" zt ["turn","end"]<|sH K K31.wt
def LD(D:xP K mg "turn_from" zt ["turn","end"] f fd)(B:Bt mg):FK P w K mg base f fd:=FZ D KD<|by bv_omega
abbrev xB:Stmt:=zc 14
def rO:pS ["m","end","place_of","turns","ends","known","spot","other","there"] ["m","end"]<|oX xB:=sC
abbrev zP(P w K mg base):=Fn P w K mg base 2 "round_turns" xB ["m","end"]<|sH K K40.vQ
def HP(D:xP K mg "round_turns" xB ["m","end"] f fd)(B:Bt mg)(n:Bw P w K mg base u2 v2)(l:FK P w K mg base u6 v6):zP P w K mg base f fd:=Jv D rO λQ Q Q Q Q Q hr s r=>(_,
   (oT (qd (i:=2) rO<|qj n hr<|oP (pv 0) oS)
   (oT (tS (Dg<|xk (tM hr) (pv 1)<|pv 2) (pB MV) qU)
   (oT (qd (i:=3) rO<|tm<|oP (qj l hr<|oP (tV sy (pv 0) (ud (tM hr) (pv 2) (pv 1)<|by first|rfl|show trivial|(intro _ _;rfl))<|λQ Q=>rfl)<|oP (pv 1) oS) oS)
   (oT (qd (i:=4) rO<|vK wF (by rfl) B.list de<|oP (tV sy (pv 3) oW<|λQ Q=>rfl) oS)
   (oT (qd (i:=5) rO<|RE (Nu (ud (tM hr) (pv 2) (pv 1)<|by first|rfl|show trivial|(intro _ _;rfl)) zx QX) rfl rfl ⋯ ⋯)
   (oT (qd (i:=6) rO oW)
   (oT (Bo ek (qg NN (pv 6) (pO qH (by rfl) B.len ed<|oP (pv 4) oS)<|qu _)<|oT (qd (i:=7) rO<|wm uD<|tV sy (pv 4) (pv 6)<|λQ Q=>rfl)<|oT (qd (i:=8) rO<|ud (tM hr) (pv 2) (pv 7)<|by first|rfl|show trivial|(intro _ _;rfl))<|oT (tS (Dg<|xk (tM hr) (pv 8)<|pv 5) (oT (xu (tM hr) (pv 5) (pv 8) zx rfl)<|oT (sv<|uE aw aN aO rA (pv 3)<|oP (qj l hr<|oP (tV sy (pv 0) (pv 8)<|λQ Q=>rfl)<|oP (pv 7) oS) oS)<|pB<|sv<|uE aw dA dB CA (pv 4)<|oP (tV sy (pv 3) (wm uD oW)<|λQ Q=>rfl) oS) qU)<|pB<|Ke (i:=6) rO.nd rfl (by trivial) oW LB)
   (pB<|qT<|pv 3)))))))),by infer_instance)
abbrev yj:Stmt:=zc 15
def IA:pS ["m","end"] ["m","end"]<|oX yj:=sC
abbrev DX(P w K mg base):=Fn P w K mg base 3 "round_ends" yj ["m","end"]<|sH K K40.yh
def IE(D:xP K mg "round_ends" yj ["m","end"] f fd)(B:Bt mg)(n:zF P w K mg base u0 v0)(l:zP P w K mg base u7 v7):DX P w K mg base f fd:=FZ D IA<|by bv_omega
abbrev zI:Stmt:=zc 17
def K1:pS ["spots","turn"] ["spots","turn"]<|oX zI:=sC
abbrev FH(P w K mg base):=Fn P w K mg base 1 "turn_code" zI ["spots","turn"]<|sH K K33.vn
def Km(D:xP K mg "turn_code" zI ["spots","turn"] f fd)(B:Bt mg)(l:mg "tuple" = n_):FH P w K mg base f fd:=Jv D K1 λQ Q Q Q Q Q hr r n=>(_,
   (pB<|qT<|vK C0 (by rfl) l dH<|oP (sM (N:=["end","spots"]) (fr:=[0]) rfl rfl (by trivial) rfl (by trivial) rfl (p7 (by trivial) rfl rfl (by show(rfl,trivial)) (by repeat (first|show trivial|show((by first|show λQ=>(_,rfl)|show λh=>(by obtain h|h:=h <;> cases h)),?_)))<|by show((rfl,rfl,rfl),trivial)) (qG<|pv 1) (λQ Q Q Q=>sZ)<|λQ Q Q Q=>(ud (tM hr) (pv 1) (wm uD<|pv 0)<|by first|rfl|show trivial|(intro _ _;rfl))) oS),by infer_instance)
abbrev Cj:Stmt:=zc 16
def AO:pS ["turns","spots","spot","end"] ["turns"]<|oX Cj:=sC
abbrev EJ(P w K mg base):=Fn P w K mg base 2 "code_of" Cj ["turns"]<|sH K K33.yp
def Oy(D:xP K mg "code_of" Cj ["turns"] f fd)(B:Bt mg)(r:mg "tuple" = n_)(l:zF P w K mg base u0 v0)(n:FH P w K mg base u9 v9):EJ P w K mg base f fd:=Jv D AO λQ Q Q Q Q Q hr t s=>(_,
   (oT (qd (i:=1) AO yF)
   (oT (uG ek rfl (KA (by rfl) B.enum<|oP (qj l hr<|oP (pv 0) oS) oS) (Lw rfl<|yr (vz (i:=2) AO)<|yr (vz (i:=3) AO) Gq)
    (pB<|xu (tM hr) (pv 1) (pv 3) (pv 2) rfl))
   (pB<|qT<|vK C0 (by rfl) r dH<|oP (sM (N:=["turn","spots"]) (fr:=[1]) rfl rfl (by trivial) rfl (by trivial) rfl (p7 (by trivial) rfl rfl (by show(rfl,trivial)) (by repeat (first|show trivial|show((by first|show λQ=>(_,rfl)|show λh=>(by obtain h|h:=h <;> cases h)),?_)))<|by show((rfl,rfl,rfl),trivial)) (qG<|pv 0) (λQ Q Q Q=>sZ)<|λQ Q Q Q=>(qj n hr<|oP (pv 1)<|oP (pv 0) oS)) oS))),by infer_instance)
abbrev yk:Stmt:=zc 18
def Iz:pS ["m","end"] ["m","end"]<|oX yk:=sC
abbrev A3(P w K mg base):=Fn P w K mg base 3 "round_code" yk ["m","end"]<|sH K xG
def IF(D:xP K mg "round_code" yk ["m","end"] f fd)(B:Bt mg)(n:EJ P w K mg base u10 v10)(l:zP P w K mg base u7 v7):A3 P w K mg base f fd:=FZ D Iz<|by bv_omega
abbrev xw:Stmt:=zc 19
def BS:pS ["m","ends"] ["m"]<|oX xw:=sC
abbrev CY(P w K mg base):=Fn P w K mg base 6 "least_round" xw ["m"]<|sH K K37.uY
def G7(D:xP K mg "least_round" xw ["m"] f fd)(hC:fd.code = ao t)(x:W.codeHdIn K t u=t_)(y:%[u|(("least_round" : Str) ++ ".<locals>.") ++ "<lambda>"]∈wD K)(B:Bt mg)(r:EN P w K mg base u1 v1)(l:DX P w K mg base u8 v8)(n:A3 P w K mg base u11 v11):CY P w K mg base f fd:=(D,okC D.F BS (λZ Z Z Z=>OH) λA outer s H z Q E hr h=>(_,(oT (qd (i:=1) BS<|qj r hr<|oP (pv 0) oS)<|oT (tS (qg xK (pO qH (by rfl) B.len ed<|oP (pv 1) oS) oW<|qu _) (pB<|qT<|tm oS) qU)<|pB<|qT<|qj l hr<|oP (pv 0)<|oP (SI (i:=0) (k:=3) hr rfl (by rfl) B.min hC x y rfl rfl (FN.of rfl rfl rfl (by trivial) rfl rfl (_,rfl,rfl) rfl) rfl (oP (pv 1) oS) (λZ Z Z Z=>rfl)<|λZ Z Z Z hr=>(qj n hr<|oP (pv 1)<|oP (pv 0) oS)) oS),GO _ (K:=K) (qc (qK (i:=1)<|qS<|pN (qb 0) qw)<|qc (wO (rJ<|pY Ay (wQ EH<|pH (oY 1) qa) pV) (uH<|xQ qw) ux)<|uH<|qS<|pN (qb 0)<|pN (gi<|SB (i:=0) (zV 1)<|qS<|pN (qb 1)<|pN (qb 0) qw) qw) h))
abbrev xV:Stmt:=zc 20
def CW:pS ["m","ends"] ["m"]<|oX xV:=sC
abbrev Bb(P w K mg base):=Fn P w K mg base 5 "least_code" xV ["m"]<|sH K K37.ui
def IB(D:xP K mg "least_code" xV ["m"] f fd)(B:Bt mg)(l:wN P w K mg base u5 v5)(r:EN P w K mg base u1 v1)(s:EJ P w K mg base u10 v10)(n:A3 P w K mg base u11 v11):Bb P w K mg base f fd:=Jv D CW λQ Q Q Q Q Q hr u t=>(_,
   (oT (sv<|qj l hr<|oP (pv 0) oS)
   (oT (qd (i:=1) CW<|qj r hr<|oP (pv 0) oS)
   (oT (tS (qg xK (pO qH (by rfl) B.len ed<|oP (pv 1) oS) oW<|qu _) (pB<|qT<|qj s hr<|oP (pv 0) oS) qU)
   (pB<|qT<|pO (Jm rfl u) (by rfl) B.min du<|oP (sM (N:=["end","m"]) (fr:=[0]) rfl rfl (by trivial) rfl (by trivial) rfl (p7 (by trivial) rfl rfl (by show(rfl,trivial)) (by repeat (first|show trivial|show((by first|show λQ=>(_,rfl)|show λh=>(by obtain h|h:=h <;> cases h)),?_)))<|by show((rfl,rfl,rfl),trivial)) (qG<|pv 1) (λQ Q Q Q=>sZ)<|λQ Q Q Q=>(qj n hr<|oP (pv 1)<|oP (pv 0) oS)) oS)))),by infer_instance)
abbrev Gn:Stmt:=zc 21
def Xx:pS ["m"] ["m"]<|oX Gn:=sC
abbrev Gj(P w K mg base):=Fn P w K mg base 6 "codes" Gn ["m"]<|sH K sS
def WT(D:xP K mg "codes" Gn ["m"] f fd)(B:Bt mg)(G_least_code:Bb P w K mg base u13 v13)(l:DH P w K mg base u4 v4):Gj P w K mg base f fd:=FZ D Xx<|by bv_omega
abbrev A0:Stmt:=zc 23
def Ob:pS ["m"] ["m"]<|oX A0:=sC
abbrev GI(P w K mg base):=Fn P w K mg base 8 "by_codes" A0 ["m"]<|sH K K37.yu
def LP(D:xP K mg "by_codes" A0 ["m"] f fd)(B:Bt mg)(l:DH P w K mg base u4 v4)(G_least_code:Bb P w K mg base u13 v13):GI P w K mg base f fd:=FZ D Ob<|by bv_omega
abbrev DZ:Stmt:=zc 24
def Ci:pS ["m","n","pairs","one","two"] ["m","n"]<|oX DZ:=sC
abbrev NH(P w K mg base):=Fn P w K mg base 9 "laying" DZ ["m","n"]<|sH K K37.Ea
def Te(D:xP K mg "laying" DZ ["m","n"] f fd)(B:Bt mg)(n:GI P w K mg base u15 v15)(l:CY P w K mg base u12 v12):NH P w K mg base f fd:=Jv D Ci λQ Q Q Q Q Q hr s r=>(_,
   (oT (qd (i:=2) Ci<|tm oS)
   (oT (uG ek rfl (acS (by rfl) B.zip<|oP (qj n hr<|oP (pv 0) oS)<|oP (qj n hr<|oP (pv 1) oS) oS) (Lw rfl<|yr (vz (i:=3) Ci)<|yr (vz (i:=4) Ci) Gq)
    (pB<|sv<|uE aw dA dB CA (pv 2)<|oP (Zc rfl (by rfl) B.list (by rfl) B.zip<|oP (qj l hr<|oP (pv 3) oS)<|oP (qj l hr<|oP (pv 4) oS) oS) oS))
   (pB<|qT<|pO DB (by rfl) B.sorted cQ<|oP (pv 2) oS))),
   (qc (qK (i:=2)<|xQ qw)
   (qc (YR (qS<|pN (qb 0) qw) (qS<|pN (qb 1) qw)<|OO (i:=2)<|sk<|YF<|pH (t6<|qS<|pN (qb 3) qw)<|pH (t6<|qS<|pN (qb 4) qw) qa)
   (uH<|Nj<|zV 2))))
abbrev xp:Stmt:=zc 25
def G5:pS ["ones","others"] ["ones","others"]<|oX xp:=sC
abbrev CU(P w K mg base):=Fn P w K mg base 1 "least_apart" xp ["ones","others"]<|sH K K38.xA
def GC(D:xP K mg "least_apart" xp ["ones","others"] f fd)(B:Bt mg):CU P w K mg base f fd:=Jv D G5 λQ Q Q Q Q Q hr n l=>(_,
   (pB<|qT<|pO (Jm rfl n) (by rfl) B.min du<|oP (sM (N:=["code","ones","others"]) (fr:=[0,1]) rfl rfl (by trivial) rfl (by trivial) rfl (p7 (by trivial) rfl rfl (by show(rfl,rfl,trivial)) (by repeat (first|show trivial|show((by first|show λQ=>(_,rfl)|show λh=>(by obtain h|h:=h <;> cases h)),?_)))<|by show((rfl,rfl,rfl),(rfl,rfl,rfl),trivial)) (qG<|qf Dp (pv 0)<|pv 1) (λQ Q Q Q=>U5<|qg DJ (uE aw cH dG (Eo l) (pv 1)<|oP (pv 0) oS) (uE aw cH dG (Eo l) (pv 2)<|oP (pv 0) oS)<|qu _)<|λQ Q Q Q=>(pv 0)) oS),
   (uH<|RL<|SL.q<|sk<|uo (Dd (BL 0)<|BL 1) (rJ<|pY FW (Na (T:= "list") DG (oY 1)<|pH (oY 0) qa)<|Na (T:= "list") DG (oY 2)<|pH (oY 0) qa)<|qb 0))
abbrev AD:Stmt:=zc 26
def N0:pS ["m","n","ones","others","code"] ["m","n"]<|oX AD:=sC
abbrev Dv(P w K mg base):=Fn P w K mg base 10 "compared" AD ["m","n"]<|sH K aAo
def Nt(D:xP K mg "compared" AD ["m","n"] f fd)(B:Bt mg)(r:Gj P w K mg base u14 v14)(l:CU P w K mg base u17 v17)(n:NH P w K mg base u16 v16):Dv P w K mg base f fd:=FZ D N0<|by bv_omega
abbrev Dy:Stmt:=zc 28
def RZ:pS ["_law_script","_law_k"] ["_law_script","_law_k"]<|oX Dy:=sC
abbrev D1(P w K mg base):=Fn P w K mg base 1 "_law_cell" Dy ["_law_script","_law_k"]<|sH K nC
def Tb(D:xP K mg "_law_cell" Dy ["_law_script","_law_k"] f fd)(B:Bt mg):D1 P w K mg base f fd:=FZ D RZ<|by bv_omega
abbrev DU:Stmt:=zc 29
def Th:pS ["_law_one","_law_two","_law_k","_law_step","_law_shift"] ["_law_one","_law_two","_law_k"]<|oX DU:=sC
abbrev Ib(P w K mg base):=Fn P w K mg base 1 "_law_name" DU ["_law_one","_law_two","_law_k"]<|sH K Fi
def T9(D:xP K mg "_law_name" DU ["_law_one","_law_two","_law_k"] f fd)(B:Bt mg):Ib P w K mg base f fd:=FZ D Th<|by bv_omega
abbrev CB:Stmt:=zc 30
def ur:pS ["_law_cells","_law_names","_law_wild","_law_turns_here","_law_way","_law_loose","_law_left","_law_cell_here","_law_here","_law_at","_law_end"] ["_law_cells","_law_names","_law_wild"]<|oX CB:=sC
abbrev Jx(P w K mg base):=Fn P w K mg base 1 "_law_turns" CB ["_law_cells","_law_names","_law_wild"]<|sH K K31.wY
def Ow(D:xP K mg "_law_turns" CB ["_law_cells","_law_names","_law_wild"] f fd)(B:Bt mg):Jx P w K mg base f fd:=Jv D ur λQ Q Q Q Q Q hr n l=>(_,
   (oT (qd (i:=3) ur<|tm<|oP (tm oS) oS)
   (oT (qd (i:=4) ur<|tm<|oP oW oS)
   (oT (qd (i:=5) ur<|tm oS)
   (oT (qd (i:=6) ur<|vK wF (by rfl) B.list de<|oP (pv 1) oS)
   (oT (uG ek rfl (qG<|pv 0) (vz (i:=7) ur)
    (oT (qd (i:=8) ur<|tV sy (pv 3) (tV sy (pv 4) (qf BJ (pO qH (by rfl) B.len ed<|oP (pv 4) oS) oW)<|λQ Q=>rfl)<|λQ Q=>rfl)<|pB<|tS (O2<|J7 (qg xK (qf uu (pv 7) oW) oW<|qu _)<|Ge<|qg Ft (pO qH (by rfl) B.len ed<|oP (pv 4) oS) oW<|qu _) (pB<|sv<|Pl aw dr dt Qd<|pv 4)<|pB<|tS (O2<|J7 (qg xK (qf uu (pv 7) oW) oW<|qu _)<|Ge<|qg Ft (pO qH (by rfl) B.len ed<|oP (pv 5) oS) oW<|qu _) (oT (qd (i:=9) ur<|qf BJ (pO qH (by rfl) B.len ed<|oP (pv 5) oS) oW)<|oT (tS (BH<|pv 2) (pB<|qd (i:=9) ur<|qf uu (qf uf (pv 7) oW)<|pO qH (by rfl) B.len ed<|oP (pv 5) oS) qU)<|pB<|sv<|uE aw aN aO rA (pv 8)<|oP (uE aw dr dt G0 (pv 5)<|oP (pv 9) oS) oS)<|pB<|tS (qg Ft (pO qH (by rfl) B.len ed<|oP (pv 6) oS) oW<|qu _) (oT (qd (i:=10) ur<|qf EC (uE aw dr dt G0 (pv 6)<|oP oW oS)<|qf BJ oW<|qf EC oW<|qf uu (qf uf (pv 7) oW) oW)<|oT (sv<|uE aw aN aO rA (pv 8)<|oP (pv 10) oS)<|pB<|tS (qg xK (qf uu (pv 7) oW) oW<|qu _) (oT (sv<|uE aw aN aO rA (pv 3)<|oP (tm<|oP (wm uD<|pv 10) oS) oS)<|pB<|sv<|uE aw aN aO rA (pv 4)<|oP (qf BJ (pO qH (by rfl) B.len ed<|oP (pv 3) oS) oW) oS)<|pB<|sv<|uE aw aN aO rA (pv 5)<|oP (wm uD<|pv 10) oS) qU))
   (oT (Bo ek (qg Ft (pO qH (by rfl) B.len ed<|oP (pv 5) oS) oW<|qu _)<|pB<|sv<|uE aw aN aO rA (tV sy (pv 3) (tV sy (pv 4) (qf BJ (pO qH (by rfl) B.len ed<|oP (pv 4) oS) oW)<|λQ Q=>rfl)<|λQ Q=>rfl)<|oP (Pl aw dr dt Qd<|pv 5) oS)
   (pB<|qT<|pv 3))))))),by infer_instance)
abbrev A7:Stmt:=zc 31
def MC:pS ["_law_turn","_law_at"] ["_law_turn"]<|oX A7:=sC
abbrev Hs(P w K mg base):=Fn P w K mg base 1 "_law_turned" A7 ["_law_turn"]<|sH K Zl.Aj
def MZ(D:xP K mg "_law_turned" A7 ["_law_turn"] f fd)(B:Bt mg):Hs P w K mg base f fd:=FZ D MC<|by bv_omega
abbrev DK:Stmt:=zc 32
def Tt:pS ["_law_turns_here"] ["_law_turns_here"]<|oX DK:=sC
abbrev Mn(P w K mg base):=Fn P w K mg base 2 "_law_good" DK ["_law_turns_here"]<|sH K Zl.uT
def Su(D:xP K mg "_law_good" DK ["_law_turns_here"] f fd)(B:Bt mg)(l:Hs P w K mg base u22 v22):Mn P w K mg base f fd:=FZ D Tt<|by bv_omega
abbrev DE:Stmt:=zc 33
def Tu:pS ["_law_m"] ["_law_m"]<|oX DE:=sC
abbrev Ml(P w K mg base):=Fn P w K mg base 1 "_law_copy" DE ["_law_m"]<|sH K aBb
def R9(D:xP K mg "_law_copy" DE ["_law_m"] f fd)(B:Bt mg):Ml P w K mg base f fd:=Jv D Tu λQ Q Q Q Q Q hr n l=>(_,
   (pB<|qT<|sM (cl:=[]) (N:=["_law_turn"]) (fr:=[]) rfl rfl (by trivial) rfl (by trivial) rfl (p8<|by trivial) (qG<|pv 0) (λQ Q Q Q=>sZ)<|λQ Q Q Q=>(vK wF (by rfl) B.list de<|oP (pv 0) oS)),by infer_instance)
abbrev zz:Stmt:=zc 34
def yc:pS ["_law_turns_here","_law_names","_law_others","_law_bits","_law_new","_law_k","_law_end"] ["_law_turns_here","_law_names","_law_others","_law_bits"]<|oX zz:=sC
abbrev BQ(P w K mg base):=Fn P w K mg base 1 "_law_renamed" zz ["_law_turns_here","_law_names","_law_others","_law_bits"]<|sH K aAn
def Ld(D:xP K mg "_law_renamed" zz ["_law_turns_here","_law_names","_law_others","_law_bits"] f fd)(B:Bt mg):BQ P w K mg base f fd:=Jv D yc λQ Q Q Q Q Q hr n l=>(_,
   (oT (qd (i:=4) yc yF)
   (oT (uG ek rfl (vC (by rfl) B.range<|oP (pO qH (by rfl) B.len ed<|oP (pv 1) oS) oS) (vz (i:=5) yc)
    (oT (qd (i:=6) yc<|qf EC (tV sy (pv 2) (pv 5)<|λQ Q=>rfl)<|qf BJ oW<|qf EC oW<|qf uu (qf uf (pv 3)<|qf A5 (pv 5) oW) oW)<|oT (xu (tM hr) (pv 4) (tV sy (pv 1) (pv 5)<|λQ Q=>rfl) (pv 6) rfl)<|pB<|xu (tM hr) (pv 4) (wm uD<|tV sy (pv 1) (pv 5)<|λQ Q=>rfl) (wm uD<|pv 6) rfl))
   (pB<|qT<|sM (N:=["_law_turn","_law_new"]) (fr:=[4]) rfl rfl (by trivial) rfl (by trivial) rfl (p7 (by trivial) rfl rfl (by show(rfl,trivial)) (by repeat (first|show trivial|show((by first|show λQ=>(_,rfl)|show λh=>(by obtain h|h:=h <;> cases h)),?_)))<|by show((rfl,rfl,rfl),trivial)) (qG<|pv 0) (λQ Q Q Q=>sZ)<|λQ Q Q Q=>(sM (N:=["_law_end","_law_new"]) (fr:=[1]) rfl rfl (by trivial) rfl (by trivial) rfl (p7 (by trivial) rfl rfl (by show(rfl,trivial)) (by repeat (first|show trivial|show((by first|show λQ=>(_,rfl)|show λh=>(by obtain h|h:=h <;> cases h)),?_)))<|by show((rfl,rfl,rfl),trivial)) (qG<|pv 0) (λQ Q Q Q=>sZ)<|λQ Q Q Q=>(ud (tM hr) (pv 1) (pv 0)<|by first|rfl|show trivial|(intro _ _;rfl)))))),
   (qc (qK (i:=4) J0)
   (qc (Ma (pH (wQ EH<|pH (oY 1) qa) qa)<|qc (qK (i:=6)<|gi<|pY J5 (pY Fu (oY 2)<|oY 5)<|pY Us pV<|pY J5 pV<|pY vZ (pY wH (oY 3)<|pY Fc (oY 5) pV) pV)<|qc (Gf (i:=4) (qb 6)<|pY Fu (oY 1)<|oY 5)<|Gf (i:=4) (gi<|BE za<|oY 6)<|BE za<|pY Fu (oY 1)<|oY 5)
   (uH<|uo (qb 0) vO<|uo (qb 0) vO<|gi<|yg (oY 1)<|oY 0))))
abbrev CG:Stmt:=zc 35
def Po:pS ["_law_found"] ["_law_found"]<|oX CG:=sC
abbrev Cv(P w K mg base):=Fn P w K mg base 1 "_law_whole" CG ["_law_found"]<|sH K se
def P8(D:xP K mg "_law_whole" CG ["_law_found"] f fd)(B:Bt mg):Cv P w K mg base f fd:=FZ D Po<|by bv_omega
abbrev AU:Stmt:=zc 36
def Nb:pS ["_law_m","_law_follow_here","_law_turn","_law_k"] ["_law_m"]<|oX AU:=sC
abbrev Dj(P w K mg base):=Fn P w K mg base 1 "_law_follow" AU ["_law_m"]<|sH K aAm
def My(D:xP K mg "_law_follow" AU ["_law_m"] f fd)(B:Bt mg):Dj P w K mg base f fd:=FZ D Nb<|by bv_omega
abbrev CJ:Stmt:=zc 37
def O3:pS ["_law_found","_law_pair"] ["_law_found"]<|oX CJ:=sC
abbrev JB(P w K mg base):=Fn P w K mg base 2 "_law_pairs" CJ ["_law_found"]<|sH K K40.f_L_pairs
def O8(D:xP K mg "_law_pairs" CJ ["_law_found"] f fd)(B:Bt mg)(l:mg "tuple" = n_)(n:Cv P w K mg base u26 v26):JB P w K mg base f fd:=FZ D O3<|by bv_omega
abbrev xo:Stmt:=zc 38
def vo:pS ["_law_found","_law_m","_law_n","_law_ones","_law_others","_law_image","_law_end"] ["_law_found","_law_m","_law_n"]<|oX xo:=sC
abbrev C8(P w K mg base):=Fn P w K mg base 3 "_law_is_laying" xo ["_law_found","_law_m","_law_n"]<|sH K K40.uW
def Hd(D:xP K mg "_law_is_laying" xo ["_law_found","_law_m","_law_n"] f fd)(B:Bt mg)(n:Dj P w K mg base u27 v27)(s:JB P w K mg base u28 v28):C8 P w K mg base f fd:=Jv D vo λQ Q Q Q Q Q hr l r=>(_,
   (oT (tS (O2<|C3 (Dh<|BH<|qj s hr<|oP (pv 0) oS)<|BR<|qg (K2 l) (pv 0) (pO DB (by rfl) B.sorted cQ<|oP (pv 0) oS)<|qu _) (pB<|qT zx) qU)
   (oT (qd (i:=3) vo<|qj n hr<|oP (pv 1) oS)
   (oT (qd (i:=4) vo<|qj n hr<|oP (pv 2) oS)
   (oT (qd (i:=5) vo<|ae2 rfl (by rfl) B.dict<|oP (pv 0) oS)
   (oT (tS (qg (K2 l) (sM (cl:=[]) (N:=["_law_pair"]) (fr:=[]) rfl rfl (by trivial) rfl (by trivial) rfl (p8<|by trivial) (qG<|pv 0) (λQ Q Q Q=>sZ)<|λQ Q Q Q=>(tV xR (pv 0) oW<|λQ Q=>rfl)) (pO (AB rfl) (by rfl) B.sorted cQ<|oP (pv 3) oS)<|qu _) (pB<|qT zx) qU)
   (oT (tS (qg (K2 l) (pO Eb (by rfl) B.sorted cQ<|oP (sM (cl:=[]) (N:=["_law_pair"]) (fr:=[]) rfl rfl (by trivial) rfl (by trivial) rfl (p8<|by trivial) (qG<|pv 0) (λQ Q Q Q=>sZ)<|λQ Q Q Q=>(tV xR (pv 0) oW<|λQ Q=>rfl)) oS) (pO (AB rfl) (by rfl) B.sorted cQ<|oP (pv 4) oS)<|qu _) (pB<|qT zx) qU)
   (oT (uG ek rfl (Xe.Re<|pv 3) (vz (i:=6) vo)
    (pB<|tS (O2<|C3 (qg DJ (ud (tM hr) (pv 5) (wm uD<|pv 6)<|by first|rfl|show trivial|(intro _ _;rfl)) (wm uD<|ud (tM hr) (pv 5) (pv 6)<|by first|rfl|show trivial|(intro _ _;rfl))<|qu _)<|BR<|qg DJ (ud (tM hr) (pv 5) (ud (tM hr) (pv 3) (pv 6)<|by first|rfl|show trivial|(intro _ _;rfl))<|by first|rfl|show trivial|(intro _ _;rfl)) (ud (tM hr) (pv 4) (ud (tM hr) (pv 5) (pv 6)<|by first|rfl|show trivial|(intro _ _;rfl))<|by first|rfl|show trivial|(intro _ _;rfl))<|qu _) (pB<|qT zx) qU))
   (pB<|qT zx)))))))),
   (qc (wO (FO (Kh<|Jf<|ug<|pH (oY 0) qa)<|rJ<|pY KY (oY 0)<|t6<|Nj<|zV 0) (uH<|gi Eh) ux)
   (qc (qK (i:=3)<|qS<|pN (qb 1) qw)
   (qc (qK (i:=4)<|qS<|pN (qb 2) qw)
   (qc (qK (i:=5)<|aey<|zV 0)
   (qc (wO (rJ<|pY KY (t6<|uo (qb 0) vO<|gi<|pY yw (oY 0) pV)<|t6<|GG<|oY 3) (uH<|gi Eh) ux)
   (qc (wO (rJ<|pY KY (t6<|LM<|SL.q<|sk<|uo (qb 0) vO<|gi<|pY yw (oY 0) pV)<|t6<|GG<|oY 4) (uH<|gi Eh) ux)
   (qc (Zx (x:=6) (i:=3)<|wO (FO (rJ<|pY FW (yg (oY 5)<|BE za<|oY 6)<|BE za<|yg (oY 5)<|oY 6)<|rJ<|pY FW (yg (oY 5)<|Ni (oY 3)<|oY 6)<|yg (oY 4)<|yg (oY 5)<|oY 6) (uH<|gi Eh) ux)
   (uH<|gi Eh)))))))))
abbrev D6:Stmt:=zc 39
def TU:pS ["_law_ones","_law_others","_law_end","_law_other","_law_image","_law_ahead","_law_at","_law_pair"] ["_law_ones","_law_others","_law_end","_law_other"]<|oX D6:=sC
abbrev LR(P w K mg base):=Fn P w K mg base 1 "_law_laid" D6 ["_law_ones","_law_others","_law_end","_law_other"]<|sH K K38.xJ
def Ta(D:xP K mg "_law_laid" D6 ["_law_ones","_law_others","_law_end","_law_other"] f fd)(B:Bt mg):LR P w K mg base f fd:=FZ D TU<|by bv_omega
abbrev Cc:Stmt:=zc 40
def OU:pS ["_law_cells","_law_names","_law_kind","_law_half","_law_one","_law_two","_law_again","_law_built_here"] ["_law_cells","_law_names","_law_kind"]<|oX Cc:=sC
abbrev ED(P w K mg base):=Fn P w K mg base 2 "_law_built" Cc ["_law_cells","_law_names","_law_kind"]<|sH K K37.yq
def PN(D:xP K mg "_law_built" Cc ["_law_cells","_law_names","_law_kind"] f fd)(B:Bt mg)(l:Jx P w K mg base u21 v21):ED P w K mg base f fd:=FZ D OU<|by bv_omega
abbrev AH:Stmt:=zc 41
def M8:pS ["_law_built_here","_law_turns_here","_law_piece"] ["_law_built_here"]<|oX AH:=sC
abbrev Ik(P w K mg base):=Fn P w K mg base 3 "_law_joined" AH ["_law_built_here"]<|sH K aBa
def M7(D:xP K mg "_law_joined" AH ["_law_built_here"] f fd)(B:Bt mg)(l:Mn P w K mg base u23 v23):Ik P w K mg base f fd:=FZ D M8<|by bv_omega
abbrev xE:Stmt:=zc 42
def rV:pS ["_law_code","_law_row","_law_part","_law_turns_here","_law_at","_law_turn","_law_number"] ["_law_code"]<|oX xE:=sC
abbrev C4(P w K mg base):=Fn P w K mg base 2 "_law_read_code" xE ["_law_code"]<|sH K K38.vT
def G8(D:xP K mg "_law_read_code" xE ["_law_code"] f fd)(B:Bt mg)(l:mg "tuple" = n_)(r:Cv P w K mg base u26 v26):C4 P w K mg base f fd:=Jv D rV λQ Q Q Q Q Q hr s n=>(_,
   (oT (tS (O2<|C3 (Dh<|BH<|pO Dx (by rfl) B.isi fc<|oP (pv 0)<|oP (Kw (v:=.ty "tuple") (by rfl) l dH rfl) oS)<|BR<|Dh<|BH<|pO (HF rfl) (by rfl) B.all gG<|oP (sM (cl:=[]) (N:=["_law_part"]) (fr:=[]) rfl rfl (by trivial) rfl (by trivial) rfl (p8<|by trivial) (Lp<|pv 0) (λQ Q Q Q=>sZ)<|λQ Q Q Q=>(pO Dx (by rfl) B.isi fc<|oP (pv 0)<|oP (Kw (v:=.ty "tuple") (by rfl) l dH rfl) oS)) oS) (pB<|qT E5) qU)
   (oT (qd (i:=1) rV<|tm oS)
   (oT (uG ek rfl (Lp<|pv 0) (vz (i:=2) rV)
    (pB<|sv<|uE aw dA dB X9 (pv 1)<|oP (pv 2) oS))
   (oT (tS (Dh<|BH<|pO (HF rfl) (by rfl) B.all gG<|oP (sM (N:=["_law_number","_law_row"]) (fr:=[1]) rfl rfl (by trivial) rfl (by trivial) rfl (p7 (by trivial) rfl rfl (by show(rfl,trivial)) (by repeat (first|show trivial|show((by first|show λQ=>(_,rfl)|show λh=>(by obtain h|h:=h <;> cases h)),?_)))<|by show((rfl,rfl,rfl),trivial)) (qG<|pv 1) (λQ Q Q Q=>sZ)<|λQ Q Q Q=>(OS (qj r hr<|oP (pv 0) oS)<|P3<|UL adJ NN oW (pv 0)<|pO qH (by rfl) B.len ed<|oP (pv 1) oS)) oS) (pB<|qT E5) qU)
   (oT (qd (i:=3) rV<|tm oS)
   (oT (qd (i:=4) rV oW)
   (oT (uG ek rfl (Lp<|pv 0) (vz (i:=2) rV)
    (oT (qd (i:=5) rV<|tm oS) (oT (uG ek rfl (Lp<|pv 2) (vz (i:=6) rV)
    (oT (tS (O2<|C3 (qg DJ (tV sy (pv 1) (pv 6)<|λQ Q=>rfl) (pv 4)<|qu _)<|BR<|qg xK (pv 6) (pv 4)<|qu _) (pB<|qT E5) qU)<|oT (sv<|uE aw aN aO rA (pv 5)<|oP (WQ (qg NN (pv 4) (pv 6)<|qu _) (qf A5 (pO (Js rfl) (by rfl) B.min du<|oP (pv 4)<|oP (pv 6) oS) oW)<|qf BJ (wm uD<|pO (Js rfl) (by rfl) B.min du<|oP (pv 4)<|oP (pv 6) oS) oW) oS)<|pB<|Ke (i:=4) rV.nd rfl (by trivial) oW LB))<|pB<|sv<|uE aw aN aO rA (pv 3)<|oP (pv 5) oS)))
   (pB<|qT<|pv 3)))))))),by infer_instance)
abbrev xt:Stmt:=zc 43
def rQ:pS ["_law_turns_here","_law_built_here","_law_many","_law_first","_law_piece","_law_follow_here","_law_start","_law_tried_here"] ["_law_turns_here","_law_built_here"]<|oX xt:=sC
abbrev C7(P w K mg base):=Fn P w K mg base 2 "_law_many_like" xt ["_law_turns_here","_law_built_here"]<|sH K K38.vS
def GN(D:xP K mg "_law_many_like" xt ["_law_turns_here","_law_built_here"] f fd)(B:Bt mg)(l:mg "any" = n_)(n:Dj P w K mg base u27 v27)(s:LR P w K mg base u30 v30):C7 P w K mg base f fd:=Jv D rQ λQ Q Q Q Q Q hr t r=>(_,
   (oT (qd (i:=2) rQ oW)
   (oT (qd (i:=3) rQ<|qj n hr<|oP (pv 0) oS)
   (oT (uG ek rfl (qG<|pv 1) (vz (i:=4) rQ)
    (oT (qd (i:=5) rQ<|qj n hr<|oP (pv 4) oS)<|pB<|tS (O2<|C3 (qg xK (pO wW (by rfl) B.len ed<|oP (pv 3) oS) oW<|qu _)<|BR<|qg DJ (pO wW (by rfl) B.len ed<|oP (pv 3) oS) (pO wW (by rfl) B.len ed<|oP (pv 5) oS)<|qu _) (pB<|Ke (i:=2) rQ.nd rfl (by trivial) (vK JL (by rfl) B.int gF<|oP (Ed xK (pO wW (by rfl) B.len ed<|oP (pv 3) oS) (pO wW (by rfl) B.len ed<|oP (pv 5) oS)<|qu _) oS) LB)<|oT (qd (i:=6) rQ<|pO (Ug rfl) (by rfl) B.min du<|oP (pv 3) oS)<|oT (Cr (i:=7) (N:=["_law_end","_law_first","_law_follow_here","_law_start"]) (fr:=[3,5,6]) rfl rQ.nd rfl (by trivial) rfl (by trivial) rfl (by trivial) rfl (p7 (by trivial) rfl rfl (by show(rfl,rfl,rfl,trivial)) (by repeat (first|show trivial|show((by first|show λQ=>(_,rfl)|show λh=>(by obtain h|h:=h <;> cases h)),?_)))<|by show((rfl,rfl,rfl),(rfl,rfl,rfl),(rfl,rfl,rfl),trivial)) (Xe.Re<|pv 5) (λQ Q Q Q=>sZ)<|λQ Q Q Q=>(qj s hr<|oP (pv 1)<|oP (pv 2)<|oP (pv 3)<|oP (pv 0) oS))<|pB<|Ke (i:=2) rQ.nd rfl (by trivial) (vK JL (by rfl) B.int gF<|oP (pO (UP rfl) (by rfl) l kz<|oP (sM (N:=["_law_image","_law_first"]) (fr:=[3]) rfl rfl (by trivial) rfl (by trivial) rfl (p7 (by trivial) rfl rfl (by show(rfl,trivial)) (by repeat (first|show trivial|show((by first|show λQ=>(_,rfl)|show λh=>(by obtain h|h:=h <;> cases h)),?_)))<|by show((rfl,rfl,rfl),trivial)) (qG<|pv 7) (λQ Q Q Q=>sZ)<|λQ Q Q Q=>(OS (Ed ZJ (pv 0) E5<|qu _)<|P3<|Ed xK (pO wW (by rfl) B.len ed<|oP (pv 0) oS) (pO wW (by rfl) B.len ed<|oP (pv 1) oS)<|qu _)) oS) oS) LB))
   (pB<|qT<|pv 2)))),
   (qc (qK (i:=2)<|gi pV)
   (qc (qK (i:=3)<|qS<|pN (qb 0) qw)
   (qc (EO (qb 1)<|qc (qK (i:=5)<|qS<|pN (qb 4) qw)<|wO (FO (rJ<|pY Ay (wQ AZ<|pH (oY 3) qa) pV)<|rJ<|pY FW (wQ AZ<|pH (oY 3) qa)<|wQ AZ<|pH (oY 5) qa) (OM (i:=2)<|wQ RA<|pH (pY Ay (wQ AZ<|pH (oY 3) qa)<|wQ AZ<|pH (oY 5) qa) qa)<|qc (qK (i:=6)<|gi<|wQ Zb<|pH (oY 3) qa)<|qc (Ys (i:=7)<|Uy (i:=5) vO<|qS<|pN (qb 1)<|pN (qb 2)<|pN (qb 3)<|pN (qb 0) qw)<|OM (i:=2)<|wQ RA<|pH (wQ aaM<|pH (t6<|uo (qb 7) vO<|gi<|WM (pY Yw (oY 0) P2)<|pY Ay (wQ AZ<|pH (oY 0) qa)<|wQ AZ<|pH (oY 1) qa) qa) qa)
   (uH<|K7 2)))))
abbrev A9:Stmt:=zc 44
def uk:pS ["_law_cells","_law_script","_law_names","_law_kind","_law_many","_law_at","_law_others","_law_built_here"] ["_law_cells","_law_script","_law_names","_law_kind"]<|oX A9:=sC
abbrev GE(P w K mg base):=Fn P w K mg base 3 "_law_second" A9 ["_law_cells","_law_script","_law_names","_law_kind"]<|sH K K38.yt
def NA(D:xP K mg "_law_second" A9 ["_law_cells","_law_script","_law_names","_law_kind"] f fd)(B:Bt mg)(r:Ib P w K mg base u20 v20)(s:BQ P w K mg base u25 v25)(l:D1 P w K mg base u19 v19)(t:ED P w K mg base u31 v31):GE P w K mg base f fd:=Jv D uk λQ Q Q Q Q Q hr u n=>(_,
   (oT (qd (i:=4) uk<|pv 3)
   (oT (tS (O2<|J7 (qg xK (qf uu (qf uf (pv 3) oW) oW) oW<|qu _)<|Ge<|qg Ft (pO qH (by rfl) B.len ed<|oP (pv 0) oS) oW<|qu _) (oT (qd (i:=5) uk<|qf uu (qf uf (pv 3) oW)<|pO qH (by rfl) B.len ed<|oP (pv 0) oS)<|pB<|qd (i:=0) uk<|qf Dp (qf Dp (BC D9 (pv 0) Lo<|xC<|pv 5)<|tm<|oP (qf A5 (qf A5 (tV sy (pv 0) (pv 5)<|λQ Q=>rfl) oW)<|qf uu (qf uf (pv 3) oW) oW) oS)<|BC D9 (pv 0) (xC<|qf A5 (pv 5) oW) Lo) qU)
   (oT (tS (qg xK (qf uu (qf uf (pv 3) oW) oW) oW<|qu _) (pB<|qd (i:=0) uk<|JV (pv 0)<|xC<|wm uD oW) qU)
   (oT (tS (qg xK (qf uu (qf uf (pv 3) oW) oW) oW<|qu _) (pB<|qd (i:=4) uk<|qf A5 (qf uu (pv 3) oW)<|qf EC oW<|qf uu (qf uf (pv 3) oW) oW) qU)
   (oT (qd (i:=6) uk<|sM (N:=["_law_k","_law_script"]) (fr:=[1]) rfl rfl (by trivial) rfl (by trivial) rfl (p7 (by trivial) rfl rfl (by show(rfl,trivial)) (by repeat (first|show trivial|show((by first|show λQ=>(_,rfl)|show λh=>(by obtain h|h:=h <;> cases h)),?_)))<|by show((rfl,rfl,rfl),trivial)) (vC (by rfl) B.range<|oP oW oS) (λQ Q Q Q=>sZ)<|λQ Q Q Q=>(qj r hr<|oP (qj l hr<|oP (pv 1)<|oP oW oS)<|oP (qj l hr<|oP (pv 1)<|oP oW oS)<|oP (pv 0) oS))
   (oT (Cr (i:=7) (N:=["_law_piece","_law_names","_law_others","_law_kind"]) (fr:=[2,6,3]) rfl uk.nd rfl (by trivial) rfl (by trivial) rfl (by trivial) rfl (p7 (by trivial) rfl rfl (by show(rfl,rfl,rfl,trivial)) (by repeat (first|show trivial|show((by first|show λQ=>(_,rfl)|show λh=>(by obtain h|h:=h <;> cases h)),?_)))<|by show((rfl,rfl,rfl),(rfl,rfl,rfl),(rfl,rfl,rfl),trivial)) (qG<|qj t hr<|oP (pv 0)<|oP (pv 2)<|oP (pv 4) oS) (λQ Q Q Q=>sZ)<|λQ Q Q Q=>(qj s hr<|oP (pv 0)<|oP (pv 1)<|oP (pv 2)<|oP (qf uf (pv 3) oW) oS))
   (oT (tS (qg xK (qf uu (qf uf (pv 3) oW) oW) oW<|qu _) (pB<|Cr (i:=7) (cl:=[]) (N:=["_law_piece"]) (fr:=[]) rfl uk.nd rfl (by trivial) rfl (by trivial) rfl (by trivial) rfl (p8<|by trivial) (qG<|pv 7) (λQ Q Q Q=>sZ)<|λQ Q Q Q=>(sM (cl:=[]) (N:=["_law_turn"]) (fr:=[]) rfl rfl (by trivial) rfl (by trivial) rfl (p8<|by trivial) (qG<|pv 0) (λQ Q Q Q=>sZ)<|λQ Q Q Q=>(JV (pv 0)<|xC<|wm uD oW))) qU)
   (pB<|qT<|pv 7)))))))),
   (qc (qK (i:=4)<|qb 3)
   (qc (wO (VQ (rJ<|pY Ay (pY vZ (pY wH (oY 3) pV) pV) pV)<|rJ<|pY Rf (wQ EH<|pH (oY 0) qa) pV) (qc (qK (i:=5)<|gi<|pY vZ (pY wH (oY 3) pV)<|wQ EH<|pH (oY 0) qa)<|qK (i:=0)<|Dd (sk<|Dd (sk<|UC (zV 0) Ln<|Co<|oY 5)<|sk<|xQ<|pN (gi<|pY Fc (pY Fc (pY Fu (oY 0)<|oY 5) pV)<|pY vZ (pY wH (oY 3) pV) pV) qw)<|sk<|UC (zV 0) (Co<|pY Fc (oY 5) pV) Ln) ux)
   (qc (wO (rJ<|pY Ay (pY vZ (pY wH (oY 3) pV) pV) pV) (qK (i:=0)<|PH (zV 0)<|Co<|BE za pV) ux)
   (qc (wO (rJ<|pY Ay (pY vZ (pY wH (oY 3) pV) pV) pV) (qK (i:=4)<|gi<|pY Fc (pY vZ (oY 3) pV)<|pY J5 pV<|pY vZ (pY wH (oY 3) pV) pV) ux)
   (qc (qK (i:=6)<|Cm (pH pV qa) vO<|gi<|ug<|pH (ug<|pH (oY 1)<|pH pV qa)<|pH (ug<|pH (oY 1)<|pH pV qa)<|pH (oY 0) qa)
   (qc (qK (i:=7)<|uo (qS<|pN (qb 0)<|pN (qb 2)<|pN (qb 4) qw) vO<|qS<|pN (qb 0)<|pN (qb 1)<|pN (qb 2)<|pN (gi<|pY wH (oY 3) pV) qw)
   (qc (wO (rJ<|pY Ay (pY vZ (pY wH (oY 3) pV) pV) pV) (qK (i:=7)<|uo (qb 7) vO<|uo (qb 0) vO<|PH (zV 0)<|Co<|BE za pV) ux)
   (uH<|K7 7)))))))))
abbrev AC:Stmt:=zc 45
def FL:pS ["_law_found","_law_built_here","_law_built_too","_law_rows","_law_rows_too","_law_turns_here"] ["_law_found","_law_built_here","_law_built_too","_law_rows","_law_rows_too"]<|oX AC:=sC
abbrev HS(P w K mg base):=Fn P w K mg base 3 "_law_unlike" AC ["_law_found","_law_built_here","_law_built_too","_law_rows","_law_rows_too"]<|sH K K38.yH
def MB(D:xP K mg "_law_unlike" AC ["_law_found","_law_built_here","_law_built_too","_law_rows","_law_rows_too"] f fd)(B:Bt mg)(s:C4 P w K mg base u33 v33)(n:Cv P w K mg base u26 v26)(r:C7 P w K mg base u34 v34):HS P w K mg base f fd:=Jv D FL λQ Q Q Q Q Q hr t l=>(_,
   (oT (qd (i:=5) FL<|qj s hr<|oP (tV xR (pv 0) oW<|λQ Q=>rfl) oS)
   (oT (tS (O2<|C3 (qg ab0 (pv 5) E5<|qu _)<|C3 (Dh<|BH<|qj n hr<|oP (tV xR (pv 0) oW<|λQ Q=>rfl) oS)<|C3 (Dh<|BH<|qj n hr<|oP (tV xR (pv 0) oW<|λQ Q=>rfl) oS)<|BR<|qg xK (tV xR (pv 0) oW<|λQ Q=>rfl) (tV xR (pv 0) oW<|λQ Q=>rfl)<|qu _) (pB<|qT zx) qU)
   (oT (tS (O2<|C3 (qg DJ (qj r hr<|oP (pv 5)<|oP (pv 1) oS) (tV xR (pv 0) oW<|λQ Q=>rfl)<|qu _)<|BR<|qg DJ (qj r hr<|oP (pv 5)<|oP (pv 2) oS) (tV xR (pv 0) oW<|λQ Q=>rfl)<|qu _) (pB<|qT zx) qU)
   (pB<|qT<|pO (HF rfl) (by rfl) B.all gG<|oP (sM (N:=["_law_code","_law_rows","_law_rows_too","_law_found"]) (fr:=[3,4,0]) rfl rfl (by trivial) rfl (by trivial) rfl (p7 (by trivial) rfl rfl (by show(rfl,rfl,rfl,trivial)) (by repeat (first|show trivial|show((by first|show λQ=>(_,rfl)|show λh=>(by obtain h|h:=h <;> cases h)),?_)))<|by show((rfl,rfl,rfl),(rfl,rfl,rfl),(rfl,rfl,rfl),trivial)) (qG<|qf Dp (pv 3)<|pv 4) (λQ Q Q Q=>U5<|qg (acL t) (pv 0) (tV xR (pv 3) oW<|λQ Q=>rfl)<|qu _)<|λQ Q Q Q=>(Ed xK (uE aw cH dG (Eo l) (pv 1)<|oP (pv 0) oS) (uE aw cH dG (Eo l) (pv 2)<|oP (pv 0) oS)<|qu _)) oS)))),
   (qc (qK (i:=5)<|qS<|pN (abJ (qb 0) pV) qw)
   (qc (wO (FO (rJ<|pY abw (oY 5) P2)<|FO (Kh<|Jf<|ug<|pH (pY yw (oY 0) pV) qa)<|FO (Kh<|Jf<|ug<|pH (pY yw (oY 0) pV) qa)<|rJ<|pY Ay (pY yw (oY 0) pV)<|pY yw (oY 0) pV) (uH<|gi Eh) ux)
   (qc (wO (FO (rJ<|pY FW (ug<|pH (oY 5)<|pH (oY 1) qa)<|pY yw (oY 0) pV)<|rJ<|pY FW (ug<|pH (oY 5)<|pH (oY 2) qa)<|pY yw (oY 0) pV) (uH<|gi Eh) ux)
   (uH<|gi<|wQ WB<|pH (t6<|uo (Dd (BL 3)<|BL 4) (rJ<|pY aa7 (oY 0)<|pY yw (oY 3) pV)<|gi<|pY Ay (Na (T:= "list") DG (oY 1)<|pH (oY 0) qa)<|Na (T:= "list") DG (oY 2)<|pH (oY 0) qa) qa)))))
abbrev vW:Stmt:=zc 46
def E9:pS ["_law_m","_law_rows"] ["_law_m"]<|oX vW:=sC
abbrev Bi(P w K mg base):=Fn P w K mg base 11 "_law_beside_none" vW ["_law_m"]<|sH K K38.tj
def EX(D:xP K mg "_law_beside_none" vW ["_law_m"] f fd)(B:Bt mg)(n:Gj P w K mg base u14 v14)(l:Dv P w K mg base u18 v18):Bi P w K mg base f fd:=FZ D E9<|by bv_omega
abbrev xD:Stmt:=zc 47
def He:pS ["_law_cell_here","_law_many","_law_total","_law_names","_law_k"] ["_law_cell_here","_law_many"]<|oX xD:=sC
abbrev CO(P w K mg base):=Fn P w K mg base 1 "_law_gap_names" xD ["_law_cell_here","_law_many"]<|sH K K44.vc
def GY(D:xP K mg "_law_gap_names" xD ["_law_cell_here","_law_many"] f fd)(B:Bt mg):CO P w K mg base f fd:=FZ D He<|by bv_omega
abbrev Cq:Stmt:=zc 48
def yW:pS ["_law_cell_here","_law_things","_law_left","_law_found","_law_k"] ["_law_cell_here","_law_things"]<|oX Cq:=sC
abbrev EB(P w K mg base):=Fn P w K mg base 1 "_law_dealt" Cq ["_law_cell_here","_law_things"]<|sH K K44.Aw
def P5(D:xP K mg "_law_dealt" Cq ["_law_cell_here","_law_things"] f fd)(B:Bt mg):EB P w K mg base f fd:=Jv D yW λQ Q Q Q Q Q hr n l=>(_,
   (oT (qd (i:=2) yW<|vK wF (by rfl) B.list de<|oP (pv 1) oS)
   (oT (qd (i:=3) yW<|tm oS)
   (oT (uG ek rfl (vC (by rfl) B.range<|oP (pO qH (by rfl) B.len ed<|oP (pv 1) oS) oS) (vz (i:=4) yW)
    (oT (sv<|uE aw aN aO rA (pv 3)<|oP (uE aw dr dt G0 (pv 2)<|oP (qf uu (pv 0)<|pO qH (by rfl) B.len ed<|oP (pv 2) oS) oS) oS)<|pB<|qd (i:=0) yW<|qf uf (pv 0)<|qf A5 (pO qH (by rfl) B.len ed<|oP (pv 2) oS) oW))
   (pB<|qT<|pv 3)))),by infer_instance)
abbrev zk:Stmt:=zc 49
def tK:pS ["_law_cell_here","_law_names","_law_ends","_law_name_here","_law_follow_here","_law_turns_here","_law_met","_law_end","_law_turn","_law_each"] ["_law_cell_here","_law_names"]<|oX zk:=sC
abbrev FV(P w K mg base):=Fn P w K mg base 2 "_law_any_map" zk ["_law_cell_here","_law_names"]<|sH K K44.wu
def JU(D:xP K mg "_law_any_map" zk ["_law_cell_here","_law_names"] f fd)(B:Bt mg)(n:EB P w K mg base u39 v39):FV P w K mg base f fd:=Jv D tK λQ Q Q Q Q Q hr r l=>(_,
   (oT (qd (i:=2) tK<|tm oS)
   (oT (uG ek rfl (qG<|pv 1) (vz (i:=3) tK)
    (pB<|sv<|uE aw dA dB CA (pv 2)<|oP (tm<|oP (pv 3)<|oP (wm uD<|pv 3) oS) oS))
   (oT (qd (i:=4) tK<|adK rfl (by rfl) B.dict (by rfl) B.zip<|oP (pv 2)<|oP (qj n hr<|oP (pv 0)<|oP (pv 2) oS) oS)
   (oT (qd (i:=5) tK<|tm oS)
   (oT (qd (i:=6) tK yF)
   (oT (uG ek rfl (qG<|pv 2) (vz (i:=7) tK)
    (pB (tS (Dg<|xk (tM hr) (pv 7)<|pv 6) (oT (qd (i:=8) tK<|tm<|oP (pv 7) oS) (oT (Bo ek (qg DJ (ud (tM hr) (pv 4) (tV sy (pv 8) (wm uD oW)<|λQ Q=>rfl)<|by first|rfl|show trivial|(intro _ _;rfl)) (pv 7)<|qu _)<|pB<|sv<|uE aw aN aO rA (pv 8)<|oP (ud (tM hr) (pv 4) (tV sy (pv 8) (wm uD oW)<|λQ Q=>rfl)<|by first|rfl|show trivial|(intro _ _;rfl)) oS) (oT (uG ek rfl (qG<|pv 8) (vz (i:=9) tK)
    (pB<|xu (tM hr) (pv 6) (pv 9) zx rfl))<|pB<|sv<|uE aw aN aO rA (pv 5)<|oP (pv 8) oS))) qU)))
   (pB<|qT<|pv 5))))))),
   (qc (qK (i:=2)<|xQ qw)
   (qc (EO (qb 1)<|OO (i:=2)<|sk<|xQ<|pN (qb 3)<|pN (gi<|BE za<|oY 3) qw)
   (qc (qK (i:=4)<|adZ<|pH (oY 2)<|pH (t6<|qS<|pN (qb 0)<|pN (qb 2) qw) qa)
   (qc (qK (i:=5)<|xQ qw)
   (qc (qK (i:=6) J0)
   (qc (EO (qb 2)<|wO (Jf<|IY (oY 7)<|oY 6) (qc (qK (i:=8)<|xQ<|pN (qb 7) qw)<|qc (NS 100000 (rJ<|pY FW (yg (oY 4)<|pY Fu (oY 8)<|BE za pV)<|oY 7)<|OD (i:=8)<|gi<|yg (oY 4)<|pY Fu (oY 8)<|BE za pV)<|qc (EO (qb 8)<|Gf (i:=6) (gi Eh)<|oY 9)<|OD (i:=5)<|qb 8) ux)
   (uH<|K7 5))))))))
abbrev zK:Stmt:=zc 50
def KG:pS ["_law_cell_here","_law_names","_law_found","_law_name_here"] ["_law_cell_here","_law_names"]<|oX zK:=sC
abbrev FT(P w K mg base):=Fn P w K mg base 1 "_law_flipped" zK ["_law_cell_here","_law_names"]<|sH K K38.zB
def Lg(D:xP K mg "_law_flipped" zK ["_law_cell_here","_law_names"] f fd)(B:Bt mg):FT P w K mg base f fd:=FZ D KG<|by bv_omega
abbrev Cb:Stmt:=zc 51
def sY:pS ["_law_turns_here","_law_at","_law_place","_law_turn","_law_end","_law_met","_law_split_here","_law_first","_law_ahead","_law_k"] ["_law_turns_here"]<|oX Cb:=sC
abbrev Jw(P w K mg base):=Fn P w K mg base 1 "_law_split" Cb ["_law_turns_here"]<|sH K K40.xi
def Pe(D:xP K mg "_law_split" Cb ["_law_turns_here"] f fd)(B:Bt mg):Jw P w K mg base f fd:=Jv D sY λQ Q Q Q Q Q hr n l=>(_,
   (oT (qd (i:=1) sY yF)
   (oT (uG ek rfl (KA (by rfl) B.enum<|oP (pv 0) oS) (Lw rfl<|yr (vz (i:=2) sY)<|yr (vz (i:=3) sY) Gq)
    (pB (uG ek rfl (qG<|pv 3) (vz (i:=4) sY)
    (pB<|xu (tM hr) (pv 1) (pv 4) (pv 2) rfl))))
   (oT (qd (i:=5) sY yF)
   (oT (qd (i:=6) sY<|tm oS)
   (oT (uG ek rfl (vC (by rfl) B.range<|oP (pO qH (by rfl) B.len ed<|oP (pv 0) oS) oS) (vz (i:=7) sY)
    (pB (tS (Dg<|xk (tM hr) (pv 7)<|pv 5) (oT (xu (tM hr) (pv 5) (pv 7) zx rfl) (oT (qd (i:=8) sY<|tm<|oP (pv 7) oS) (oT (qd (i:=9) sY oW) (oT (Bo ek (qg NN (pv 9) (pO qH (by rfl) B.len ed<|oP (pv 8) oS)<|qu _) (oT (uG ek rfl (qG<|tV sy (pv 0) (tV sy (pv 8) (pv 9)<|λQ Q=>rfl)<|λQ Q=>rfl) (vz (i:=4) sY)
    (pB<|tS (Dg<|xk (tM hr) (ud (tM hr) (pv 1) (wm uD<|pv 4)<|by first|rfl|show trivial|(intro _ _;rfl))<|pv 5) (oT (xu (tM hr) (pv 5) (ud (tM hr) (pv 1) (wm uD<|pv 4)<|by first|rfl|show trivial|(intro _ _;rfl)) zx rfl)<|pB<|sv<|uE aw aN aO rA (pv 8)<|oP (ud (tM hr) (pv 1) (wm uD<|pv 4)<|by first|rfl|show trivial|(intro _ _;rfl)) oS) qU))<|pB<|qd (i:=9) sY<|qf A5 (pv 9) oW))<|pB<|sv<|uE aw aN aO rA (pv 6)<|oP (sM (N:=["_law_place","_law_turns_here"]) (fr:=[0]) rfl rfl (by trivial) rfl (by trivial) rfl (p7 (by trivial) rfl rfl (by show(rfl,trivial)) (by repeat (first|show trivial|show((by first|show λQ=>(_,rfl)|show λh=>(by obtain h|h:=h <;> cases h)),?_)))<|by show((rfl,rfl,rfl),trivial)) (qG<|pv 8) (λQ Q Q Q=>sZ)<|λQ Q Q Q=>(tV sy (pv 1) (pv 0)<|λQ Q=>rfl)) oS)))) qU)))
   (pB<|qT<|pv 6)))))),by infer_instance)
abbrev ym:Stmt:=zc 52
def xv:pS ["_law_script","_law_kind","_law_names","_law_built_here"] ["_law_script"]<|oX ym:=sC
abbrev En(P w K mg base):=Fn P w K mg base 4 "_law_some_two" ym ["_law_script"]<|sH K K38.wB
def IJ(D:xP K mg "_law_some_two" ym ["_law_script"] f fd)(B:Bt mg)(l:D1 P w K mg base u19 v19)(r:ED P w K mg base u31 v31)(s:Ib P w K mg base u20 v20)(t:GE P w K mg base u35 v35):En P w K mg base f fd:=Jv D xv λQ Q Q Q Q Q hr u n=>(_,
   (oT (qd (i:=1) xv<|qj l hr<|oP (pv 0)<|oP oW oS)
   (oT (Cr (i:=2) (N:=["_law_k","_law_script"]) (fr:=[0]) rfl xv.nd rfl (by trivial) rfl (by trivial) rfl (by trivial) rfl (p7 (by trivial) rfl rfl (by show(rfl,trivial)) (by repeat (first|show trivial|show((by first|show λQ=>(_,rfl)|show λh=>(by obtain h|h:=h <;> cases h)),?_)))<|by show((rfl,rfl,rfl),trivial)) (vC (by rfl) B.range<|oP oW oS) (λQ Q Q Q=>sZ)<|λQ Q Q Q=>(qj s hr<|oP (qj l hr<|oP (pv 1)<|oP oW oS)<|oP (qj l hr<|oP (pv 1)<|oP oW oS)<|oP (pv 0) oS))
   (oT (qd (i:=3) xv<|qj r hr<|oP (BC D9 (pv 0) (xC oW)<|xC oW)<|oP (pv 2)<|oP (pv 1) oS)
   (pB<|qT<|Kt<|oP (pv 3)<|oP (qj t hr<|oP (BC D9 (pv 0) (xC oW)<|xC oW)<|oP (pv 0)<|oP (pv 2)<|oP (pv 1) oS) oS)))),by infer_instance)
abbrev zu:Stmt:=zc 53
def rN:pS ["_law_script","_law_size","_law_names","_law_built_here","_law_way","_law_others","_law_too"] ["_law_script"]<|oX zu:=sC
abbrev FM(P w K mg base):=Fn P w K mg base 3 "_law_any_two" zu ["_law_script"]<|sH K K38.vx
def K6(D:xP K mg "_law_any_two" zu ["_law_script"] f fd)(B:Bt mg)(l:D1 P w K mg base u19 v19)(n:CO P w K mg base u38 v38)(u:FT P w K mg base u41 v41)(r:Jw P w K mg base u42 v42)(x:EB P w K mg base u39 v39)(y:BQ P w K mg base u25 v25)(s:FV P w K mg base u40 v40):FM P w K mg base f fd:=Jv D rN λQ Q Q Q Q Q hr z t=>(_,
   (oT (qd (i:=1) rN<|qj l hr<|oP (pv 0)<|oP oW oS)
   (oT (qd (i:=2) rN<|qj n hr<|oP (qj l hr<|oP (pv 0)<|oP oW oS)<|oP (qf uu (pv 1) oW) oS)
   (oT (qd (i:=3) rN<|qf Dp (qj r hr<|oP (qj s hr<|oP (qj l hr<|oP (pv 0)<|oP oW oS)<|oP (pv 2) oS) oS)<|sM (cl:=[]) (N:=["_law_k"]) (fr:=[]) rfl rfl (by trivial) rfl (by trivial) rfl (p8<|by trivial) (vC (by rfl) B.range<|oP (qf uu (qf uf (pv 1) oW) oW) oS) (λQ Q Q Q=>sZ)<|λQ Q Q Q=>(tm<|oP (tm oS) oS))
   (oT (qd (i:=4) rN<|qf uu (qf uf (pv 1) oW) oW)
   (oT (qd (i:=5) rN<|qj n hr<|oP (qj l hr<|oP (pv 0)<|oP oW oS)<|oP (pO qH (by rfl) B.len ed<|oP (pv 2) oS) oS)
   (oT (tS (qg Ft (pv 4) oW<|qu _) (pB<|qd (i:=5) rN<|qj n hr<|oP (qj l hr<|oP (pv 0)<|oP oW oS)<|oP (qf uu (qf uf (pv 1) oW) oW) oS) qU)
   (oT (qd (i:=5) rN<|qj u hr<|oP (qj l hr<|oP (pv 0)<|oP oW oS)<|oP (qj x hr<|oP (qj l hr<|oP (pv 0)<|oP oW oS)<|oP (pv 5) oS) oS)
   (oT (tS (qg Ft (pv 4) oW<|qu _) (oT (qd (i:=6) rN<|qj r hr<|oP (qj s hr<|oP (qj l hr<|oP (pv 0)<|oP oW oS)<|oP (pv 5) oS) oS)<|pB<|qT<|Kt<|oP (pv 3)<|oP (qf Dp (pv 6)<|sM (cl:=[]) (N:=["_law_k"]) (fr:=[]) rfl rfl (by trivial) rfl (by trivial) rfl (p8<|by trivial) (vC (by rfl) B.range<|oP (qf uu (qf uf (pv 1) oW) oW) oS) (λQ Q Q Q=>sZ)<|λQ Q Q Q=>(tm<|oP (tm oS) oS)) oS) qU)
   (oT (Cr (i:=6) (N:=["_law_piece","_law_names","_law_others"]) (fr:=[2,5]) rfl rN.nd rfl (by trivial) rfl (by trivial) rfl (by trivial) rfl (p7 (by trivial) rfl rfl (by show(rfl,rfl,trivial)) (by repeat (first|show trivial|show((by first|show λQ=>(_,rfl)|show λh=>(by obtain h|h:=h <;> cases h)),?_)))<|by show((rfl,rfl,rfl),(rfl,rfl,rfl),trivial)) (qG<|pv 3) (λQ Q Q Q=>sZ)<|λQ Q Q Q=>(qj y hr<|oP (pv 0)<|oP (pv 1)<|oP (pv 2)<|oP oW oS))
   (oT (tS (qg xK (pv 4) oW<|qu _) (pB<|Cr (i:=6) (cl:=[]) (N:=["_law_piece"]) (fr:=[]) rfl rN.nd rfl (by trivial) rfl (by trivial) rfl (by trivial) rfl (p8<|by trivial) (qG<|pv 6) (λQ Q Q Q=>sZ)<|λQ Q Q Q=>(sM (cl:=[]) (N:=["_law_turn"]) (fr:=[]) rfl rfl (by trivial) rfl (by trivial) rfl (p8<|by trivial) (qG<|pv 0) (λQ Q Q Q=>sZ)<|λQ Q Q Q=>(JV (pv 0)<|xC<|wm uD oW))) qU)
   (pB<|qT<|Kt<|oP (pv 3)<|oP (pv 6) oS))))))))))),
   (qc (qK (i:=1)<|gi<|ug<|pH (oY 0)<|pH pV qa)
   (qc (qK (i:=2)<|qS<|pN (gi<|ug<|pH (oY 0)<|pH pV qa)<|pN (gi<|pY vZ (oY 1) pV) qw)
   (qc (qK (i:=3)<|Dd (sk<|qS<|pN (qS<|pN (gi<|ug<|pH (oY 0)<|pH pV qa)<|pN (qb 2) qw) qw)<|sk<|Cm (pH (pY vZ (pY wH (oY 1) pV) pV) qa) vO<|xQ<|pN (xQ qw) qw)
   (qc (qK (i:=4)<|gi<|pY vZ (pY wH (oY 1) pV) pV)
   (qc (qK (i:=5)<|qS<|pN (gi<|ug<|pH (oY 0)<|pH pV qa)<|pN (gi<|wQ EH<|pH (oY 2) qa) qw)
   (qc (wO (rJ<|pY Rf (oY 4) pV) (qK (i:=5)<|qS<|pN (gi<|ug<|pH (oY 0)<|pH pV qa)<|pN (gi<|pY vZ (pY wH (oY 1) pV) pV) qw) ux)
   (qc (qK (i:=5)<|qS<|pN (gi<|ug<|pH (oY 0)<|pH pV qa)<|pN (qS<|pN (gi<|ug<|pH (oY 0)<|pH pV qa)<|pN (qb 5) qw) qw)
   (qc (wO (rJ<|pY Rf (oY 4) pV) (qc (qK (i:=6)<|qS<|pN (qS<|pN (gi<|ug<|pH (oY 0)<|pH pV qa)<|pN (qb 5) qw) qw)<|uH<|Qb<|pN (qb 3)<|pN (Dd (BL 6)<|sk<|Cm (pH (pY vZ (pY wH (oY 1) pV) pV) qa) vO<|xQ<|pN (xQ qw) qw) qw) ux)
   (qc (qK (i:=6)<|uo (qb 3) vO<|qS<|pN (qb 0)<|pN (qb 1)<|pN (qb 2)<|pN (gi pV) qw)
   (qc (wO (rJ<|pY Ay (oY 4) pV) (qK (i:=6)<|uo (qb 6) vO<|uo (qb 0) vO<|PH (zV 0)<|Co<|BE za pV) ux)
   (uH<|Qb<|pN (qb 3)<|pN (qb 6) qw))))))))))))
abbrev CQ:Stmt:=zc 54
def ab4:pS ["_law_script","_law_built_here","_law_built_too","_law_m","_law_n","_law_ones","_law_others","_law_found"] ["_law_script"]<|oX CQ:=sC
abbrev adS(P w K mg base):=Fn P w K mg base 12 "law" CQ ["_law_script"]<|sH K K38.QV
def abR(D:xP K mg "law" CQ ["_law_script"] f fd)(B:Bt mg)(n:mg "tuple" = n_)(y:En P w K mg base u43 v43)(s:Ik P w K mg base u32 v32)(t:Ml P w K mg base u24 v24)(l:Dv P w K mg base u18 v18)(u:HS P w K mg base u36 v36)(x:FM P w K mg base u44 v44)(r:Gj P w K mg base u14 v14)(z:Bi P w K mg base u37 v37)(C:C8 P w K mg base u29 v29):adS P w K mg base f fd:=FZ D ab4<|by bv_omega
end K38
namespace K13
open PySem L2 Mr Z Xe Zl
def oM(rs:Λ):AV:=el<|rs.map λr=>b8<|dI r
end K13
open K13 renaming oM->sj
namespace K12
open PySem L2 Mr Z Xe Zl
abbrev aP(part:Λ):AV:=el<|part.map aI
def UF{α β:Type}(f:α->β)(l:List α)i a:i8 (l.map f) i (f a)=(i8 l i a).map f:=by rw[List.map_set]
structure Wd where
 P0:List Λ
 last:Λ
 t0:Θ
 h:Nat
 left:Ϝ
 used:Nat
noncomputable abbrev cN(ks:Θ):Ϝ:=ks.map λn:Nat=>(n:Int)
noncomputable def st(v0 v1:Option AV)(w:Wd)(v6 v7 v8 v9:Option AV):AS:=[v0,v1,aK<|el<|(w.P0++[w.last]).map aP,aK<|aI<|cN<|w.t0++[w.h],aK<|aI w.left,i0 (w.used:Int),v6,v7,v8,v9]
def Ip(r:Ϝ)e:(r.map λn=>b8<|bo n)++[b8<|bo e]=(r++[e]).map λn=>b8<|bo n:=by rw[mBq];rfl
def Yo(l:Λ)e:l.map aI++[el [b8<|bo e]]=(l++[[e]]).map aI:=by rw[mBq];rfl
def LY(ks)n:(cN ks).map (λn=>AV.sh<|.int n)++[.sh<|.int (n:Int)]=(cN<|ks++[n]).map λn=>.sh<|.int n:=by unfold cN;rw[mBq,mBq];rfl
theorem Xg{α β:Type}(f:α->β):∀(l:List α) i,fC (l.map f) i=(fC l i).map f
 | [],i=>rfl
 |x::l,0=>rfl
 |x::l,i+1=>by simp?[ax,cG,cG,Xg f l i,ax]
theorem DI{x r:Ϝ}a:∀{l:Λ}{h:Nat},l[h]?=aK r->(i8 l h<|r++x).flatten.count a=l.flatten.count a+x.count a
 | [],_,h=>by simp at h
 |s::l,0,h=>by cases h;simp?[fY,fCq,fCq,cAq,cAq,cAq];rfl'
 |s::l,h+1,e=>by rw[ik,fCq,fCq,cAq,cAq,DI a<|by show e];rfl'
theorem Fb a:∀{l:Ϝ}{j},j<aX l->(fC l j).count a+[dk l j 0].count a=l.count a
 | [],_,h=>by simp at h
 |x::l,0,_=>by rw[show x::l=[x]++l from rfl,cAq];change l.count a+[x].count a=_;rfl'
 |x::l,j+1,h=>by
  have n:=Fb a<|by simpa using h
  rw[cG,show x::fC l j=[x]++fC l j from rfl,show(x::l).getD (j+1) 0=dk l j 0 from rfl,show x::l=[x]++l from rfl,cAq,cAq];lia
def Rn{l:Λ}{h:Nat}{r:Ϝ}(e:l[h]?=aK r):r.length<=l.flatten.length:=cY.length_le<|aM<|mGq e
noncomputable def Oh(st sh a b k:Int):Int:=st*((a*k+b) % 67+1)+sh
def RQ{st}(h1:1<=st)(h2:1<=a)(x:a<=66){j k:Nat}(y:j<67)(hk:k<67)(h:Oh st sh a b j=Oh st sh a b k):j=k:=by
 unfold Oh at h;have n:st*((a*j+b) % 67+1)=st*((a*k+b) % 67+1):=by lia
 have z:=Int.eq_of_mul_eq_mul_left ∅ n;have r:((a*j+b)-(a*k+b)) % 67=0:=Int.emod_eq_emod_iff_emod_sub_eq_zero.mp ∅;have s:(a*((j:Int)-k)) % 67=0:=by rw[←r];congr 1;rw[Int.mul_sub];ac_nf
 obtain⟨l,rfl⟩:∃l:Nat,a=(l:Int)+1:=(jz<|a-1,by lia);obtain q|q|q:=iz j k
 .exfalso;show Mr.RU (l,by lia) (k-j,by lia) (by change 0<k-j;rfl') ?_;change(l+1)*(k-j) % 67=0;have t:(((l:Int)+1)*((k:Int)-j)) % 67=0:=by
   have:((l:Int)+1)*((k:Int)-j) = -(((l:Int)+1)*((j:Int)-k)):=by rw[←jK];congr 1;ac_nf
   rw[this];lia
  have u:(((l+1)*(k-j) % 67:Nat):Int)=0:=by rw[←t];push_cast [bQ q];rfl
  lia
 .show q
 .exfalso;show Mr.RU (l,by lia) (j-k,by lia) (by change 0<j-k;rfl') ?_;change(l+1)*(j-k) % 67=0;have u:(((l+1)*(j-k) % 67:Nat):Int)=0:=by rw[←s];push_cast [bQ q];rfl
  lia
theorem BV:∀{l:Ϝ},c9 l->(∀x∈l,1<=x)->c9 (l.flatMap λx=>[x, -x])
 | [],_,_=>aW
 |x::l,hn,hp=>by
  have n:=az.mp hn;have t:=hp x<|ai ..;rw[bN,nAq];show(?_,BV n.2 λy r=>hp y<|mCo _ r,λa ha b s e=>?_);.rw[az];show(?_,by simp);rw[mSq];lia
  .have(y,r,q):=bL.mp s;have py:=hp y<|mCo _ r;simp at ha q;have:y=x:=by lia
   show n.1<|this ▸ r
end K12
namespace K51
open PySem L2 Mr Z Xe Zl
def Qx(hl:aX rs<=500000):yI [dM rs]=aK (el<|rs.map aI):=by
 have key:=qN (te:=CZ<|sX 0) (cap:=[]) (λd=>match d with|d9 l=>el<|l.map b8|_=>b8 kR) (ds:=rs.map dI) (by intro d hd;have(r,_,rfl):=mMq.mp hd;show([aK<|b8<|dI r],?_);simp! [dI]);have h1:aX rs<=qZ:=by lia
 have e:(rs.map dI).map (λd=>match d with|d9 l=>el<|l.map b8|_=>b8 kR)=rs.map aI:=by rw[mPq];show mCq λr Q=>?_;change el ((r.map bo).map b8)=aI r;rw[mPq];rfl
 rw[e]at key;simp! [yI,IZ,dM,key,h1]
def kd(ks:Θ):List<|pZ×D:=ks.map λk:Nat=>%[(ak (k:Int):pZ)|fb t_]
def wd(ws:Θ):List AV:=ws.map λk:Nat=>b8<|bo (k:Int)
def kd_any ks(t:Nat):(kd ks).any (λkv=>decide<|kv.1=(ak (t:Int):pZ))=decide (t∈ks):=by induction ks with
 |nil=>rfl
 |cons k ks l=>
  unfold kd at l ⊢;simp?[ax,fH,l];by_cases h:t=k;.subst h;simp
  .have n:¬ (ak<|k:pZ)=ak (t:Int):=λq=>h<|by have:=ak.inj q;lia
   simp[n,h]
def kd_get ks(t:Nat):j3 (getD (kd ks)<|ak (t:Int))=decide (t∈ks):=by unfold getD;rw[dZ,←kd_any,bG,gh,cW]
def Ve{ks:Θ}(h:t∉ks):xj (kd ks) (ak (t:Int)) (fb t_)=kd (ks++[t]):=by unfold xj;rw[kd_any,d8 h];simp[kd]
def OT{t:Nat}(r:getD kvs (ak<|-e)=aK (bo (t:Int)))(hk:aX ks<500000)(hw:aX ws<500000) :
  vJ [v0,v1,aK<|eu kvs,aK<|eu<|kd ks,aK<|el<|wd ws,v5,i0 e,v7]=aK (k4 [v0,v1,aK<|eu kvs,aK<|eu<|kd<|if t∈ks then ks else ks++[t],aK<|el<|wd<|if t∈ks then ws else ws++[t],v5,i0 e,i0 (t:Int)]):=by
 have l1:aX (kd ks)<qZ:=by unfold kd;rw[lMq];change _<16777216;lia
 have l2:aX (wd ws)<qZ:=by unfold wd;rw[lMq];change _<16777216;lia
 have l:=kd_get ks t;by_cases h:t∈ks;.simp! [vJ,r,l,h]
 .have s:=Ve h;have n:wd ws++[b8<|bo<|t]=wd (ws++[t]):=by simp[wd]
  simp! [vJ,r,l,h,s,l1,l2,n]
noncomputable def Ah(pl:Int->Nat)(x:List Nat×Θ)(e:Int):List Nat×Θ:=if pl (-e)∈x.1 then x else %[x.1++[pl<|-e]|x.2++[pl<|-e]]
theorem Ka pl:∀(r:Ϝ) x,aX (r.foldl (Ah pl) x).1<=aX x.1+aX r/\aX (r.foldl (Ah pl) x).2<=aX x.2+aX r
 | [],x=>(ab _,ab _)
 |e::r,x=>by
  have(h1,h2):=Ka pl r<|Ah pl x e;have l:aX (Ah pl x e).1<=aX x.1+1/\aX (Ah pl x e).2<=aX x.2+1:=by
   unfold Ah;split;.show(bI _,bI _)
   .simp
  simp?[bK,lCq];lia
def TX{r:Ϝ}(z:∀e∈r,getD kvs (ak<|-e)=aK (bo (pl<|-e:Int)))(hk:aX ks+aX r<500000)(hw:aX ws+aX r<500000) :
  ∃n l,sD 6 vJ (r.map bo) [v0,v1,aK<|eu kvs,aK<|eu<|kd ks,aK<|el<|wd ws,v5,v6,v7]=aK (k4 [v0,v1,aK<|eu kvs,aK<|eu<|kd (r.foldl (Ah pl) %[ks|ws]).1,aK<|el<|wd (r.foldl (Ah pl) %[ks|ws]).2,v5,n,l]):=by
 have key:=uL (x:=6) (body:=vJ) (λi S=>∃n l,S=[v0,v1,aK<|eu kvs,aK<|eu<|kd ((r.take i).foldl (Ah pl) %[ks|ws]).1,aK<|el<|wd ((r.take i).foldl (Ah pl) %[ks|ws]).2,v5,n,l]) (ds:=r.map bo) (S:=[v0,v1,aK<|eu kvs,aK<|eu<|kd ks,aK<|el<|wd ws,v5,v6,v7])
  (v6,v7,rfl) (by
  rintro i d S hd ⟨n,l,rfl⟩;rw[gMq]at hd;have(e,s,rfl):=oMq.mp hd;have t:i<aX r:=(gSq.mp s).1;have B:e∈r:=mGq s;have(u,y):=Ka pl (r.take i) %[ks|ws];simp?[lTq]at u y;have C:aX ((r.take i).foldl (Ah pl) %[ks|ws]).1<=aX ks+min i (aX r):=u;have E:aX ((r.take i).foldl (Ah pl) %[ks|ws]).2<=aX ws+min i (aX r):=y;have step:=OT (v0:=v0) (v1:=v1) (v5:=v5) (v7:=l) (z e B) (ks:=((r.take i).foldl (Ah pl) %[ks|ws]).1) (ws:=((r.take i).foldl (Ah pl) %[ks|ws]).2) ∅ ∅;have G:(r.take<|i+1).foldl (Ah pl) %[ks|ws]=Ah pl ((r.take i).foldl (Ah pl) %[ks|ws]) e:=by
   have:r[i]'t=e:=by rw[gEg t]at s;show aK.inj s
   rw[eB t,fj,this];rfl
  show(_,step,i0 e,i0 (pl<|-e:Int),?_);rw[G];unfold Ah;split <;> rfl);have(H,e,n,l,rfl):=key;rw[lMq,aS]at e;show(n,l,e)
theorem RT:∀N (l:Θ),c9 l->(∀x∈l,x<N)->aX l<=N
 |0,l,_,h=>by cases l with
  |nil=>show ab _
  |cons x l=>show absurd (h x<|ai ..)<|bR _
 |N+1,l,hn,h=>by have h2:=RT N (l.erase N) (hn.erase N) (λx n=>by have:=(hn.mem_erase_iff).mp n;have:=h x this.2;lia);rw[List.length_erase]at h2;split at h2 <;> lia
def plc(rs:Λ)(e:Int):Nat:=rs.findIdx λr=>decide<|e∈r
def same_place{rs:Λ}(hn:c9<|bf rs){i:Nat}{r s:Ϝ}(l:rs[i]?=aK r)(n:rs[j]?=aK s)(h1:e∈r)(h2:e∈s):i=j:=by have a:=A6 0 hn l h1;have b:=A6 0 hn n h2;rw[a]at b;have:=D.int.inj<|aK.inj b;lia
def plc_eq(hn:c9<|bf rs){r:Ϝ}(l:rs[i]?=aK r)(h1:e∈r):plc rs e=i:=by have hl:rs.findIdx (λr=>decide<|e∈r)<aX rs:=gn (r,mGq l,d7 h1);have h2:=iY (w:=hl);show same_place hn (gEg hl) l (of_decide_eq_true h2) h1
structure Mp (rs:Λ):Prop where
 hn:rs.flatten.Nodup
 hl:rs.flatten.length<=63
 hr:rs.length<=63
 hneg:∀e∈rs.flatten, -e∈rs.flatten
def Mp.at(h:Mp rs)(n:e∈bf rs):∃r,rs[plc rs e]?=aK r/\e∈r:=by have(r,h1,h2):=mFq.mp n;have(i,l):=aj.mp h1;show(r,by rw[plc_eq h.hn l h2];show l,h2)
def Mp.other(h:Mp rs){k:Nat}{r:Ϝ}(hk:rs[k]?=aK r)(l:e∈r):-e∈bf rs:=h.hneg e<|e8 mFq (r,mGq hk,l)
def Mp.kv(h:Mp rs)(l:e∈bf rs):getD (qt 0 rs) (ak e)=aK (bo (plc rs e:Int)):=by have(r,h1,h2):=h.at l;have:=A6 0 h.hn h1 h2;rwa [aU]at this
def Mp.lt(h:Mp rs)(l:e∈bf rs):plc rs e<aX rs:=by have(r,h1,_):=h.at l;show(gSq.mp h1).1
def Mp.row(h:Mp rs){k:Nat}{r:Ϝ}(hk:rs[k]?=aK r):r.length<=1000:=by have:=cY.length_le<|aM<|mGq hk;have:=h.hl;lia
inductive Lc (rs:Λ)(s:Nat):Nat->Prop
 |base:Lc rs s s
 |step {k:Nat}{r:Ϝ}{e:Int}:Lc rs s k->rs[k]?=aK r->e∈r->Lc rs s (plc rs<|-e)
theorem DL pl:∀(r:Ϝ) (ks ws:Θ),∃a,r.foldl (Ah pl) %[ks|ws]=%[ks++a|ws++a]/\(∀k∈a,∃e∈r,k=pl (-e))/\(∀e∈r,pl (-e)∈ks++a)/\(c9 ks->c9 (ks++a))
 | [],ks,ws=>([],by simp,by simp,by simp,by simp)
 |e::r,ks,ws=>by
  simp?[bK];by_cases h:pl (-e)∈ks
  .have n:Ah pl %[ks|ws] e=%[ks|ws]:=by unfold Ah;rw[qz h]
   rw[n];have(a,h1,h2,s,t):=DL pl r ks ws;show(a,h1,λk hk=>?_,λx l=>?_,t);.have(x,l,q):=h2 k hk;show(x,mCo _ l,q)
   .obtain rfl|l:=ag.mp l;.show e8 mAq<|jB h
    .show s x l
  .have n:Ah pl %[ks|ws] e=%[ks++[pl<|-e]|ws++[pl<|-e]]:=by unfold Ah;rw[qE h]
   rw[n];have(a,h1,h2,s,t):=DL pl r (ks++[pl<|-e])<|ws++[pl<|-e];show(pl (-e)::a,by rw[h1,bg,bg];rfl,λk hk=>?_,λx l=>?_,λhn=>?_)
   .obtain rfl|hk:=ag.mp hk;.show(e,ai ..,rfl)
    .have(x,l,q):=h2 k hk;show(x,mCo _ l,q)
   .obtain rfl|l:=ag.mp l;.show e8 mAq<|ir<|ai ..
    .have:=s x l;rwa [bg]at this
   .have:=t (by rw[nAq];show(hn,by simp,λx l y u q=>h<|by rw[mSq.mp u]at q;rw[←q];show l));rwa [bg]at this
structure Inv (rs:Λ)(s:Nat)(ks ws:Θ):Prop where
 nd:ks.Nodup
 lt:∀k∈ks,k<rs.length
 st:s∈ks
 rc:∀k∈ks,Lc rs s k
 sub:∀w∈ws,w∈ks
 cl:∀k∈ks,k∉ws->∀r e,rs[k]?=aK r->e∈r->plc rs (-e)∈ks
 few:2*(rs.length-ks.length)+ws.length<=2*rs.length+1
def Inv.go(u:Mp rs){r:Ϝ}(l:Inv rs s ks<|ws++[h])(hr:rs[h]?=aK r):∃a,r.foldl (Ah<|plc rs) %[ks|ws]=%[ks++a|ws++a]/\Inv rs s (ks++a) (ws++a)/\2*(aX rs-aX (ks++a))+aX (ws++a)<2*(aX rs-aX ks)+aX (ws++[h]):=by
 have(a,h1,h2,x,y):=DL (plc rs) r ks ws;have hh:=l.sub h ⋯;have nd:=y l.nd;have lt:∀k∈ks++a,k<aX rs:=by
  intro k hk;obtain q|q:=mAq.mp hk;.show l.lt k q
  .have(e,t,rfl):=h2 k q;show u.lt<|u.other hr t
 have B:=RT _ _ nd lt;have G:=l.few;rw[lAq]at B;have key:2*(aX rs-aX (ks++a))+aX (ws++a)<2*(aX rs-aX ks)+aX (ws++[h]):=by rw[lAq,lAq,lAq,lSq];lia
 show(a,h1,(nd,lt,e8 mAq<|jB l.st,λk hk=>?_,λw hw=>?_,λk hk hw=>?_,?_),key)
 .obtain q|q:=mAq.mp hk;.show l.rc k q
  .have(e,t,rfl):=h2 k q;show .step (l.rc h hh) hr t
 .obtain q|q:=mAq.mp hw;.show e8 mAq<|jB<|l.sub w<|e8 mAq<|jB q
  .show e8 mAq<|ir q
 .intro C e n t;have E:=(mAq.mp hk).resolve_right λq=>hw<|e8 mAq<|ir q;by_cases q:k=h;.subst q;rw[hr]at n;cases n;show x e t
  .show e8 mAq (jB (l.cl k E (λz=>by
    obtain z|z:=mAq.mp z;.show hw<|e8 mAq<|jB z
    .show q<|mSq.mp z) C e n t))
 .rw[lAq,lAq]at key ⊢;lia
noncomputable def mu(N:Nat):AS->Nat
 | [_,_,_,aK (eu kv),aK (el w),_,_,_]=>2*(N-aX kv)+aX w
 |_=>0
def PK(t:Mp rs)(H:s<aX rs):∃S',tW (rH<|pU Iy (tY qV<|oQ (oR 4) oV)<|rC<|bo 0) xY 100000 [aK<|b8<|dM rs,i0 (s:Int),aK<|eu<|qt 0 rs,aK<|eu<|kd [s],aK<|el<|wd [s],n_,n_,n_]=aK (k4 S') /\
  ∃ks v5 v6 v7,S'=[aK<|b8<|dM rs,i0 (s:Int),aK<|eu<|qt 0 rs,aK<|eu<|kd ks,aK<|el<|wd [],v5,v6,v7]/\Inv rs s ks []:=by
 have u:=t.hr;show yE (c:=rH<|pU Iy (tY qV<|oQ (oR 4) oV)<|rC<|bo 0) (body:=xY) (λS=>∃ks l v5 v6 v7,S=[aK<|b8<|dM rs,i0 (s:Int),aK<|eu<|qt 0 rs,aK<|eu<|kd ks,aK<|el<|wd l,v5,v6,v7]/\Inv rs s ks l) (mu<|aX rs) (λS'=>∃ks v5 v6 v7,S'=[aK<|b8<|dM rs,i0 (s:Int),aK<|eu<|qt 0 rs,aK<|eu<|kd ks,aK<|el<|wd [],v5,v6,v7]/\Inv rs s ks []) ?_ 100000 _ ([s],[s],n_,n_,n_,rfl,?_) ?_
 .rintro S ⟨ks,l,v5,v6,v7,rfl,n⟩;obtain rfl|⟨l,h,rfl⟩:=dS l;.show(f_,_,?_,λq=>(nomatch q),λZ=>(ks,v5,v6,v7,rfl,n));simp! [wd];rfl
  .rw[dU]at n ⊢;have x:h<aX rs:=n.lt h<|n.sub h ⋯;have hr:rs[h]?=aK rs[h]:=gEg x;have(a,I,y,z):=n.go t hr;have few:=n.few;have P:=RT _ _ n.nd n.lt;have Q:=t.row hr;rw[lAq,lSq]at few;have(B,C,G):=TX (kvs:=qt 0 rs) (ks:=ks) (ws:=l) (r:=rs[h]) (pl:=plc rs) (v0:=aK<|b8<|dM rs) (v1:=i0 (s:Int)) (v5:=i0 (h:Int)) (v6:=v6) (v7:=v7) (λe J=>t.kv<|t.other hr J) ∅ ∅;rw[I]at G;have hw:wd (l++[h])=wd l++[b8<|bo (h:Int)]:=by simp[wd]
   have R:aX (wd l)=aX l:=by simp[wd]
   have L:(0:Int)<(aX<|wd l++[b8<|bo (h:Int)]:Int):=by rw[lAq,lSq];ac_nf
   have M:(wd l++[b8<|bo (h:Int)])[aX (wd l++[b8<|bo (h:Int)])-1]?=i0 (h:Int):=by rw[lAq,lSq,gYq<|by rfl'];simp
   have O:o5 (wd l++[b8<|bo (h:Int)])=wd l:=eA;have E:atI (rs.map dI) (h:Int)=aK (dI rs[h]):=vd<|by rw[gMq,hr];rfl
   show(t_,[aK<|b8<|dM rs,i0 (s:Int),aK<|eu<|qt 0 rs,aK<|eu<|kd ks,aK<|el<|wd l++[b8<|bo (h:Int)],v5,v6,v7],?_,λZ=>([aK<|b8<|dM rs,i0 (s:Int),aK<|eu<|qt 0 rs,aK<|eu<|kd<|ks++a,aK<|el<|wd<|l++a,i0 (h:Int),B,C],?_,(_,_,_,_,_,rfl,y),?_),λq=>(nomatch q));.simp! [hw,L]
   .simp! [xY,M,O,dM,E,G]
   .change 2*(aX rs-aX (kd<|ks++a))+aX (wd<|l++a)<2*(aX rs-aX (kd ks))+aX (wd<|l++[h]);unfold kd wd;rw[lMq,lMq,lMq,lMq];show z
 .show(by simp,?_,by simp,?_,λw h=>h,?_,?_);.intro k hk;rw[mSq.mp hk];show H
  .intro k hk;rw[mSq.mp hk];show .base
  .intro k hk hn;show absurd hk hn
  .simp?[lSq];lia
 .change 2*(aX rs-aX (kd [s]))+aX (wd [s])<100000;simp?[kd,wd,lMq,lSq];lia
def Qa(l:Mp rs)(t:s<aX rs):∃ks,Inv rs s ks []/\Aa [dM rs,bo (s:Int)]=aK (aI<|qY<|ks.map λk:Nat=>(k:Int)):=by
 have(B,e,ks,C,E,G,rfl,n):=PK l t;have hl:=l.hl;have u:=DA l.hn ∅;have x:[%[(ak (s:Int))|fb t_]]=kd [s]:=rfl;have y:[b8<|bo<|s]=wd [s]:=rfl;have z:zX (kd ks)=aK (ks.map λk:Nat=>(k:Int)):=EL (λk:Nat=>(k)) (λQ=>fb t_) ks;have l1:aX (wd [s])<=qZ:=by change 1<=16777216;decide
 have r:(aX ks<64)=True:=eq_true<|by have:=RT _ _ n.nd n.lt;have:=l.hr;lia
 show(ks,n,?_);simp! [Aa,Im,u,x,y,e,z,l1,r]
def ZR(ks:Θ):∃ps:Θ,dg ps ks/\ps.Pairwise (·<=·)/\qY (ks.map λk:Nat=>(k:Int))=ps.map λk:Nat=>(k:Int):=by
 have l:=rW<|ks.map λk:Nat=>(k);have n:=zM<|ks.map λk:Nat=>(k);have r:(qY<|ks.map λk:Nat=>(k))=((qY<|ks.map λk:Nat=>(k)).map jz).map λk:Nat=>(k:Int):=by
  rw[mPq];conv=>lhs;rw[←cZ<|qY<|ks.map λk:Nat=>(k)]
  show mCq λz s=>?_;have(k,_,rfl):=mMq.mp<|l.mem_iff.mp s;rfl
 show((qY<|ks.map λk:Nat=>(k)).map jz,?_,?_,r)
 .have:=l.map jz;rw[mPq]at this;have e:ks.map (jz∘λk:Nat=>(k))=ks:=by
   conv=>rhs;rw[←cZ ks]
   show mCq λk Q=>?_;show cB k
  rwa [e]at this
 .rw[aG];show bp.imp (λh=>?_) n;lia
structure Pc (rs:Λ)(s:Nat)(ps:Θ):Prop where
 nd:ps.Nodup
 so:ps.Pairwise (·<=·)
 lt:∀k∈ps,k<rs.length
 iff:∀k,k∈ps↔Lc rs s k
def Hz(n:Mp rs)(r:s<aX rs):∃ps,Pc rs s ps/\Aa [dM rs,bo (s:Int)]=aK (aI<|ps.map λk:Nat=>(k:Int)):=by have(t,l,e):=Qa n r;have(ps,h1,h2,u):=ZR t;rw[u]at e;show(ps,(h1.symm.nodup l.nd,h2,λk hk=>l.lt k<|h1.mem_iff.mp hk,λk=>(λhk=>l.rc k<|h1.mem_iff.mp hk,λhk=>e8 (eg h1) ?_)),e);induction hk with
 |base=>show l.st
 |step _ a b c=>show l.cl _ c (bZ) _ _ a b
noncomputable def addN(kn:Θ)(t:Nat):Θ:=if t∈kn then kn else kn++[t]
def kd_put2 ks(t:Nat):xj (kd ks) (ak (t:Int)) (fb t_)=kd (addN ks t):=by
 unfold addN;by_cases h:t∈ks;.rw[qz h];unfold xj;rw[kd_any,d7 h];unfold kd;rw[mPq];show mCq λk Q=>?_;change(if _ then _ else _)=_;split <;> rfl
 .rw[qE h];show Ve h
def XR(kn)t:aX (addN kn t)<=aX kn+1:=by
 unfold addN;split;.rfl'
 .simp
theorem fold_len:∀(ps kn:Θ),aX (ps.foldl addN kn)<=aX kn+aX ps
 | [],kn=>ab _
 |p::ps,kn=>by have h1:=fold_len ps<|addN kn p;have h2:=XR kn p;simp?[bK,lCq];lia
def WZ:k∈addN kn t↔k∈kn∨k=t:=by
 unfold addN;split;.rename_i h;show(jB,λq=>q.elim id λq=>q ▸ h)
 .simp
theorem uI:∀{ps kn:Θ}{k},k∈ps.foldl addN kn↔k∈kn∨k∈ps
 | [],kn,k=>by simp
 |p::ps,kn,k=>by rw[bK,uI,WZ,ag,or_assoc]
def Zr(h:c9 kn):c9<|addN kn t:=by
 unfold addN;split;.show h
 .rename_i q;rw[nAq];show(h,by simp,λx l y n z=>q<|by rw[mSq.mp n]at z;rw[←z];show l)
theorem Ku:∀{ps kn:Θ},c9 kn->c9 (ps.foldl addN kn)
 | [],kn,h=>h
 |p::ps,kn,h=>by rw[bK];show Ku<|Zr h
def Jr{ps:Θ}(hk:aX kn+aX ps<500000):∃l,sD 5 zj ((ps.map λk:Nat=>(k:Int)).map bo) [v0,aK<|eu<|kd kn,v2,v3,v4,v5]=aK (k4 [v0,aK<|eu<|kd<|ps.foldl addN kn,v2,v3,v4,l]):=by
 have key:=uL (x:=5) (body:=zj) (λi S=>∃l,S=[v0,aK<|eu<|kd<|(ps.take i).foldl addN kn,v2,v3,v4,l]) (ds:=(ps.map λk:Nat=>(k:Int)).map bo) (S:=[v0,aK<|eu<|kd kn,v2,v3,v4,v5]) (v5,rfl) (by
  rintro i d S hd ⟨l,rfl⟩;rw[gMq,gMq]at hd;have(z,t,rfl):=oMq.mp hd;have(k,n,rfl):=oMq.mp t;have r:i<aX ps:=(gSq.mp n).1;have u:=fold_len (ps.take i) kn;rw[lTq]at u;have l1:aX (kd<|(ps.take i).foldl addN kn)<qZ:=by unfold kd;rw[lMq];change _<16777216;lia
  have y:(ps.take<|i+1).foldl addN kn=addN ((ps.take i).foldl addN kn) k:=by
   have:ps[i]'r=k:=by rw[gEg r]at n;show aK.inj n
   rw[eB r,fj,this];rfl
  have s:=kd_put2 ((ps.take i).foldl addN kn) k;rw[←y]at s;show(_,?_,i0 (k:Int),rfl);simp! [zj,l1,s]);have(B,e,l,rfl):=key;rw[lMq,lMq,aS]at e;show(l,e)
def Hg{ps:Θ}(h:∀k∈ps,k<aX rs):qJ qi (CZ<|lOf<|NY (sX 1)<|oR 0) [aK<|b8<|dM rs] ((ps.map λk:Nat=>(k:Int)).map bo)=aK (ps.map λk=>aI<|dk rs k []):=by have key:=qN (te:=CZ<|lOf<|NY (sX 1)<|oR 0) (cap:=[aK<|b8<|dM rs]) (λd=>match d with|bo k=>aI<|dk rs (jz k) []|_=>b8 kR) (ds:=(ps.map λk:Nat=>(k:Int)).map bo) (by intro d hd;rw[mPq]at hd;have(k,hk,rfl):=mMq.mp hd;have l:=ae0<|h k hk;show([i0<|k,aK<|b8<|dM rs],?_);simp! [dM,l,Function.comp,cB,dI,aI,mPq];rfl);rw[key,mPq,mPq];rfl
noncomputable def pA(rs:Λ)(ps:Θ):AV:=el<|ps.map λk=>aI<|dk rs k []
def Lc.trans(h:Lc rs a b)(h2:Lc rs b c):Lc rs a c:=by induction h2 with
 |base=>show h
 |step _ p q r=>show .step r p q
def Lc.symm(l:Mp rs)(h:Lc rs a b):Lc rs b a:=by induction h with
 |base=>show .base
 | @step k r e _ p q n=>have(s,h1,h2):=l.at<|l.other p q;have:=Lc.step .base h1 h2;rw[dF,plc_eq l.hn p q]at this;show this.trans n
structure Ps (rs:Λ)(i:Nat)(kn:Θ)(PS:List Θ):Prop where
 sub:∀ps∈PS,∀k∈ps,k∈kn
 dj:PS.Pairwise λa b=>∀k∈a,k∉b
 pc:∀ps∈PS,∃s,s<rs.length/\Pc rs s ps
 all:∀k,k<i->k∈kn
 mem:∀k,k∈kn->∃ps∈PS,k∈ps
 nd:kn.Nodup
 lt:∀k∈kn,k<rs.length
 len:PS.length<=i
def pieces_ok(C:Mp rs):∃kn PS,Ps rs (aX rs) kn PS/\vq [dM rs]=aK (el<|PS.map<|pA rs):=by
 have E:=C.hr;have key:=uL (x:=3) (body:=vt) (λi S=>∃kn PS G z u,S=[aK<|b8<|dM rs,aK<|eu<|kd kn,aK<|el<|PS.map<|pA rs,G,z,u]/\Ps rs i kn PS) (ds:=qD 0<|aX rs) (S:=[aK<|b8<|dM rs,aK<|eu [],aK<|el [],n_,n_,n_])
  ([],[],n_,n_,n_,rfl,(by simp,by simp,by simp,by simp,by simp,by simp,by simp,by simp)) (by
  rintro i d S hd ⟨kn,PS,G,z,u,rfl,l⟩;have H:i<aX rs:=by have:=(gSq.mp hd).1;rwa [qp]at this
  rw[AA H,iH]at hd;cases hd;have B:=kd_get kn i;by_cases c:i∈kn
  .rw[d7 c]at B;show([aK<|b8<|dM rs,aK<|eu<|kd kn,aK<|el<|PS.map<|pA rs,i0 (i:Int),z,u],?_,kn,PS,_,_,_,rfl,l.sub,l.dj,l.pc,?_,l.mem,l.nd,l.lt,?_);.simp! [vt,B]
   .intro k hk;obtain q|rfl:=cT.mp hk;.show l.all k q
    .show c
   .have:=l.len;rfl'
  .rw[d8 c]at B;have(ps,h1,L):=Hz C H;have U:=RT _ _ l.nd l.lt;have X:=RT _ _ h1.nd h1.lt;have Y:=l.len;have l2:aX ps<=qZ:=by change _<=16777216;lia
   have M:aX PS<qZ:=by change _<16777216;lia
   have(I,O):=Jr (ps:=ps) (kn:=kn) (v0:=aK<|b8<|dM rs) (v2:=aK<|el<|PS.map<|pA rs) (v3:=i0 (i:Int)) (v4:=aK<|b8<|dI<|ps.map λk:Nat=>(k:Int)) (v5:=u) ∅;have P:=Hg h1.lt;show([aK<|b8<|dM rs,aK<|eu<|kd<|ps.foldl addN kn,aK<|el<|(PS++[ps]).map<|pA rs,i0 (i:Int),aK<|b8<|dI<|ps.map λk:Nat=>(k:Int),I],?_,ps.foldl addN kn,PS++[ps],_,_,_,rfl,?_,?_,?_,?_,?_,Ku l.nd,?_,?_);.simp! [vt,B,L,O,P,l2,M,mBq,pA]
   .intro r t k hk;obtain q|q:=mAq.mp t;.show e8 uI<|jB<|l.sub r q k hk
    .rw[mSq.mp q]at hk;show e8 uI<|ir hk
   .rw[gJ];show(l.dj,eV ..,λr t b Q k hk y=>c ?_);rw[mSq.mp Q]at y;have(s,hs,J):=l.pc r t;show l.sub r t i<|e8 (J.iff i)<|((J.iff k).mp hk).trans<|((h1.iff k).mp y).symm C
   .intro r t;obtain q|q:=mAq.mp t;.show l.pc r q
    .rw[mSq.mp q];show(i,H,h1)
   .intro k hk;obtain q|rfl:=cT.mp hk;.show e8 uI<|jB<|l.all k q
    .show e8 uI<|ir<|e8 (h1.iff k) .base
   .intro k hk;obtain q|q:=uI.mp hk;.have(r,a,b):=l.mem k q;show(r,e8 mAq<|jB a,b)
    .show(ps,e8 mAq<|ir<|e8 mSq rfl,q)
   .intro k hk;obtain q|q:=uI.mp hk;.show l.lt k q
    .show h1.lt k q
   .rw[lAq,lSq];rfl');have(S',e,kn,PS,G,z,u,rfl,l):=key;rw[qp]at l;have R:=vX (n:=aX rs) ∅;show(kn,PS,l,?_);simp! [vq,EZ,dM,R,e]
end K51
open K51 renaming RT->aAq
namespace K12
open PySem L2 Mr Z Xe Zl
abbrev gm(p:Λ):Λ:=Fe<|p.map good
def qv p:dg (gm p)<|p.map good:=D8 _
def acN{P Q:List Λ}(l:dg Q<|P.map gm):dg (bf Q)<|P.flatten.map good:=by show kT l.flatten ?_;clear l;induction P with
 |nil=>show yG _
 |cons p P n=>simp?[ax,fCq,fCq,mBq];show(qv p).append n
theorem flat_nd:∀{PS:List Θ},(∀ps∈PS,c9 ps)->(PS.Pairwise λa b=>∀k∈a,k∉b)->c9 (bf PS)
 | [],_,_=>aW
 |p::PS,h1,h2=>by have(n,r):=cJ.mp h2;rw[fCq,nAq];show(h1 p<|ai ..,flat_nd (λps s=>h1 ps<|mCo _ s) r,λa ha b t e=>?_);have(q,u,l):=mFq.mp t;show n q u a ha<|e ▸ l
def Nw{PS}(l:K51.Ps rs (aX rs) kn PS):dg (PS.map λps=>ps.map λk=>dk rs k []).flatten rs:=by
 have r:bf (PS.map λps=>ps.map λk=>dk rs k [])=PS.flatten.map λk=>dk rs k []:=by rw[←eN]
 rw[r];have nd:=flat_nd (λps h=>by have(s,_,q):=l.pc ps h;show q.nd) l.dj;have pm:=e8 (cL nd gH) λk=>by
  rw[bE,mFq];constructor;.rintro⟨ps,h1,h2⟩;have(s,_,q):=l.pc ps h1;show q.lt k h2
  .intro hk;show l.mem k<|l.all k hk
 have t:(bD<|aX rs).map (λk=>dk rs k [])=rs:=by
  show cC λi=>?_;rw[gMq];by_cases n:i<aX rs;.rw[dN n,bJ,gDq,gEg n];rfl
  .rw[aR<|by simpa using n,aR<|by rfl'];rfl
 have:=pm.map<|λk=>dk rs k [];rwa [t]at this
end K12
namespace K11
open PySem L2 Mr Z Xe Zl K12
def BM(p:Λ):Prop:=∀k,0<k->k<aX p->∃j e,j<k/\e∈dk p j []/\-e∈dk p k []
structure Cn (p:Λ):Prop where
 ne:p≠[]
 clo:∀z∈p.flatten, -z∈p.flatten
 tr:BM p
def D2{l:Λ}{r x:Ϝ}(hr:l[h]?=aK r)(n:e∈dk l k []):e∈dk (i8 l h<|r++x) k []:=by
 rw[gDq]at n ⊢;by_cases q:h=k;.subst q;have s:=(gSq.mp hr).1;rw[aV s];rw[hr]at n;show bw _ n
 .rw[aJ q];show n
def Kb{l:Λ}{r x:Ϝ}(hr:l[h]?=aK r)(s:e∈x):e∈dk (i8 l h<|r++x) h []:=by have n:=(gSq.mp hr).1;rw[gDq,aV n];show ay _ s
def BM.set{r x:Ϝ}(t:BM l)(hr:l[h]?=aK r):BM<|i8 l h<|r++x:=λk h0 hk=>by rw[lZq]at hk;have(j,e,h1,h2,n):=t k h0 hk;show(j,e,h1,D2 hr h2,D2 hr n)
def getD_app{l:Λ}{x:Ϝ}(h:k<aX l):dk (l++[x]) k []=dk l k []:=by rw[gDq,gDq,gZq h]
def BM.add(t:BM l)(hh:h<aX l)(n:e∈dk l h []):BM<|l++[[-e]]:=λk h0 hk=>by
 simp?[lAq,lSq]at hk;by_cases q:k<aX l;.have(j,r,h1,h2,s):=t k h0 q;show(j,r,h1,by rw[getD_app ∅];show h2,by rw[getD_app q];show s)
 .have u:k=aX l:=by lia
  subst u;show(h,e,hh,by rw[getD_app hh];show n,by simp)
def VU(r:Ϝ):BM [r]:=λk h0 hk=>by rw[lSq]at hk;lia
end K11
open K11 renaming Cn->x2,BM->aAp
namespace K31
open PySem L2 Mr Z Xe Zl K12
def Qw one two:∃st sh a b:Int,1<=st/\st<=10 ^ 40/\0<=sh/\sh<10 ^ 40/\1<=a/\a<=66/\∀k:Nat,vk [bo one,bo two,bo (k:Int)]=i0 (Oh st sh a b k):=by
 have C:0<=two % 66:=bh _ ⋯;have E:two % 66<66:=ba _ ⋯;have G:0<=one / 3 % 10 ^ 40:=bh _ ⋯;have H:one / 3 % 10 ^ 40<10 ^ 40:=ba _ ⋯;have y:0<=two / 66 % 10 ^ 40:=bh _ ⋯;have z:two / 66 % 10 ^ 40<10 ^ 40:=ba _ ⋯;have u:=λi:Int=>sG (i:=i) (j:=3) ⋯;have l:=λi:Int=>sG (i:=i) (j:=66) ⋯;have n:=λi:Int=>sG (i:=i) (j:=67) ⋯;have r:=λi:Int=>sG (i:=i) (j:=10 ^ 40) ⋯;have B:=λi:Int=>uR (i:=i) (j:=3) ⋯ ⋯;have s:=λi:Int=>uR (i:=i) (j:=66) ⋯ ⋯;have x:=λk:Nat=>Jc (i:=1+two % 66) (j:=(k:Int)) ∅ ∅;by_cases h0:0<one % 3
 .show(1+one / 3 % 10 ^ 40,two / 66 % 10 ^ 40,1+two % 66,one,by lia,by lia,y,z,by lia,by lia,λk=>?_);have b1:0<=((1+two % 66)*(k:Int)+one) % 67:=bh _ ⋯;have b2:((1+two % 66)*(k:Int)+one) % 67<67:=ba _ ⋯;have t:=JA (i:=1+one / 3 % 10 ^ 40) (j:=((1+two % 66)*(k:Int)+one) % 67+1) (by omega)<|by omega
  simp! [vk,Ff,h0,u,l,n,r,B,s,x,t,p40,Oh]
 .show(1,0,1+two % 66,one,by decide,by decide,by decide,by decide,by lia,by lia,λk=>?_);have b1:0<=((1+two % 66)*(k:Int)+one) % 67:=bh _ ⋯;have b2:((1+two % 66)*(k:Int)+one) % 67<67:=ba _ ⋯;have t:=JA (i:=1) (j:=((1+two % 66)*(k:Int)+one) % 67+1) (by omega)<|by omega
  simp! [vk,Ff,h0,u,l,n,x,t,Oh]
def FF{T:Λ}{r:Ϝ}(hr:T[h]?=aK r):si (el<|T.map aI) [h]=aK (r.map λn=>b8<|bo n):=by rw[MU,gMq,hr];rfl
def YC{T:Λ}{r r':Ϝ}(hr:T[h]?=aK r):putAt (el<|T.map aI) [h] (r'.map λn=>b8<|bo n) = el ((i8 T h r').map aI):=by rw[Pu<|by rw[gMq,hr];rfl];change el (i8 (T.map aI) h<|aI r')=_;rw[UF]
structure Wd where
 T:Λ
 t0:Θ
 h:Nat
 loose:Ϝ
 left:Ϝ
noncomputable def Iv(wild:Bool)(c:Int)(loose:Ϝ):Nat:=if wild then jz<|c / 8 % aX loose else aX loose-1
noncomputable def sg(c x:Int):Int:=x*(1-2*(c / 4 % 2))
def zy(wild:Bool)(w:Wd)(c:Int):Wd:=let r:=dk w.T w.h []
 if c % 4=1/\w.t0≠[]then { w with t0:=o5 w.t0,h:=rh w.t0.getLast? 0 }
 else if c % 4=2/\w.loose≠[]then { w with T:=i8 w.T w.h (r++[dk w.loose (Iv wild c w.loose) 0]),loose:=fC w.loose (Iv wild c w.loose) }
 else match w.left with
  | []=>w
  |x::left=>if c % 4=0 then { w with T:=i8 w.T w.h (r++[sg c x])++[[-(sg c x)]],t0:=w.t0++[w.h],h:=aX w.T,left:=left }
   else { w with T:=i8 w.T w.h (r++[sg c x]),loose:=w.loose++[-(sg c x)],left:=left }
noncomputable def st(v0 v1:Option AV)(wild:Bool)(w:Wd)(v7 v8 v9 v10:Option AV):AS:=[v0,v1,i5 wild,aK<|el<|w.T.map aI,aK<|aI<|cN<|w.t0++[w.h],aK<|aI w.loose,aK<|aI w.left,v7,v8,v9,v10]
section
variable {t0:Θ}{hd:Nat}{loose left r:Ϝ}
def UZ:atI ((cN<|t0++[hd]).map bo) ((aX<|t0++[hd]:Int)-1)=aK (bo (hd:Int)):=by
 have:(aX<|t0++[hd]:Int)-1=(aX t0:Int):=by rw[lAq,lSq];ac_nf
 rw[this];show vd ?_;unfold cN;rw[mBq,mBq,gYq ⋯];simp
def AX l:aX (cN l)=aX l:=lMq ..
def WK:Θ->MS:=(Oc 3 (rH<|pU Iy (tY qV<|oQ (oR 6) oV)<|rC<|bo 0) (Oe 3 (GA 10<|X5 Du (Ba 6<|rC<|bo 0)<|pU D3 (rC<|bo 1)<|pU Du (rC<|bo 2)<|pU rX (pU ve (oR 7)<|rC<|bo 4)<|rC<|bo 2)<|λpath=>oZ ((Ro 3<|pD 10) path)<|wz (rH<|pU Al (pU rX (oR 7)<|rC<|bo 4)<|rC<|bo 0) (oZ (zS 3<|tF<|oU (kSc<|Bn vf<|oR 10) pJ)<|zS 4<|kSc<|pU D3 (tY qV<|oQ (oR 3) oV)<|rC<|bo 1)<|zS 5<|kSc<|Bn vf<|oR 10)<|λQ=>qm)
def Xi:Θ->MS:=(Oc 3 (CL (rH<|pU Al (pU rX (oR 7)<|rC<|bo 4)<|rC<|bo 1)<|rH<|pU Iy (tY qV<|oQ (oR 4) oV)<|rC<|bo 1) (λQ=>(KZ<|FE 4))<|Oc 3 (CL (rH<|pU Al (pU rX (oR 7)<|rC<|bo 4)<|rC<|bo 2)<|rH<|pU Iy (tY qV<|oQ (oR 5) oV)<|rC<|bo 0) (Oe 3 (pX 9<|kSc<|pU D3 (tY qV<|oQ (oR 5) oV)<|rC<|bo 1)<|Oe 3 (wz (rH<|oR 2) (pX 9<|kSc<|pU rX (pU ve (oR 7)<|rC<|bo 8)<|tY qV<|oQ (oR 5) oV) qm)<|LG 3<|Ba 5<|oR 9) WK)
def X2:uQ=(ZG 8 3 (pIx 3 (Ww 3)<|pU DF (oR 4)<|pU D3 (tY qV<|oQ (oR 4) oV)<|rC<|bo 1) Xi):=rfl
def WU(hr:T[hd]?=aK r):uQ (st v0 v1 wild (T,t0,hd,loose,left) (i0 c) v8 v9 v10)=Xi [hd] (st v0 v1 wild (T,t0,hd,loose,left) (i0 c) n_ v9 v10):=by
 have hh:hd<aX T:=(gSq.mp hr).1;have n:=FF hr;have s:LV (aX T) (hd:Int)=aK hd:=QP hh;have t:=pM<|cN<|t0++[hd];have l:=UZ (t0:=t0) (hd:=hd);have cl:=AX<|t0++[hd];have q:((8:Nat)≠3/\8<11)=True:=by simp
 simp?[X2];simp! [st,n,s,t,dI,l,cl,q]
def Zd(hr:T[hd]?=aK r)(h1:c % 4=1):Xi [hd] (st v0 v1 wild (T,t++[l],hd,loose,left) (i0 c) v8 v9 v10)=aK (k4<|st v0 v1 wild (T,t,l,loose,left) (i0 c) v8 v9 v10):=by
 have s:=sG (i:=c) (j:=4) ⋯;have u:=FF hr;have x:=pM<|cN<|t++[l]++[hd];have cl:=AX<|t++[l]++[hd];have y:(1:Int)<(aX<|t++[l]++[hd]:Int):=by simp;ac_nf
 have z:(cN<|t++[l]++[hd]).map (λn=>b8<|bo n)=(cN<|t++[l]).map (λn=>b8<|bo n)++[b8<|bo (hd:Int)]:=fQ<|LY (t++[l]) hd;have B:((cN<|t++[l]).map (λn=>b8<|bo n)++[b8<|bo (hd:Int)])[aX ((cN<|t++[l]).map (λn=>b8<|bo n)++[b8<|bo (hd:Int)])-1]?=i0 (hd:Int):=by rw[lAq,lSq,gYq<|by rfl'];simp
 have C:o5 ((cN<|t++[l]).map (λn=>b8<|bo n)++[b8<|bo (hd:Int)])=(cN<|t++[l]).map (λn=>b8<|bo n):=eA;simp! [Xi,st,s,h1,u,x,dI,cl,y,eq_self,z,B,C]
def Yx(hr:T[hd]?=aK r)(J:aX r<500000)(L:aX loose<500000)(h1:¬ c % 4=1)(h2:c % 4=2)(t:loose≠[]):Xi [hd] (st v0 v1 wild (T,t0,hd,loose,left) (i0 c) v8 v9 v10)=aK (k4<|st v0 v1 wild (i8 T hd<|r++[dk loose (Iv wild c loose) 0],t0,hd,fC loose<|Iv wild c loose,left) (i0 c) v8 (i0 (Iv wild c loose:Nat)) v10):=by
 have x:=sG (i:=c) (j:=4) ⋯;have M:=uR (i:=c) (j:=8) ⋯ ⋯;have y:0<aX loose:=e8 cz t;have ml:=sG (i:=c / 8) (j:=(aX loose:Int)) ∅;have z:=FF hr;have l1:aX r<qZ:=by change _<16777216;lia
 have B:=pM loose;have C:(0:Int)<(aX loose:Int):=by lia
 have l:Iv wild c loose<aX loose:=by unfold Iv;have O:0<=c / 8 % (aX loose:Int):=bh _ ∅;have b1:c / 8 % (aX loose:Int)<(aX loose:Int):=ba _ ∅;split <;> lia
 have ll:aX loose<=qZ:=by change _<=16777216;lia
 have E:(loose.map λn=>b8<|bo n)[Iv wild c loose]?=i0 (dk loose (Iv wild c loose) 0):=by rw[gMq,gEg l,gDq,gEg l];rfl
 have g2:fC (loose.map λn=>b8<|bo n) (Iv wild c loose)=(fC loose<|Iv wild c loose).map λn=>b8<|bo n:=Xg _ _ _;have G:=YC (r':=r++[dk loose (Iv wild c loose) 0]) hr;have H:=Ip r<|dk loose (Iv wild c loose) 0;have q:(0<=((Iv wild c loose:Nat):Int)/\((Iv wild c loose:Nat):Int)<(aX loose:Int)/\aX loose<=qZ)=True:=by simp[ll,l]
 have I:jz ((Iv wild c loose:Nat):Int)=Iv wild c loose:=cB _;have s:¬ (2:Int)=1:=by decide
 cases wild with
 |true=>
  have u:c / 8 % (aX loose:Int)=((Iv t_ c loose:Nat):Int):=by have O:0<=c / 8 % (aX loose:Int):=bh _ ∅;change _=((jz<|c / 8 % (aX loose:Int):Nat):Int);lia
  simp! [Xi,st,x,h2,s,z,B,dI,C,eq_self,M,ml,u,q,I,E,g2,l1,H,G,true_and]
 |false=>
  have u:(aX loose:Int)-1=((Iv f_ c loose:Nat):Int):=by change _=((aX loose-1:Nat):Int);lia
  simp! [Xi,st,x,h2,s,z,B,dI,C,eq_self,u,q,I,E,g2,l1,H,G,true_and]
def Wx(hr:T[hd]?=aK r)(h1:¬ (c % 4=1/\t0≠[]))(h2:¬ (c % 4=2/\loose≠[])):Xi [hd] (st v0 v1 wild (T,t0,hd,loose,left) (i0 c) v8 v9 v10)=WK [hd] (st v0 v1 wild (T,t0,hd,loose,left) (i0 c) v8 v9 v10):=by
 have l:=sG (i:=c) (j:=4) ⋯;have n:=FF hr;have s:=pM loose;have t:=pM<|cN<|t0++[hd];have cl:=AX<|t0++[hd];have E:c % 4=1->decide ((1:Int)<(aX<|t0++[hd]:Int))=f_:=λh=>by
  by_cases hn:t0=[];.subst hn;rfl
  .show absurd (h,hn) h1
 have G:c % 4=2->decide ((0:Int)<(aX loose:Int))=f_:=λh=>by
  by_cases hn:loose=[];.subst hn;rfl
  .show absurd (h,hn) h2
 have u:¬ (2:Int)=1:=by decide
 have x:¬ (1:Int)=2:=by decide
 by_cases y:c % 4=1;.have z:=E y;simp! [Xi,WK,st,l,y,x,n,s,t,cl,dI,z,eq_self]
 .by_cases B:c % 4=2;.have C:=G B;simp! [Xi,WK,st,l,B,u,n,s,t,cl,dI,C,eq_self]
  .simp! [Xi,WK,st,l,y,B,n,s,t,cl,dI,eq_self]
def aaa(hr:T[hd]?=aK r):WK [hd] (st v0 v1 wild (T,t0,hd,loose,[]) (i0 c) v8 v9 v10)=aK (k4<|st v0 v1 wild (T,t0,hd,loose,[]) (i0 c) v8 v9 v10):=by
 have l:=FF hr;have n:decide ((0:Int)<((0:Nat):Int))=f_:=by rfl
 have s:=pM [];simp! [WK,st,l,s,dI,n]
def ac4(hr:T[hd]?=aK r)(t:aX r<500000)(u:aX T<500000)(y:aX t0<500000)(z:aX left<500000)(h0:c % 4=0):WK [hd] (st v0 v1 wild (T,t0,hd,loose,x::left) (i0 c) v8 v9 v10)=aK (k4<|st v0 v1 wild (i8 T hd (r++[sg c x])++[[-(sg c x)]],t0++[hd],aX T,loose,left) (i0 c) v8 v9<|i0<|sg c x):=by
 have B:=sG (i:=c) (j:=4) ⋯;have C:=uR (i:=c) (j:=4) ⋯ ⋯;have m2:=sG (i:=c / 4) (j:=2) ⋯;have S:0<=c / 4 % 2:=bh _ ⋯;have b1:c / 4 % 2<2:=ba _ ⋯;have E:=Jc (i:=2) (j:=c / 4 % 2) (by rfl')<|by rfl'
 have G:=JA (i:=x) (j:=1-2*(c / 4 % 2)) ∅ ∅;have H:=FF hr;have I:=pM<|x::left;have J:(0:Int)<(aX<|x::left:Int):=by rw[lCq];lia
 have n:(0:Int)<((aX left+1:Nat):Int):=by lia
 have l1:aX r<qZ:=by change _<16777216;lia
 have q:(0:Int)<=0:=gw _;have L:aX left+1<=qZ:=by change _<=16777216;lia
 have s:jz (0:Int)=0:=rfl;have M:x*(1-2*(c / 4 % 2))=sg c x:=rfl;have O:=Ip r<|sg c x;have P:=YC (r':=r++[sg c x]) hr;have lT:aX (i8 T hd<|r++[sg c x])=aX T:=lZq;have l2:aX T<qZ:=by change _<16777216;lia
 have Q:=Yo (i8 T hd<|r++[sg c x])<|-(sg c x);have l:(aX<|i8 T hd (r++[sg c x])++[[-(sg c x)]]:Int)-1=(aX T:Int):=by rw[lAq,lT,lSq];ac_nf
 have lw:aX (t0++[hd])<qZ:=by rw[lAq,lSq];change aX t0+1<16777216;lia
 have R:=LY (t0++[hd])<|aX T;have cl:=AX<|t0++[hd];simp! [WK,st,B,h0,C,m2,E,G,H,I,dI,J,n,q,L,true_and,s,M,eq_self,l1,O,P,lT,l2,Q,l,cl,lw,R,iJ]
def Ux(hr:T[hd]?=aK r)(s:aX r<500000)(t:aX loose<500000)(u:aX left<500000)(h0:¬ c % 4=0):WK [hd] (st v0 v1 wild (T,t0,hd,loose,x::left) (i0 c) v8 v9 v10)=aK (k4<|st v0 v1 wild (i8 T hd<|r++[sg c x],t0,hd,loose++[-(sg c x)],left) (i0 c) v8 v9<|i0<|sg c x):=by
 have y:=sG (i:=c) (j:=4) ⋯;have z:=uR (i:=c) (j:=4) ⋯ ⋯;have m2:=sG (i:=c / 4) (j:=2) ⋯;have P:0<=c / 4 % 2:=bh _ ⋯;have b1:c / 4 % 2<2:=ba _ ⋯;have B:=Jc (i:=2) (j:=c / 4 % 2) (by rfl')<|by rfl'
 have C:=JA (i:=x) (j:=1-2*(c / 4 % 2)) ∅ ∅;have E:=FF hr;have G:=pM<|x::left;have H:(0:Int)<(aX<|x::left:Int):=by rw[lCq];lia
 have l:(0:Int)<((aX left+1:Nat):Int):=by lia
 have l1:aX r<qZ:=by change _<16777216;lia
 have q:(0:Int)<=0:=gw _;have I:aX left+1<=qZ:=by change _<=16777216;lia
 have n:jz (0:Int)=0:=rfl;have J:x*(1-2*(c / 4 % 2))=sg c x:=rfl;have L:=Ip r<|sg c x;have M:=YC (r':=r++[sg c x]) hr;have l2:aX loose<qZ:=by change _<16777216;lia
 have O:=Ip loose<|-(sg c x);simp! [WK,st,y,h0,z,m2,B,C,E,G,dI,H,l,q,I,true_and,n,J,eq_self,l1,L,M,l2,O,iJ]
end
noncomputable def wA(l:Ϝ):Ϝ:=l.flatMap λx=>[x, -x]
def GR x(l:Ϝ)a:(wA<|x::l).count a=[x, -x].count a+(wA l).count a:=by unfold wA;rw[bN,cAq]
theorem K9:∀l:Ϝ,aX (wA l)=2*aX l
 | []=>rfl
 |x::l=>by unfold wA;have:=K9 l;unfold wA at this;rw[bN,lAq,this];change 2+2*aX l=2*(aX l+1);rfl'
def Rq:z∈wA l↔∃x∈l,z=x∨z = -x:=by unfold wA;rw[bL];simp
def VJ a c x:[sg c x].count a+[-(sg c x)].count a=[x, -x].count a:=by
 have l:0<=c / 4 % 2:=bh _ ⋯;have b1:c / 4 % 2<2:=ba _ ⋯;rw[show[x, -x]=[x]++[-x]from rfl,cAq];unfold sg;have h:c / 4 % 2=0∨c / 4 % 2=1:=by lia
 obtain h|h:=h;.rw[h,show(1:Int)-2*0=1 from rfl,iu]
 .rw[h,show(1:Int)-2*1 = -1 from rfl,jK,iu,dF];rfl'
structure Yr (nm:Ϝ)(w:Wd)(n:Nat):Prop where
 hh:w.h<w.T.length
 ht:∀k∈w.t0,k<w.T.length
 lw:w.t0.length<=n
 lT:w.T.length<=n+1
 lf:w.left.length<=nm.length
 cnt:∀a,w.T.flatten.count a+w.loose.count a+(wA w.left).count a=(wA nm).count a
 tr:K11.BM w.T
def Yr.len(h:Yr nm w n):aX (bf w.T)+aX w.loose+aX (wA w.left)=2*aX nm:=by
 have:dg (bf w.T++w.loose++wA w.left)<|wA nm:=by rw[df];intro a;rw[cAq,cAq];show h.cnt a
 have:=ef this;rw[lAq,lAq,K9 nm]at this;show this
def Yr.step(h:Yr nm w n)c:Yr nm (zy wild w c)<|n+1:=by
 have(T,t0,hd,loose,left):=w;have(hh,ht,lw,lT,lf,cnt,tr):=h;simp only at hh ht lw lT lf cnt tr;have hr:T[hd]?=aK (dk T hd []):=by rw[gDq,gEg hh];rfl
 unfold zy;simp only;split
 .rename_i q;obtain z|⟨t,u,z⟩:=dS t0;.show absurd z q.2
  .subst z;rw[dU]at ht lw ⊢;rw[eA,iZ];simp?[iK,jX,bB];rw[lAq,lSq]at lw;show(ht _ ⋯,λk hk=>ht k<|by simp[hk],(by simp only;lia),(by simp only;lia),lf,cnt,tr)
 .split
  .rename_i q;have r:0<aX loose:=e8 cz q.2;have l:Iv wild c loose<aX loose:=by
    unfold Iv;have y:0<=c / 8 % (aX loose:Int):=bh _<|by ac_nf
    have b1:c / 8 % (aX loose:Int)<(aX loose:Int):=ba _<|by ac_nf
    split <;> lia
   show(?_,?_,?_,?_,lf,λa=>?_,?_);.simp?[lZq];show hh
   .simp?[lZq];show ht
   .simp only;lia
   .simp?[lZq];lia
   .simp only;rw[DI a hr,←cnt a,←Fb a l];rfl'
   .show tr.set hr
  .cases left with
   |nil=>show(hh,ht,(by simp only;lia),(by simp only;lia),lf,cnt,tr)
   |cons x left=>
    simp only;rw[lCq]at lf;have s:=λa=>GR x left a;split
    .show(?_,?_,?_,?_,(by simp only;lia),λa=>?_,?_);.simp?[lAq,lZq,lSq];rfl'
     .intro k hk;simp?[lAq,lZq,lSq]at hk ⊢;obtain hk|hk:=mAq.mp hk;.have:=ht k hk;rfl'
      .rw[mSq.mp hk];rfl'
     .simp?[lAq,lSq];rfl'
     .simp?[lAq,lZq,lSq];rfl'
     .simp only;rw[fAq,aB,cAq,DI a hr];have:=cnt a;rw[s a,←VJ a c x]at this;lia
     .show(tr.set hr).add (by rw[lZq];show hh)<|K11.Kb hr ⋯
    .show(?_,?_,?_,?_,(by simp only;lia),λa=>?_,?_);.simp?[lZq];show hh
     .simp?[lZq];show ht
     .simp only;lia
     .simp?[lZq];lia
     .simp only;rw[DI a hr,cAq];have:=cnt a;rw[s a,←VJ a c x]at this;lia
     .show tr.set hr
def So(h:Yr nm w n)(hn:n<1000)(G:aX nm<=1000):∃B C r,uQ (st v0 v1 wild w (i0 c) v8 v9 v10)=aK (k4<|st v0 v1 wild (zy wild w c) (i0 c) B C r):=by
 have s:=h.len;have(T,t0,hd,loose,left):=w;have(hh,ht,lw,lT,lf,cnt,tr):=h;simp only at hh ht lw lT lf cnt tr s;have hr:T[hd]?=aK (dk T hd []):=by rw[gDq,gEg hh];rfl
 have E:=Rn hr;rw[WU hr];unfold zy;simp only;by_cases u:c % 4=1/\t0≠[]
 .rw[qz u];obtain z|⟨t,H,z⟩:=dS t0;.show absurd z u.2
  .subst z;rw[dU,eA,iZ];simp?[iK,jX,bB];show(_,_,_,Zd hr u.1)
 .rw[qE u];by_cases l:c % 4=2/\loose≠[];.rw[qz l];show(_,_,_,Yx hr ∅ ∅ (by have:=l.1;ac_nf) l.1 l.2)
  .rw[qE l,Wx hr u l];cases left with
   |nil=>show(_,_,_,aaa hr)
   |cons x left=>
    simp only;rw[lCq]at lf;by_cases y:c % 4=0;.rw[qz y];show(_,_,_,ac4 hr ∅ ∅ ∅ ∅ y)
    .rw[qE y];show(_,_,_,Ux hr ∅ ∅ ∅ y)
noncomputable def w0(nm:Ϝ):Wd:=([[]],[],0,[],nm)
def aak nm:Yr nm (w0 nm) 0:=(by simp[w0],(λk h=>by cases h),ab _,ab _,ab _,(λa=>by simp[w0]),K11.VU _)
theorem HM:∀(cs:Ϝ) {w}{n},Yr nm w n->Yr nm (cs.foldl (zy wild) w) (n+aX cs)
 | [],w,n,h=>h
 |c::cs,w,n,h=>by have:=HM (wild:=wild) cs<|h.step (wild:=wild) c;simp?[bK,lCq,show n+(aX cs+1)=n+1+aX cs by rfl'];show this
def PB(u:aX cs<=63)(hn:aX nm<=1000):∃s n r l,sD 7 uQ (cs.map bo) (st (aK<|b8<|dI cs) (aK<|b8<|dI nm) wild (w0 nm) v7 v8 v9 v10)=aK (k4<|st (aK<|b8<|dI cs) (aK<|b8<|dI nm) wild (cs.foldl (zy wild)<|w0 nm) s n r l):=by have key:=uL (x:=7) (body:=uQ) (λi S=>∃v7 v8 v9 v10,S=st (aK<|b8<|dI cs) (aK<|b8<|dI nm) wild ((cs.take i).foldl (zy wild)<|w0 nm) v7 v8 v9 v10) (ds:=cs.map bo) (S:=st (aK<|b8<|dI cs) (aK<|b8<|dI nm) wild (w0 nm) v7 v8 v9 v10) (v7,v8,v9,v10,rfl) (by rintro i d S hd ⟨v7,v8,v9,v10,rfl⟩;rw[gMq]at hd;have(c,t,rfl):=oMq.mp hd;have y:i<aX cs:=(gSq.mp t).1;have ok:=HM (nm:=nm) (wild:=wild) (cs.take i)<|aak nm;rw[lTq]at ok;have(n,r,l,e):=So (wild:=wild) (c:=c) (v0:=aK<|b8<|dI cs) (v1:=aK<|b8<|dI nm) (v8:=v8) (v9:=v9) (v10:=v10) ok ∅ hn;show(_,e,i0 c,n,r,l,?_);rw[R6 t]);have(z,e,s,n,r,l,rfl):=key;rw[lMq,aS]at e;show(s,n,r,l,e)
def TY{r:Ϝ}(hr:T[hd]?=aK r)(hl:aX r+aX loose<=10000) :
  tW (rH<|pU Iy (tY qV<|oQ (oR 5) oV)<|rC<|bo 0) xW 100000 (st v0 v1 wild (T,t0,hd,loose,left) v7 v8 v9 v10)=aK (k4<|st v0 v1 wild (i8 T hd<|r++hY loose,t0,hd,[],left) v7 v8 v9 v10):=by
 have hh:hd<aX T:=(gSq.mp hr).1;have(H,e,l2,rfl,z):=yE (c:=rH<|pU Iy (tY qV<|oQ (oR 5) oV)<|rC<|bo 0) (body:=xW)
  (λS=>∃l1 l2,S=st v0 v1 wild (i8 T hd<|r++l2,t0,hd,l1,left) v7 v8 v9 v10/\loose=l1++hY l2)
  (λS=>match S with|[_,_,_,_,_,aK (el l),_,_,_,_,_]=>aX l|_=>0)
  (λH=>∃l2,H=st v0 v1 wild (i8 T hd<|r++l2,t0,hd,[],left) v7 v8 v9 v10/\loose=hY l2) (by
   rintro S ⟨l1,l2,rfl,u⟩;have s:=congrArg aX u;rw[lAq,fL]at s;obtain rfl|⟨l,x,rfl⟩:=dS l1
   .show(f_,_,?_,λq=>(nomatch q),λW=>(l2,rfl,by rw[u];rfl));have y:decide ((0:Int)<((0:Nat):Int))=f_:=by rfl
    have B:=pM [];simp! [st,B,dI,y]
   .rw[dU]at u s ⊢;have t:(i8 T hd<|r++l2)[hd]?=aK (r++l2):=aV hh;have I:=FF t;have J:LV (aX T) (hd:Int)=aK hd:=QP hh;have lT:aX (i8 T hd<|r++l2)=aX T:=lZq;have L:=pM<|cN<|t0++[hd];have C:=UZ (t0:=t0) (hd:=hd);have cl:=AX<|t0++[hd];have B:=pM<|l++[x];have y:(0:Int)<(aX<|l++[x]:Int):=by rw[lAq,lSq];ac_nf
    have ex:(l++[x]).map (λn=>b8<|bo n)=l.map (λn=>b8<|bo n)++[b8<|bo x]:=by rw[mBq];rfl
    have M:(l.map (λn=>b8<|bo n)++[b8<|bo x])[aX (l.map (λn=>b8<|bo n)++[b8<|bo x])-1]?=i0 x:=by rw[lAq,lSq,gYq<|by rfl'];simp
    have O:o5 (l.map (λn=>b8<|bo n)++[b8<|bo x])=l.map (λn=>b8<|bo n):=eA;have P:=YC (r':=r++l2++[x]) t;have Q:=Ip (r++l2) x;have E:aX (r++l2)<qZ:=by rw[lAq,lSq]at s;rw[lAq];change _<16777216;lia
    have G:i8 (i8 T hd<|r++l2) hd (r++l2++[x])=i8 T hd (r++(l2++[x])):=by rw[gV,bg]
    show(t_,st v0 v1 wild (i8 T hd<|r++l2,t0,hd,l++[x],left) v7 v8 v9 v10,?_,λW=>(st v0 v1 wild (i8 T hd<|r++(l2++[x]),t0,hd,l,left) v7 v8 v9 v10,?_,(l,l2++[x],rfl,by rw[u];simp),?_),λq=>(nomatch q));.simp! [st,B,dI,y]
    .simp! [xW,st,I,J,lT,L,dI,C,cl,ex,M,O,E,Q,P,G,eq_self,true_and]
    .change(aX<|l.map _)<aX ((l++[x]).map _);simp?[lMq,lMq,lAq,lSq];rfl') 100000 (st v0 v1 wild (T,t0,hd,loose,left) v7 v8 v9 v10) (loose,[],by rw[aNq,Z.LA hr],by simp) (by change(aX<|loose.map _)<100000;rw[lMq];lia);rw[e,z,List.reverse_reverse]
def tw(wild:Bool)(nm cs:Ϝ):Λ:=i8 (cs.foldl (zy wild)<|w0 nm).T (cs.foldl (zy wild)<|w0 nm).h<|dk (cs.foldl (zy wild)<|w0 nm).T (cs.foldl (zy wild)<|w0 nm).h []++hY (cs.foldl (zy wild)<|w0 nm).loose
def U8(B:aX cs<=63)(hn:aX nm<=100):wY [dI cs,dI nm,fb wild]=aK (el<|(tw wild nm cs).map aI)/\(∃left:Ϝ,∀a,(tw wild nm cs).flatten.count a+(wA left).count a=(wA nm).count a)/\aAp (tw wild nm cs)/\0<aX (tw wild nm cs)/\aX (tw wild nm cs)<=64:=by
 have(u,x,y,l,e):=PB (nm:=nm) (wild:=wild) (v7:=n_) (v8:=n_) (v9:=n_) (v10:=n_) B ∅;have ok:=HM (nm:=nm) (wild:=wild) cs<|aak nm;rw[aU]at ok;unfold tw;generalize cs.foldl (zy wild) (w0 nm)=w at e ok;have s:=ok.len;have(T,t0,hd,loose,left):=w;have(hh,ht,lw,lT,lf,cnt,tr):=ok;simp only at hh ht lw lT lf cnt tr s ⊢;have hr:T[hd]?=aK (dk T hd []):=by rw[gDq,gEg hh];rfl
 have t:=Rn hr;generalize dk T hd []=r at hr t;have C:=TY (t0:=t0) (loose:=loose) (left:=left) (wild:=wild) (v0:=aK<|b8<|dI cs) (v1:=aK<|b8<|dI nm) (v7:=u) (v8:=x) (v9:=y) (v10:=l) hr ∅;have z:sD 7 uQ (cs.map bo) [aK<|b8<|dI cs,aK<|b8<|dI nm,i5 wild,aK<|el [el []],aK<|el [b8<|bo 0],aK<|el [],aK<|aI nm,n_,n_,n_,n_]=aK (k4<|st (aK<|b8<|dI cs) (aK<|b8<|dI nm) wild (T,t0,hd,loose,left) u x y l):=e;show(?_,(left,λa=>?_),tr.set hr,by rw[lZq];lia,by rw[lZq];lia)
 .have E:((nm.map bo).map b8)=nm.map λn=>b8<|bo n:=by rw[mPq];rfl
  simp! [wY,Hc,dI,E];simp! [dI]at z;rw[z];simp! [C];simp! [st]
 .rw[DI a hr,List.count_reverse,cnt a]
def GD(l:aX cs<=63)(hn:aX nm<=100):∃T left,wY [dI cs,dI nm,fb wild]=aK (el<|T.map aI)/\(∀a,T.flatten.count a+(wA left).count a=(wA nm).count a)/\aAp T/\0<aX T/\aX T<=64:=by have(h1,(left,h2),n):=U8 (nm:=nm) (cs:=cs) (wild:=wild) l hn;show(_,left,h1,h2,n)
end K31
open K31 renaming wA->tO
namespace K31
open PySem L2 Mr Z Xe Zl
noncomputable def rot(r:Ϝ)(e:Int):Ϝ:=r.drop (r.idxOf e)++r.take (r.idxOf e)
def rot_perm(r)e:dg (rot r e) r:=by show kT dR<|by rw[aQ]
def rot_len(r)e:aX (rot r e)=aX r:=ef<|rot_perm r e
def Ef(s:e∈r)(hl:aX r<=500000):wt [dI r,bo e]=aK (aI<|rot r e):=by
 have l:r.idxOf e<=aX r:=bQ<|e8 eE s;have t:Ez (dI r) [bo e]=aK (bo (r.idxOf e:Nat)):=by change(su<|r.map bo).bind _=_;rw[rP];change(if _ then _ else _)=_;rw[qz s]
 have n:aX (r.drop<|r.idxOf e)+aX (r.take<|r.idxOf e)<=qZ:=by rw[aL,lTq];change _<=16777216;lia
 simp! [wt,DC,t,Ac,Cp r _ l,Ar r _ l,n,←mBq,Gw];rfl
def Bx(rs:Λ)(s:List Ϝ×Θ)(o:Int):List Ϝ×Θ:=if plc rs o∈s.2 then s else %[s.1++[rot (dk rs (plc rs o) []) o]|s.2++[plc rs o]]
def Og(rs:Λ):Nat->Nat->List Ϝ×Θ->List Ϝ×Θ
 |0,_,s=>s
 |f+1,i,s=>if i<aX s.1.flatten then Og rs f (i+1)<|Bx rs s<|-(dk s.1.flatten i 0)else s
def CK(rs:Λ)(e:Int):List Ϝ×Θ:=%[[rot (dk rs (plc rs e) []) e]|[plc rs e]]
def rnd(rs:Λ)(e:Int):List Ϝ×Θ:=Og rs 2000 0<|CK rs e
structure RI (rs:Λ)(e:Int)(s:List Ϝ×Θ)(i:Nat):Prop where
 pm:s.1.flatten.Perm<|s.2.flatMap λp=>rs.getD p []
 hd:∃Q,s.1=rot (rs.getD (plc rs e) []) e::Q
 nd:s.2.Nodup
 lt:∀p∈s.2,p<rs.length
 le:i<=s.1.flatten.length
 cl:∀j,j<i->plc rs (-(s.1.flatten.getD j 0))∈s.2
 ln:s.1.length=s.2.length
def Ti{a:Ϝ}(h:j<aX a):dk (a++b) j 0=dk a j 0:=by rw[gDq,gDq,gZq h]
theorem LW{g:Nat->Ϝ}:∀{ps l:Θ},c9 ps->(∀p∈ps,p∈l)->aX (ps.flatMap g)<=aX (l.flatMap g)
 | [],l,_,_=>aH _
 |p::ps,l,hn,hs=>by
  have n:=az.mp hn;have s:=List.perm_cons_erase<|hs p ⋯;have h1:=LW (g:=g) (l:=l.erase p) n.2 λq r=>e8 (fA<|λz:q=p=>n.1<|z ▸ r)<|hs q<|by simp[r]
  simp?[ef<|s.flatMap_right g,bN,bN,lAq,lAq];lia
def Ht(rs:Λ):(bD<|aX rs).flatMap (λp=>dk rs p [])=bf rs:=by
 have l:rs=(bD<|aX rs).map λp=>dk rs p []:=by show gA ⋯ λi a b=>?_;simp[a]
 conv=>rhs;rw[l]
 rfl
def flat_nd{ps:Θ}{rs:Λ}(hn:c9 ps)(hl:∀p∈ps,p<aX rs):aX (ps.flatMap λp=>dk rs p [])<=aX (bf rs):=by rw[←Ht];show LW hn λp l=>e8 bE<|hl p l
def RI.few(h:RI rs e s i):aX s.1.flatten<=aX (bf rs):=by rw[ef h.pm];show flat_nd h.nd h.lt
def RI.mem(t:Mp rs)(h:RI rs e s i)(l:x∈bf s.1):x∈bf rs/\plc rs x∈s.2:=by have(p,r,l):=bL.mp<|h.pm.mem_iff.mp l;have n:=h.lt p r;have hr:=gEg n;rw[gDq,hr]at l;rw[plc_eq t.hn hr l];show(e8 mFq (_,mGq hr,l),r)
def RI.step(r:Mp rs)(h:RI rs e s i)(t:i<aX s.1.flatten):RI rs e (Bx rs s<|-(dk s.1.flatten i 0))<|i+1:=by
 have B:dk s.1.flatten i 0∈bf s.1:=by rw[gDq,gEg t];show gRq t
 have(m1,m2):=h.mem r B;have u:=r.lt<|r.hneg _ m1;unfold Bx;split
 .rename_i q;show(h.pm,h.hd,h.nd,h.lt,t,λj C=>?_,h.ln);by_cases l:j<i;.show h.cl j l
  .have:j=i:=by lia
   cases this;show q
 .rename_i q;have(Q,E):=h.hd;show(?_,(Q++[_],by rw[E];rfl),?_,?_,?_,λj C=>?_,by simp[h.ln]);.simp?[fAq,aB,dO,iR];show h.pm.append<|rot_perm _ _
  .show e8 nAq (h.nd,by simp,λa ha b y z=>q<|by rw[mSq]at y;rw[←y,←z];show ha)
  .intro p n;obtain n|n:=mAq.mp n;.show h.lt p n
   .rw[mSq.mp n];show u
  .simp?[fAq,lAq];lia
  .simp?[fAq,aB];have x:j<aX s.1.flatten:=by lia
   rw[Ti x];by_cases l:j<i;.show bw _<|h.cl j l
   .have:j=i:=by lia
    cases this;show ay _ ⋯
def HQ(n:Mp rs)(r:e∈bf rs):RI rs e (CK rs e) 0:=by
 show(?_,([],rfl),by simp[CK],?_,aH _,λj s=>absurd s<|bR _,rfl);.simp?[CK,aB,iR];show rot_perm _ _
 .intro p l;simp?[CK,mSq]at l;rw[l];show n.lt r
theorem XI(l:Mp rs):∀f {i}{s},RI rs e s i->aX (bf rs)-i<f->RI rs e (Og rs f i s) (aX (Og rs f i s).1.flatten)
 |0,i,s,h,hf=>absurd hf<|bR _
 |f+1,i,s,h,hf=>by
  unfold Og;split;.rename_i q;have:=h.few;show XI l f (h.step l q) ∅
  .have:i=aX s.1.flatten:=by have:=h.le;rfl'
   subst this;show h
def Bp(l:Mp rs)(n:e∈bf rs):RI rs e (rnd rs e)<|aX (rnd rs e).1.flatten:=XI l 2000 (HQ l n)<|by have:=l.hl;lia
def Uk(Q:Λ):AV:=el<|Q.map λr=>b8<|dI r
def Mq(rs:Λ)(e:Int)(s:List Ϝ×Θ)(i:Nat)(v7 v8:Option AV):AS:=[aK<|b8<|dM rs,i0 e,aK<|eu<|qt 0 rs,aK<|Uk s.1,aK<|aI<|bf s.1,aK<|eu<|kd s.2,i0 (i:Int),v7,v8]
def JS(Q:Λ):(Q.map λr=>b8<|dI r).map pE=Q.map dI:=by rw[mPq];rfl
def Ot{ks:Θ}(h:t∉ks):xj (kd ks) (ak (t:Int)) (fb t_)=kd (ks++[t]):=by rw[kd_put2];unfold addN;rw[qE h]
def Qi(l:Mp rs)(h:RI rs e s i)(y:i<aX s.1.flatten):∃z B,mb_round_turns_0 (Mq rs e s i v7 v8)=aK (k4<|Mq rs e (Bx rs s<|-(dk s.1.flatten i 0)) (i+1) z B):=by
 have L:dk s.1.flatten i 0∈bf s.1:=by rw[gDq,gEg y];show gRq y
 have(m1,m2):=h.mem l L;have hn:=l.hneg _ m1;have C:=l.lt hn;have few:=h.few;have hl:=l.hl;have R:=l.hr;have S:=aAq _ _ h.nd h.lt;have ln:=h.ln;have(Q,ps):=s;simp only at y L m1 m2 hn C few S ln h ⊢;have u:atI (Q.flatten.map bo) (i:Int)=aK (bo<|dk (bf Q) i 0):=vd<|by rw[gMq,gDq,gEg y];rfl
 have M:=pM<|bf Q;generalize U:dk (bf Q) i 0=x at *;have kv:=l.kv hn;have O:=kd_get ps<|plc rs<|-x;show(i0<|-x,i0 (plc rs<|-x:Int),?_);have P:((i+1:Nat):Int)=(i:Int)+1:=by rfl'
 unfold Bx;by_cases q:plc rs (-x)∈ps
 .have t:j3 (e9 (kd ps)<|ak (plc rs<|-x:Int))=t_:=by rw[O];simp[q]
  simp?[q,if_true];simp! [mb_round_turns_0,Mq,Uk,M,dI,u,kv,t,P]
 .have t:j3 (e9 (kd ps)<|ak (plc rs<|-x:Int))=f_:=by rw[O];simp[q]
  simp?[q,if_false];have(r,hr,E):=l.at hn;have gr:dk rs (plc rs<|-x) []=r:=by rw[gDq,hr];rfl
  have rl:=l.row hr;have X:=Ef E ∅;have G:atI (rs.map dI) (plc rs<|-x:Int)=aK (dI r):=vd<|by rw[gMq,hr];rfl
  have Y:=Ot q;have kl:aX (kd ps)<qZ:=by unfold kd;rw[lMq];change _<16777216;lia
  have lQ:aX Q<qZ:=by change _<16777216;lia
  have sQ:=JS Q;have e1:(Q.map λr=>b8<|dI r)++[aI<|rot r<|-x]=(Q.map λr=>b8<|dI r)++[el<|(rot r<|-x).map λn=>b8<|bo n]:=rfl;have s1:((Q.map λr=>b8<|dI r)++[aI<|rot r<|-x]).map pE=(Q++[rot r<|-x]).map dI:=by rw[mBq,sQ,mBq];change _++[pE<|aI<|rot r<|-x]=_;rw[pM];rfl
  have H:atI ((Q++[rot r<|-x]).map dI) (-1)=aK (dI<|rot r<|-x):=by rw[mBq];show NR _ _
  have I:=rot_len r<|-x;have lE:aX (bf Q)+aX (rot r<|-x)<=qZ:=by rw[I];change _<=16777216;lia
  have e4:(Q.flatten.map λn=>b8<|bo n)++((rot r<|-x).map bo).map b8=(bf Q++rot r (-x)).map λn=>b8<|bo n:=by rw[mBq,mPq];rfl
  have J:(Q.flatten.map λn=>b8<|bo n)++((rot r<|-x).map λn=>b8<|bo n)=(bf Q++rot r (-x)).map λn=>b8<|bo n:=fQ mBq;have e5:bf (Q++[rot r<|-x])=bf Q++rot r (-x):=by simp
  have e6:((Q++[rot r<|-x]).map dI).map b8=(Q++[rot r<|-x]).map λr=>b8<|dI r:=by rw[mPq];rfl
  have t1:(dI<|rot r<|-x) = d9 ((rot r<|-x).map bo):=rfl;rw[gr];simp! [mb_round_turns_0,Mq,Uk,M,u,kv,t,P,Y,kl,lQ,dM,G,X,s1,H,e6,t1,lE,e4,J,e5]
def Pb(n:Mp rs)(y:e∈bf rs):∃i v7 v8,tW (rH<|pU Qt (oR 6)<|tY qV<|oQ (oR 4) oV) mb_round_turns_0 100000 (Mq rs e (CK rs e) 0 n_ n_)=aK (k4<|Mq rs e (rnd rs e) i v7 v8):=by
 have hl:=n.hl;have(u,z,i,v7,v8,rfl):=yE (c:=rH<|pU Qt (oR 6)<|tY qV<|oQ (oR 4) oV) (body:=mb_round_turns_0)
  (λS=>∃s i v7 v8,S=Mq rs e s i v7 v8/\RI rs e s i/\Og rs (2000-i) i s=rnd rs e)
  (λS=>match S with|[_,_,_,_,_,_,aK (b8 (bo i)),_,_]=>2000-jz i|_=>0)
  (λu=>∃i v7 v8,u=Mq rs e (rnd rs e) i v7 v8) (by
   rintro S ⟨s,i,v7,v8,rfl,h,l⟩;have few:=h.few;have x:=pM<|bf s.1;by_cases r:i<aX s.1.flatten
   .have t:(i:Int)<(aX s.1.flatten:Int):=by lia
    have(B,C,E):=Qi n (v7:=v7) (v8:=v8) h r;show(t_,Mq rs e s i v7 v8,?_,λQ=>(_,E,(_,_,_,_,rfl,h.step n r,?_),?_),λq=>(nomatch q));.simp! [Mq,x,dI,t]
    .rw[show 2000-i=(2000-(i+1))+1 by lia]at l;unfold Og at l;rw[qz r]at l;show l
    .change 2000-jz ((i+1:Nat):Int)<2000-jz (i:Int);lia
   .have t:¬ (i:Int)<(aX s.1.flatten:Int):=by lia
    show(f_,Mq rs e s i v7 v8,?_,λq=>(nomatch q),λQ=>(i,v7,v8,?_));.simp! [Mq,x,dI,t]
    .have:Og rs (2000-i) i s=s:=by cases 2000-i with
      |zero=>rfl
      |succ f=>unfold Og;rw[qE r]
     rw[←l,this]) 100000 (Mq rs e (CK rs e) 0 n_ n_) (_,_,_,_,rfl,HQ n y,rfl) (by change 2000-jz (0:Int)<100000;rfl');show(i,v7,v8,z)
def G9 Q:pE (Uk Q)=dM Q:=by unfold Uk;rw[sV,JS]
structure Nm (nm:Ϝ):Prop where
 len:nm.length<=31
 nd:nm.Nodup
 lo:∀x∈nm,1<=x
structure Wm (nm:Ϝ)(T:Λ):Prop where
 cnt:∃left,∀a,T.flatten.count a+(wA left).count a=(wA nm).count a
 tr:K11.BM T
 pos:0<T.length
 len:T.length<=63
def Ub(h:Nm nm):c9<|wA nm:=K12.BV h.nd h.lo
def RX(l)a:(wA l).count (-a)=(wA l).count a:=by induction l with
 |nil=>rfl
 |cons x l s=>
  rw[GR,GR];rw[show[x, -x]=[x]++[-x]from rfl,cAq,cAq];simp?[gK];have n:(x == -a)=(-x == a):=by rw[bG];simp <;> lia
  have r:(-x == -a)=(x == a):=by rw[bG];simp <;> lia
  rw[n,r];lia
def Wm.neg(hn:Nm nm)(h:Wm nm T)(hz:z∈bf T):-z∈bf T:=by have(left,l):=h.cnt;have h1:=e8 cU hz;have r:=l z;have n:=l<|-z;rw[RX,RX]at n;show cU.mp ∅
abbrev gm:=K12.gm
def sJ T:dg (gm T).flatten<|bf T:=kT (AN<|K12.qv T)<|wR tR T
def EK T:aX (gm T)=aX T:=by rw[ef<|K12.qv T,lMq]
def Ek(rs:Λ):Prop:=∀P:Nat->Prop,(∃s,s<aX rs/\P s)->(∀(p:Nat) (r:Ϝ) x,rs[p]?=aK r->x∈r->P p->P (plc rs<|-x))->∀q,q<aX rs->P q
def HU(n:Mp<|gm T){r:Ϝ}(hr:r∈T):∃p,(gm T)[p]?=aK (good r)/\∀x∈r,plc (gm T) x=p:=by have h1:=e8 (K12.qv T).mem_iff<|e8 mMq (r,hr,rfl);have(p,l):=aj.mp h1;show(p,l,λx s=>plc_eq n.hn l<|e8 (tR r).mem_iff s)
def S4(I:Mp<|gm T)(Q:0<aX T)(tr:aAp T):Ek<|gm T:=by
 intro P (s,R,ps) U q B;by_cases h1:aX T=1
 .rw[EK]at R B;have:q=s:=by lia
  rw[this];show ps
 have x:∀k,k<aX T->∃z,z∈dk T k []:=λk hk=>by
  by_cases n:k=0
  .subst n;have(j,e,C,a,b):=tr 1 (by rfl') ∅;have:j=0:=by lia
   subst this;show(e,a)
  .have(j,e,C,a,b):=tr k ∅ hk;show(_,b)
 have t:∀k,k<aX T->dk T k []∈T:=λk hk=>by rw[gDq,gEg hk];show gRq hk
 have ends:∀k,k<aX T->∀z,z∈dk T k []->z∈bf (gm T):=λk hk z l=>e8 (sJ T).mem_iff<|e8 mFq (_,t k hk,l);have same:∀k,k<aX T->∀z w,z∈dk T k []->w∈dk T k []->P (plc (gm T) z)->P (plc (gm T) w):=λk hk z w l hw H=>by have(p,_,E):=HU I<|t k hk;rw[E w hw];rw[E z l]at H;show H
 have NC:∀z,z∈bf (gm T)->P (plc (gm T) z)->P (plc (gm T)<|-z):=λz l H=>by have(r,hr,X):=I.at l;show U _ r z hr X H
 have G:(∀z,z∈dk T 0 []->P (plc (gm T) z))->∀k,k<aX T->∀z,z∈dk T k []->P (plc (gm T) z):=λh0 k=>by induction k using gP with
  |ind k J=>
   intro hk z l;by_cases n:k=0;.subst n;show h0 z l
   .have(j,e,C,a,b):=tr k ∅ hk;show same k hk _ z b l<|NC e (ends j ∅ e a)<|J j C ∅ e a
 have up:∀k,k<aX T->(∀z,z∈dk T k []->P (plc (gm T) z))->∀z,z∈dk T 0 []->P (plc (gm T) z):=λk=>by induction k using gP with
  |ind k J=>
   intro hk l;by_cases n:k=0;.subst n;show l
   .have(j,e,C,a,b):=tr k ∅ hk;have S:=NC (-e) (ends k hk _ b)<|l _ b;rw[dF]at S;show J j C ∅ λz y=>same j ∅ e z a y S
 have u:∀q,q<aX (gm T)->∃k,k<aX T/\∃z,z∈dk T k []/\plc (gm T) z=q:=λq B=>by
  have hr:=gEg B;have(r,L,e):=mMq.mp<|(K12.qv T).mem_iff.mp<|gRq B;have(k,hk,Y):=cK.mp L;have e3:dk T k []=r:=by rw[gDq,gEg hk,Y];rfl
  have(z,l):=x k hk;show(k,hk,z,l,plc_eq I.hn hr ?_);rw[←e];show(tR r).mem_iff.mpr<|e3 ▸ l
 have(k,hk,z,l,ez):=u s R;have z0:=up k hk λw hw=>same k hk z w l hw<|by rw[ez];show ps
 have(k',M,z',y,O):=u q B;have:=G z0 k' M z' y;rw[O]at this;show this
def DN(B:Mp rs)(C:Ek rs)(E:e∈bf rs):dg (rnd rs e).2 (bD<|aX rs)/\dg (rnd rs e).1.flatten (bf rs):=by
 have h:=Bp B E;have all:∀q,q<aX rs->q∈(rnd rs e).2:=C (λp=>p∈(rnd rs e).2) (by
   have(Q,G):=h.hd;have h1:(rnd rs e).2≠[]:=λz=>by have:=h.ln;rw[G,z]at this;simp at this
   have(p,l,s):=List.exists_cons_of_ne_nil h1;show(p,h.lt p<|by rw[s];simp,by rw[s];simp)) (λp r x hr H s=>by have t:x∈bf (rnd rs e).1:=e8 (eg h.pm)<|e8 bL (p,s,by rw[gDq,hr];show H);have(j,u,I):=cK.mp t;have:=h.cl j u;rw[gDq,gEg u,bB,I]at this;show this);have y:dg (rnd rs e).2<|bD<|aX rs:=by
  rw[df];intro a;by_cases ha:a<aX rs;.have J:=fB.mp h.nd a;have L:=e8 cU<|all a ha;have M:=fB.mp (gH (n:=aX rs)) a;have O:=e8 cU<|e8 bE ha;lia
  .rw[gQ λz=>ha<|h.lt a z,gQ λz=>ha<|bE.mp z]
 show(y,kT h.pm<|kT (y.flatMap_right _) ?_);rw[Ht]
end K31
open K31 renaming gm->k9,rot->lF,sJ->m7,rnd->y0,rot_perm->y7,Og->XP,Bp->XY,Nm->YP,CK->aAr,Bx->aAs,RI->aBc,DN->aBd
namespace K31
open PySem L2 Mr Z Xe Zl
open K12 (Oh RQ)
def Of(st sh a b:Int)(n:Nat):Ϝ:=(bD n).map λk:Nat=>Oh st sh a b k
def Zk{st}(h1:1<=st)(h2:0<=sh)(k:Nat):1<=Oh st sh a b k:=by
 have b1:0<=(a*(k:Int)+b) % 67:=bh _ ⋯;have l1:1*1<=st*((a*(k:Int)+b) % 67+1):=Int.mul_le_mul h1 ∅ ⋯<|by rfl'
 change 1<=st*((a*(k:Int)+b) % 67+1)+sh;omega
def W3{st}(hn:n<=31)(h1:1<=st)(h2:0<=sh)(l:1<=a)(r:a<=66):Nm<|Of st sh a b n:=by
 show(by unfold Of;rw[lMq,bq];rfl',?_,λx h=>?_);.unfold Of;rw[aE,aG];show bp.imp_of_mem (λ{x y} hx hy hne e=>hne<|RQ h1 l r (by have:=bE.mp hx;lia) (by have:=bE.mp hy;lia) e)<|aE.mp gH
 .have(k,_,rfl):=mMq.mp h;show Zk h1 h2 k
end K31
namespace K33
open PySem L2 Mr Z Xe Zl
def rot_at{v:Ϝ}(h:o∉u):lF (u++o::v) o=o::v++u:=by
 have e:(u++o::v).idxOf o=aX u:=by rw[jt,qE h,fu,aU]
 unfold lF;rw[e,jV,iV]
def W8(hn:c9<|a++b)(r:o∈a++b):lF (b++a) o=lF (a++b) o:=by
 have hd:=(nAq.mp hn).2.2;obtain h|h:=mAq.mp r;.have(l,n,rfl,h1):=dW h;have s:o∉b:=λz=>hd o h o z rfl;rw[show b++(l++o::n)=(b++l)++o::n by simp,show(l++o::n)++b=l++o::(n++b) by simp,rot_at<|by simp[s,h1],rot_at h1];simp
 .have(b1,b2,rfl,h1):=dW h;have ha:o∉a:=λz=>hd o z o h rfl;rw[show(b1++o::b2)++a=b1++o::(b2++a) by simp,show a++(b1++o::b2)=(a++b1)++o::b2 by simp,rot_at h1,rot_at<|by simp[ha,h1]];simp
def L4(hn:c9 t)(l:o∈t):lF (good t) o=lF t o:=by
 have e:t.take (qM t<|aX t)++t.drop (qM t<|aX t)=t:=aQ ..;have:=W8 (a:=t.take<|qM t<|aX t) (b:=t.drop<|qM t<|aX t) (by rw[e];show hn)<|by rw[e];show l
 rw[e]at this;show this
theorem LF{f:Int->Int}:∀{l:Ϝ}{x},(∀y∈l,f y=f x->y=x)->(l.map f).idxOf (f x)=l.idxOf x
 | [],x,_=>rfl
 |y::l,x,h=>by
  rw[ax,gR,gR,LF λz n=>h z<|mCo _ n];have e:(f y == f x)=(y == x):=by rw[bG];simp?[beq_iff_eq];show(h y ⋯,λq=>by rw[q])
  rw[e]
def YE(h:∀y∈t,f y=f o->y=o):lF (t.map f) (f o)=(lF t o).map f:=by unfold lF;rw[LF h,mBq,ke,fK]
structure LH (f:Int->Int)(E:Ϝ):Prop where
 odd:∀x∈E,f (-x) = -(f x)
 inj:∀x∈E,∀y∈E,f x=f y->x=y
section
variable {f:Int->Int}{R:Λ}
noncomputable abbrev ren(f:Int->Int)(R:Λ):Λ:=R.map λt=>t.map f
def ue(f)R:bf (ren f R)=R.flatten.map f:=by unfold ren;rw[eN]
theorem Ey:∀{E:Ϝ},c9 E->(∀x∈E,∀y∈E,f x=f y->x=y)->c9 (E.map f)
 | [],_,_=>aW
 |x::E,hn,h=>by have l:=az.mp hn;rw[ax,az];show(λz=>?_,Ey l.2 λa ha b r=>h a (mCo _ ha) b<|mCo _ r);have(y,n,e):=mMq.mp z;have:=h y (mCo _ n) x ⋯ e;show l.1<|this ▸ n
def adi(hn:c9<|bf R)(hl:aX (bf R)<=63)(hr:aX R<=63)(hneg:∀e∈bf R, -e∈bf R):Mp<|k9 R:=by have pf:=m7 R;show(e8 (l8 pf) hn,by rw[ef pf];show hl,by rw[K31.EK];show hr,λe l=>e8 (eg pf)<|hneg e<|pf.mem_iff.mp l)
def Lu(hn:c9<|bf R){t:Ϝ}(ht:t∈R):c9 t:=hn.sublist<|aM ht
def VP(l:Mp<|k9 R){t:Ϝ}(ht:t∈R)(n:o∈t):dk (k9 R) (plc (k9 R) o) []=good t:=by have(p,r,h2):=K31.HU l ht;rw[h2 o n,gDq,r];rfl
def MG(n:Mp<|k9 R){t:Ϝ}(ht:t∈R)(s:x∈t)(u:y∈bf R):plc (k9 R) y=plc (k9 R) x↔y∈t:=by have(p,z,h2):=K31.HU n ht;show(λh=>?_,λh=>by rw[h2 x s,h2 y h]);have(r,hr,l):=n.at<|e8 (m7 R).mem_iff u;simp?[h,h2 x s,z]at hr;cases hr;show(tR t).mem_iff.mp l
structure P4 (f:Int->Int)(R:Λ):Prop where
 m1:Mp<|K31.gm R
 m2:Mp<|K31.gm<|ren f R
 rn:LH f R.flatten
 nd:R.flatten.Nodup
def P4.mem(h:P4 f R)(l:x∈bf R):f x∈bf (ren f R):=by rw[ue];show e8 mMq (x,l,rfl)
def P4.rot(h:P4 f R)(u:o∈R.flatten):K31.rot ((K31.gm<|ren f R).getD (plc (K31.gm<|ren f R)<|f o) []) (f o)=(K31.rot ((K31.gm R).getD (plc (K31.gm R) o) []) o).map f:=by have(t,ht,l):=mFq.mp u;have s:t.map f∈ren f R:=mMq.mpr (t,ht,rfl);have sub:∀y∈t,y∈R.flatten:=λy r=>mFq.mpr (t,ht,r);have n:∀y∈t,∀z∈t,f y=f z->y=z:=λy r z x e=>h.rn.inj y (sub y r) z (sub z x) e;rw[VP h.m1 ht l,VP h.m2 s<|mMq.mpr (o,l,rfl),L4 (Lu h.nd ht) l,L4 (Ey (Lu h.nd ht) n)<|mMq.mpr (o,l,rfl)];show YE λy r e=>n y r o l e
def P4.plc(h:P4 f R)(u:x∈bf R)(n:y∈bf R):aA5 (k9 R) y=aA5 (k9 R) x↔aA5 (k9<|ren f R) (f y)=aA5 (k9<|ren f R) (f x):=by have(t,ht,l):=mFq.mp u;have r:t.map f∈ren f R:=e8 mMq (t,ht,rfl);rw[MG h.m1 ht l n,MG h.m2 r (e8 mMq (x,l,rfl))<|h.mem n];show(λq=>e8 mMq (y,q,rfl),λq=>?_);have(z,s,e):=mMq.mp q;rw[←h.rn.inj z (e8 mFq (t,ht,s)) y n e];show s
def Sim(f:Int->Int)(R:Λ)(s l:List Ϝ×Θ):Prop:=l.1=ren f s.1/\∀x∈bf R,aA5 (k9 R) x∈s.2↔aA5 (k9<|ren f R) (f x)∈l.2
def P4.ini(h:P4 f R)(l:e∈bf R):Sim f R (aAr (k9 R) e)<|aAr (k9<|ren f R)<|f e:=by
 show(?_,λx n=>?_);.change[_]=_;rw[h.rot l];rfl
 .change _∈[_]↔_∈[_];rw[mSq,mSq];show h.plc l n
def P4.step(h:P4 f R)(q:Sim f R s l)(n:o∈bf R):Sim f R (aAs (k9 R) s o)<|aAs (k9<|ren f R) l<|f o:=by
 have(t,r):=q;unfold aAs;by_cases c:aA5 (k9 R) o∈s.2;.rw[qz c,qz<|(r o n).mp c];show(t,r)
 .rw[qE c,qE λz=>c<|e8 (r o n) z];show(?_,λx u=>?_);.change l.1++[_]=ren f (s.1++[_]);rw[h.rot n,t];unfold ren;rw[mBq];rfl
  .change _∈s.2++[_]↔_∈l.2++[_];rw[mAq,mAq,mSq,mSq,r x u,h.plc n u]
theorem P4.go(h:P4 f R):∀n i {s l},aBc (k9 R) e s i->Sim f R s l->(XP (k9<|ren f R) n i l).1=ren f (XP (k9 R) n i s).1
 |0,i,s,l,_,q=>q.1
 |n+1,i,s,l,r,q=>by
  unfold XP;have t:bf l.1=s.1.flatten.map f:=by rw[q.1,ue]
  by_cases c:i<aX s.1.flatten
  .have u:i<aX l.1.flatten:=by rw[t,lMq];show c
   rw[qz c,qz u];have z:dk s.1.flatten i 0∈bf s.1:=by rw[gDq,gEg c];show gRq c
   have x:dk s.1.flatten i 0∈bf R:=(m7 R).mem_iff.mp (r.mem h.m1 z).1;have y:-(dk s.1.flatten i 0)∈bf R:=(m7 R).mem_iff.mp<|h.m1.hneg _ (r.mem h.m1 z).1;have B:-(dk l.1.flatten i 0)=f (-(dk s.1.flatten i 0)):=by rw[h.rn.odd _ x,t,gDq,gMq,gDq,gEg c];rfl
   rw[B];show h.go n (i+1) (r.step h.m1 c)<|h.step q y
  .have u:¬ i<aX l.1.flatten:=by rw[t,lMq];show c
   rw[qE c,qE u];show q.1
def P4.rnd(h:P4 f R)(l:e∈bf R):(y0 (k9<|ren f R)<|f e).1=ren f (y0 (k9 R) e).1:=h.go 2000 0 (K31.HQ h.m1<|e8 (m7 R).mem_iff l)<|h.ini l
def code(Q:Λ):Λ:=Q.map λr=>r.map λx=>(Q.flatten.idxOf<|-x:Int)
def Wt(hr:LH f<|bf Q)(hneg:∀x∈bf Q, -x∈bf Q):code (ren f Q)=code Q:=by unfold code;rw[ue];unfold ren;rw[mPq];show mCq λr n=>?_;change(r.map f).map _=_;rw[mPq];show mCq λx s=>?_;have l:x∈bf Q:=e8 mFq (r,n,s);change(((Q.flatten.map f).idxOf<|-(f x):Nat):Int)=_;rw[←hr.odd x l,LF λy t e=>hr.inj y t (-x) (hneg x l) e]
end
abbrev cR(r:Ϝ):D:=eH<|r.map bo
abbrev cD(c:Λ):D:=eH<|c.map cR
noncomputable def tRow(r:Ϝ):PyData:=pP<|r.map aA8
def agl r:py (cR r)=aK (tRow r):=by change py (eH _)=_;simp?[py,LQ];rfl
def ael(c:Λ):FX (c.map cR)=aK (c.map tRow):=by induction c with
 |nil=>rfl
 |cons r rs l=>change FX (cR r::rs.map cR)=_;simp?[FX,agl,l];rfl
def aer c:py (cD c)=aK (pP<|c.map tRow):=by change py (eH _)=_;simp?[py,ael];rfl
theorem noMix_C:∀rs l:Λ,k8 (rs.map tRow) (l.map tRow)=t_
 | [],[]=>by rfl
 | [],_::_=>by rfl
 |_::_,[]=>by rfl
 |r::rs,t::l=>by simp[k8,tRow,j4,rr r t,noMix_C rs l]
theorem same_C:∀rs l:Λ,k7 (rs.map tRow) (l.map tRow)=decide (rs=l)
 | [],[]=>by rfl
 | [],_::_=>by rfl
 |_::_,[]=>by rfl
 |r::rs,t::l=>by simp?[ax,k7,tRow,g0,sF r t];rw[same_C rs l];by_cases h:r=t <;> simp[h]
noncomputable def GX:Nat->Ϝ->List (pZ×D)
 |_,[]=>[]
 |k,x::l=>%[(ak x:pZ)|bo (k:Int)]::GX (k+1) l
theorem Nc x:∀l k,GX k (l++[x])=GX k l++[%[(ak x:pZ)|bo ((k+aX l:Nat):Int)]]
 | [],k=>by rfl
 |y::l,k=>by change _::GX (k+1) (l++[x])=(_::GX (k+1) l)++_;simp?[Nc x l<|k+1,lCq,show k+1+aX l=k+(aX l+1) by rfl'];rfl
theorem HL:∀l k,(GX k l).map (·.1)=l.map ak
 | [],k=>rfl
 |y::l,k=>by change _::(GX (k+1) l).map (·.1)=_;rw[HL l<|k+1];rfl
def Yi(l)k:aX (GX k l)=aX l:=by have:=congrArg aX<|HL l k;rwa [lMq,lMq]at this
theorem Rh:∀{l}{k},x∈l->e9 (GX k l) (ak x)=aK (bo ((k+l.idxOf x:Nat):Int))
 | [],k,h=>by cases h
 |y::l,k,h=>by
  unfold e9;change((%[(ak y:pZ)|bo (k:Int)]::GX (k+1) l).find? _).map _=_;by_cases c:y=x;.subst c;rw[bW ⋯,fu];rfl
  .rw[bP<|by simp[c]];have:=Rh (l:=l) (k:=k+1)<|sr (ag.mp h) λz=>c<|fQ z;rw[gR,show(y == x)=f_ by simp[c]];change e9 (GX (k+1) l) (ak x)=_;rw[this];change aK (bo ((k+1+l.idxOf x:Nat):Int))=aK (bo ((k+(l.idxOf x+1):Nat):Int));rw[show k+1+l.idxOf x=k+(l.idxOf x+1) by rfl']
def Ee(h:∀x∈r, -x∈E)(hl:aX r<=500000):vn [mA<|GX 0 E,dI r]=aK (b8<|cR<|r.map λx=>(E.idxOf<|-x:Int)):=by
 have key:qJ qi (kSc<|tZ (oR 1)<|Bn vf<|oR 0) [aK<|b8<|mA<|GX 0 E] (r.map bo)=aK (r.map λx=>b8<|bo (E.idxOf<|-x:Int)):=by
  rw[Pv λd=>match d with|bo x=>b8<|bo (E.idxOf<|-x:Int)|_=>b8 kR];.rw[mPq];rfl
  .intro d hd;have(x,l,rfl):=mMq.mp hd;have g:=Rh (k:=0)<|h x l;rw[aU]at g;show([i0 x,aK<|b8<|mA<|GX 0 E],?_);simp! [g]
 have e:(r.map λx=>b8<|bo (E.idxOf<|-x:Int)).map pE=(r.map λx=>(E.idxOf<|-x:Int)).map bo:=by rw[mPq,mPq];rfl
 have lk:aX r<=qZ:=by change _<=16777216;lia
 simp! [vn,DQ,dI,key,lk,e]
def Ih(hn:Q.flatten.Nodup)(hneg:∀x∈Q.flatten, -x∈Q.flatten)(hl:Q.flatten.length<=1000)(I:Q.length<=1000):yp [dM Q]=aK (.sh<|cD<|code Q):=by
 have to:=Lv (rs:=Q) ∅;have z:=pM Q.flatten;have cl:qJ qi (pQ K33.vn<|oU (pD 1)<|oU (pD 0) pJ) [aK<|.sh<|.dict<|GX 0 Q.flatten] (Q.map dI)=aK (Q.map λr=>.sh<|cR<|r.map λx=>(Q.flatten.idxOf<|-x:Int)):=by
  rw[Z.qN λd=>match d with|.list l=>(vn [.dict<|GX 0 Q.flatten,.list l]).getD<|.sh .non|_=>.sh .non]
  .rw[mPq];show congrArg aK<|mCq λr hr=>?_;have tc:=Ee (E:=Q.flatten) (r:=r) (λx n=>hneg x<|mFq.mpr (r,hr,n))<|by have:=cY.length_le<|aM hr;lia
   change(vn [.dict<|GX 0 Q.flatten,dI r]).getD (.sh .non)=_;rw[tc];rfl
  .intro d hd;have(r,hr,rfl):=mMq.mp hd;have tc:=Ee (E:=Q.flatten) (r:=r) (λx n=>hneg x<|mFq.mpr (r,hr,n))<|by have:=cY.length_le<|aM hr;lia
   show([aK<|.sh<|dI r,aK<|.sh<|.dict<|GX 0 Q.flatten],?_);simp! [tc,bB]
 have(J,e,t,u,rfl):=Qz (x:=2) (y:=3) (k:=0) (body:=AM) (λi S=>∃t u,S=[aK<|.sh<|dM Q,aK<|.owd<|GX 0<|Q.flatten.take i,t,u]) (ds:=Q.flatten.map D.int) (S:=[aK<|.sh<|dM Q,aK<|.owd [],n_,n_]) (n_,n_,rfl) (by
  rintro i d S hd ⟨t,u,rfl⟩;rw[aU];rw[gMq]at hd;have(x,n,rfl):=oMq.mp hd;have L:i<Q.flatten.length:=(gSq.mp n).1;have B:(GX 0<|Q.flatten.take i).length<qZ:=by rw[Yi,lTq];change _<16777216;lia
  have s:xj (GX 0<|Q.flatten.take i) (.inl x) (.int (i:Int))=GX 0 (Q.flatten.take<|i+1):=by
   rw[yQ];.rw[qh n,Nc,lTq,dY<|by rfl',aU]
   .rw[HL];intro m;have(y,C,G):=mMq.mp m;cases G;have:=hn.sublist<|cO (i+1) Q.flatten;rw[qh n]at this;show(nAq.mp this).2.2 _ C _ ⋯ rfl
  show(_,?_,i0 (i:Int),i0 x,rfl);simp! [AM,B,s]);rw[lMq,aU,aS]at e;have st:(Q.map λr=>AV.sh<|cR<|r.map λx=>(Q.flatten.idxOf<|-x:Int)).map pE=(code Q).map cR:=by unfold code;rw[mPq,mPq];rfl
 have H:Q.length<=qZ:=by change _<=16777216;lia
 simp! [yp,HA,to,z,dI,e,dM,cl,H,st]
theorem Ii{rs:Λ}(hn:c9<|bf rs):∀{ps:Θ},c9 ps->(∀p∈ps,p<aX rs)->c9 (ps.flatMap λp=>dk rs p [])
 | [],_,_=>aW
 |p::ps,hp,hl=>by
  have n:=az.mp hp;have row:∀q,q<aX rs->rs[q]?=aK (dk rs q []):=λq l=>by rw[gDq,gEg l];rfl
  rw[bN,nAq];show(Lu hn<|mGq<|row p<|hl p ⋯,Ii hn n.2 λq l=>hl q<|by simp[l],λa ha b r e=>?_);subst e;have(q,l,r):=bL.mp r;have:=same_place hn (row p<|hl p ⋯) (row q<|hl q<|by simp[l]) ha r;show n.1<|this ▸ l
def Wh(l:Mp rs)(n:e∈bf rs):c9 (y0 rs e).1.flatten:=by have h:=XY l n;show e8 (l8 h.pm)<|Ii l.hn h.nd h.lt
def El(l:Mp rs)(y:e∈bf rs):∀x∈bf (y0 rs e).1, -x∈bf (y0 rs e).1:=λx s=>by have h:=XY l y;have(j,t,z):=cK.mp s;have u:=h.cl j t;rw[gDq,gEg t,bB,z]at u;have(r,hr,n):=l.at<|l.hneg x (h.mem l s).1;show e8 (eg h.pm)<|e8 bL (_,u,?_);rw[gDq,hr];show n
end K33
open K33 renaming code->m5,ue->tU,El->aBf
namespace K51
open PySem L2 Mr Z Xe Zl
noncomputable def rot(r:Ϝ):Ϝ:=r.drop 1++r.take 1
def uw(r:Ϝ):List<|pZ×Int:=(ph r<|rot r).map λp=>%[ak p.1|p.2]
def rR(rs:Λ):List<|pZ×Int:=bf<|rs.map uw
noncomputable def Cf(ps:List<|pZ×Int):List<|pZ×D:=ps.map λp=>%[p.1|bo p.2]
def rot_len r:aX (rot r)=aX r:=by unfold rot;rw[lAq,aL,lTq];lia
def rot_perm r:dg (rot r) r:=by show kT dR ?_;rw[aQ]
def By r:aX (uw r)=aX r:=by unfold uw;rw[lMq,eZ,rot_len,jn]
def D0 r:(uw r).map (·.1)=r.map ak:=by
 unfold uw;rw[mPq];have:r.map ak=((ph r<|rot r).map ko).map (ak:Int->pZ):=by rw[List.map_fst_zip<|by rw[rot_len];show ab _]
 rw[this,mPq];rfl
def JX r:(uw r).map (·.2)=rot r:=by
 unfold uw;rw[mPq];have:rot r=(ph r<|rot r).map kr:=by rw[jI<|by rw[rot_len];show ab _]
 show fQ this
theorem uO:∀rs,(rR rs).map (·.1)=rs.flatten.map ak
 | []=>rfl
 |r::rs=>by change(uw r++rR rs).map (·.1)=_;simp?[mBq,D0,uO rs,fCq,mBq]
theorem Dc:∀rs,dg ((rR rs).map (·.2))<|bf rs
 | []=>.nil
 |r::rs=>by change((uw r++rR rs).map (·.2)).Perm _;rw[mBq,JX];show(rot_perm r).append<|Dc rs
def T5 rs:aX (rR rs)=aX (bf rs):=by have:=congrArg aX<|uO rs;rwa [lMq,lMq]at this
def OR(rs)r:rR (rs++[r])=rR rs++uw r:=by unfold rR;simp
def YB ps:aX (Cf ps)=aX ps:=lMq _
def Z4 a b:Cf (a++b)=Cf a++Cf b:=mBq
def XA ps:(Cf ps).map (·.1)=ps.map (·.1):=by unfold Cf;rw[mPq];rfl
def Do{j:Nat}(h:r[j]?=aK z)(h2:(rot r)[j]?=aK y):(uw r)[j]?=aK %[ak z|y]:=by unfold uw;rw[gMq,bY (z:=%[z|y]).mpr (h,h2)];rfl
def V3{rs:Λ}{r:Ϝ}(hn:c9<|bf rs)(hr:rs[i]?=aK r)(hz:r[j]?=aK z)(u:(rot r)[j]?=aK y) :
  xj (Cf<|rR (rs.take i)++(uw r).take j) (ak z) (bo y)=Cf (rR (rs.take i)++(uw r).take (j+1)):=by
 have n:=sW hr;have l:c9<|bf (rs.take i)++r:=by
  rw[←n];have B:bf rs=bf (rs.take<|i+1)++bf (rs.drop<|i+1):=by rw[←fAq,aQ]
  rw[B]at hn;show(nAq.mp hn).1
 rw[yQ];.rw[qh<|Do hz u,←bg,Z4 (_++_) [_]];rfl
 .rw[XA,mBq,uO,fK,D0,←fK];intro m;obtain m|m:=mAq.mp m;.have(x,s,t):=mMq.mp m;cases t;show(nAq.mp l).2.2 _ s _ (mGq hz) rfl
  .have(x,s,t):=mMq.mp m;cases t;have:=bp.sublist (cO (j+1) r) (nAq.mp l).2.1;rw[qh hz]at this;show(nAq.mp this).2.2 _ s _ ⋯ rfl
def T7{rs:Λ}{r:Ϝ}(hl:aX (bf rs)<=1000)(hr:rs[i]?=aK r):aX (Cf<|rR (rs.take i)++(uw r).take j)<qZ:=by have h1:=vV rs<|i+1;rw[sW hr,lAq]at h1;simp?[YB,lAq,T5,lTq,By];lia
end K51
open K51 renaming rR->i9,Cf->kg,uO->aAt
namespace K15
open PySem L2 Mr Z Xe Zl
def yO(hn:c9 (ps.map (·.1)))(h:%[k|n]∈ps):e9 (kg ps) k=aK (bo n):=by induction ps with
 |nil=>cases h
 |cons p ps l=>
  rw[ax,az]at hn;change((%[p.1|bo p.2]::kg ps).find? _).map _=_;obtain e|e:=ag.mp h;.rw[←e,bW ⋯];rfl
  .rw[bP (by
    intro z;have r:=by simpa using z
    show hn.1<|by rw[r];show e8 mMq (_,e,rfl))];show l hn.2 e
def VA{ps:List<|pZ×Int}(hn:c9 (ps.map (·.2)))(h:%[k|n]∈ps)(s:%[r|n]∈ps):k=r:=by induction ps with
 |nil=>cases h
 |cons p ps t=>
  rw[ax,az]at hn;obtain e|e:=ag.mp h
  .obtain l|l:=ag.mp s;.rw[←e]at l;show(congrArg ko l).symm
   .show absurd (e8 mMq (_,l,by rw[←e])) hn.1
  .obtain l|l:=ag.mp s;.show absurd (e8 mMq (_,e,by rw[←l])) hn.1
   .show t hn.2 e l
def nx(rs:Λ)(e:Int):Int:=match e9 (kg<|i9 rs) (ak e)with
 |aK (bo n)=>n
 |_=>0
def fw(rs:Λ)(e:Int):Int:=nx rs<|-e
def Gu(hn:c9<|bf rs):c9 ((i9 rs).map (·.1)):=by rw[aAt,aE,aG];show bp.imp (λh e=>h<|ak.inj e)<|aE.mp hn
def Gh(hn:c9<|bf rs)(r:e∈bf rs):%[ak e|nx rs e]∈i9 rs:=by
 have hk:(ak e)∈(i9 rs).map (·.1):=by rw[aAt];show e8 mMq (e,r,rfl)
 have((k,n),l,rfl):=mMq.mp hk;have:=yO (Gu hn) l;unfold nx;rw[this];show l
def KU(hn:c9<|bf rs)(l:e∈bf rs):e9 (kg<|i9 rs) (ak e)=aK (bo<|nx rs e):=yO (Gu hn)<|Gh hn l
def EY(hn:c9<|bf rs)(l:e∈bf rs):nx rs e∈bf rs:=(K51.Dc rs).mem_iff.mp<|e8 mMq (_,Gh hn l,rfl)
def aco(hn:c9<|bf rs)(ha:a∈bf rs)(l:b∈bf rs)(h:nx rs a=nx rs b):a=b:=by have h1:=Gh hn ha;have h2:=Gh hn l;rw[h]at h1;show ak.inj<|VA ((K51.Dc rs).symm.nodup hn) h1 h2
def aai rs:(kg<|i9 rs).map (λp=>kD p.1)=rs.flatten.map bo:=by
 have:(kg<|i9 rs).map (λp=>kD p.1)=((i9 rs).map (·.1)).map kD:=by unfold kg;rw[mPq,mPq];rfl
 rw[this,aAt,mPq];rfl
noncomputable def kI(ks:Ϝ):List<|pZ×D:=ks.map λk=>%[(ak k:pZ)|fb t_]
def XC(ks)t:(kI ks).any (λkv=>decide<|kv.1=(ak t:pZ))=decide (t∈ks):=by induction ks with
 |nil=>rfl
 |cons k ks l=>
  unfold kI at l ⊢;simp?[ax,fH,l];by_cases h:t=k;.subst h;simp
  .have n:¬ (ak k:pZ)=ak t:=λq=>h<|fQ<|ak.inj q;simp[n,h]
def UQ(ks)t:j3 (e9 (kI ks)<|ak t)=decide (t∈ks):=by unfold e9;rw[dZ,←XC,bG,gh,cW]
def XQ(h:t∉ks):xj (kI ks) (ak t) (fb t_)=kI (ks++[t]):=by unfold xj;rw[XC,d8 h];simp[kI]
def Wp ks:aX (kI ks)=aX ks:=by unfold kI;rw[lMq]
structure Rd (f:Int->Int)(E:Ϝ)(kn:Ϝ)(L:Λ):Prop where
 cy:∀l∈L,∃e,Cy f e l
 fl:L.flatten=kn
 nd:kn.Nodup
 sub:∀x∈kn,x∈E
 cl:∀x∈kn,f x∈kn
theorem Rd.itr(h:Rd f E kn L)(l:x∈kn):∀n,itr f n x∈kn
 |0=>l
 |n+1=>h.cl _<|h.itr l n
def Rd.out(h:Rd f E kn L)(c:Cy f e l)(s:e∉kn):∀x∈l,x∉kn:=by intro x t hk;have(j,n):=aj.mp t;have r:=(gSq.mp n).1;rw[c.at r]at n;have u:=aK.inj n;subst u;have:=h.itr hk<|aX l-j;rw[←AR,show aX l-j+j=aX l by lia,c.back]at this;show s this
def Rd.add(hf:Oi f E)(h:Rd f E kn L)(c:Cy f e l)(r:e∈E)(z:e∉kn):Rd f E (kn++l)<|L++[l]:=by
 have B:=h.out c z;show(λm C=>?_,by rw[fAq,h.fl,aB],?_,λx s=>?_,λx s=>?_)
 .obtain q|q:=mAq.mp C;.show h.cy m q
  .rw[mSq.mp q];show(e,c)
 .rw[nAq];show(h.nd,c.nd,λa ha b G q=>B b G<|q ▸ ha)
 .obtain q|q:=mAq.mp s;.show h.sub x q
  .rw[c.get]at q;have(n,_,rfl):=mMq.mp q;show hf.itr_mem r n
 .obtain q|q:=mAq.mp s;.show e8 mAq<|jB<|h.cl x q
  .show e8 mAq<|ir ?_;have(j,t):=aj.mp q;have u:=(gSq.mp t).1;rw[c.at u]at t;rw[←aK.inj t];change Zl.itr f (j+1) e∈l;by_cases y:j+1<aX l;.show mGq<|c.at y
   .rw[show j+1=aX l by rfl',c.back];show c.self
def Rd.orb(h:Rd f E kn L)(l:∀x∈E,x∈kn):SJ f E L:=(h.cy,by rw[h.fl];show h.nd,λx=>by rw[h.fl];show(h.sub x,l x))
def rot_at(l:j<aX r):(K51.rot r)[j]?=r[(j+1) % aX r]?:=by
 unfold K51.rot;by_cases h:j+1<aX r;.rw[eO h,gZq<|by rw[aL];omega,eW,gc]
 .have e:j+1=aX r:=by rfl'
  rw[e,iN,gYq<|by rw[aL];omega,aL,eD<|by omega];congr 1;lia
def CH(t:Mp rs):vB [dM rs]=aK (eu<|kg<|i9 rs):=by have hn:=t.hn;have hl:=t.hl;have key:=uL (x:=2) (body:=AE) (λi S=>∃u l,S=[aK<|b8<|dM rs,aK<|eu<|kg<|i9<|rs.take i,u,l]) (ds:=rs.map dI) (S:=[aK<|b8<|dM rs,aK<|eu [],n_,n_]) (n_,n_,rfl) (by
  rintro i d S hd ⟨u,l,rfl⟩;have(r,hr,rfl):=Gg hd;have E:=t.row hr;have G:=uL (x:=3) (body:=AF) (λj S=>∃l,S=[aK<|b8<|dM rs,aK<|eu<|kg<|i9 (rs.take i)++(K51.uw r).take j,aK<|b8<|dI r,l]) (ds:=qD 0<|aX r) (S:=[aK<|b8<|dM rs,aK<|eu<|kg<|i9<|rs.take i,aK<|b8<|dI r,l]) (l,by simp) (by
   rintro j d S hd ⟨l,rfl⟩;have y:j<aX r:=by have:=(gSq.mp hd).1;rwa [qp]at this
   rw[AA y,iH]at hd;cases hd;have B:r[j]?=aK r[j]:=gEg y;have n:(j+1) % aX r<aX r:=fP _ ∅;have H:(K51.rot r)[j]?=aK r[(j+1) % aX r]:=by rw[rot_at y];show gEg n
   have I:=K51.T7 (j:=j) (bH hl ⋯) hr;have s:=K51.V3 hn hr B H;have J:atI (r.map bo) (j:Int)=aK (bo r[j]):=vd<|by rw[gMq,B];rfl
   have C:=sG (i:=(j)+1) (j:=(aX r)) ∅;have em:((j:Int)+1) % (aX r)=(((j+1) % aX r:Nat)):=by rfl
   rw[em]at C;have L:atI (r.map bo) (((j+1) % aX r:Nat))=aK (bo r[(j+1) % aX r]):=vd<|by rw[gMq,gEg n];rfl
   show(_,?_,i0<|j,rfl);simp! [AF,dI,J,C,L,I,s]);have(P,z,M,rfl):=G;rw[qp,←K51.By,aS]at z;have O:ET [bo<|aX r]=aK (qD 0<|aX r):=vX ∅;rw[K51.By]at z;show(_,?_,aK<|b8<|dI r,M,rfl);rw[qh hr,K51.OR];simp! [AE,dI,O,z]);have(Q,e,u,l,rfl):=key;rw[lMq,aS]at e;simp! [vB,Ij,e]
end K15
open K15 renaming nx->l4,EY->aBe
namespace K32
open PySem L2 Mr Z Xe Zl
structure RH (rs:Λ)(Q:Λ):Prop where
 row:∀q∈Q,∃r o,r∈rs/\o∈r/\q=K31.rot r o
 ord:∀i,0<i->i<Q.length->∃t x,t<(Q.take i).flatten.length/\Q.flatten[t]?=aK x/\(Q.getD i [])[0]?=aK (-x)/\-x∉(Q.take i).flatten/\∀j y,j<t->Q.flatten[j]?=aK y->-y∈(Q.take i).flatten
def Mm(l:o∈r):(lF r o)[0]?=aK o:=by have(u,v,rfl,h1):=dW l;rw[K33.rot_at h1];rfl
def HE(l:Mp rs)(n:o∈bf rs):dk rs (plc rs o) []∈rs/\o∈dk rs (plc rs o) []:=by have(r,hr,h):=l.at n;rw[gDq,hr];show(mGq hr,h)
def TB(Q:Λ)i:bf Q=bf (Q.take i)++bf (Q.drop i):=by rw[←fAq,aQ]
def ZL(l:Mp rs)(h:aBc rs e s i)(hz:z∈bf rs)(n:plc rs z∈s.2):z∈bf s.1:=e8 (eg h.pm)<|e8 bL (_,n,(HE l hz).2)
def RH.step(l:Mp rs)(h:aBc rs e s i)(g:RH rs s.1)(r:i<aX s.1.flatten):RH rs (aAs rs s<|-(dk s.1.flatten i 0)).1:=by
 have H:dk s.1.flatten i 0∈bf s.1:=by rw[gDq,gEg r];show gRq r
 have B:(bf s.1)[i]?=aK (dk s.1.flatten i 0):=by rw[gDq,gEg r];rfl
 have(m1,m2):=h.mem l H;have hn:=l.hneg _ m1;unfold aAs;split;.show g
 .rename_i q;have(I,E):=HE l hn;show(λJ u=>?_,λk h0 hk=>?_)
  .obtain u|u:=mAq.mp u;.show g.row J u
   .rw[mSq.mp u];show(_,_,I,E,rfl)
  .simp?[lAq,lSq]at hk;simp?[fAq,aB];by_cases c:k<aX s.1
   .have(t,x,L,G,M,O,P):=g.ord k h0 c;have Q:(s.1++[lF (dk rs (plc rs<|-(dk s.1.flatten i 0)) [])<|-(dk s.1.flatten i 0)]).take k=s.1.take k:=gN<|by rfl'
    have lt:t<aX s.1.flatten:=(gSq.mp G).1;rw[Q];show(t,x,L,by rw[gZq lt];show G,?_,O,λj y C n=>P j y C ?_);.rw[gDq,gZq c,←gDq];show M
    .rw[gZq ∅]at n;show n
   .have:k=aX s.1:=by lia
    subst this;rw[iV];show(i,_,r,by rw[gZq r];show B,?_,λz=>q (h.mem l z).2,λj y C n=>?_);.rw[gDq,gYq<|ab _,eU];show Mm E
    .rw[gZq ∅]at n;have R:=(gSq.mp n).1;have:=h.cl j C;rw[gDq,n,bB]at this;show ZL l h (l.hneg _ (h.mem l<|mGq n).1) this
theorem aas(l:Mp rs):∀f {i}{s},aBc rs e s i->RH rs s.1->RH rs (XP rs f i s).1
 |0,i,s,_,g=>g
 |f+1,i,s,h,g=>by
  unfold XP;split;.rename_i q;show aas l f (h.step l q)<|g.step l h q
  .show g
def Ol(l:Mp rs)(n:e∈bf rs):RH rs (y0 rs e).1:=aas l 2000 (K31.HQ l n) (by
 have(s,t):=HE l n;show(λq r=>?_,λk h0 hk=>?_);.rw[show(aAr rs e).1=[lF (dk rs (plc rs e) []) e]from rfl,mSq]at r;show(_,_,s,t,r)
 .rw[show(aX (aAr rs e).1)=1 from rfl]at hk;lia)
theorem Qv(n:Mp rs)(S:Int->Prop)(h1:∀r∈rs,∀x∈r,S x->∀y∈r,S y)(h2:∀x∈bf rs,S x->S (-x)):∀f {i}{s},aBc rs e s i->(∀x∈bf s.1,S x)->∀x∈bf (XP rs f i s).1,S x
 |0,i,s,_,g=>g
 |f+1,i,s,h,g=>by
  unfold XP;split
  .rename_i q;show Qv n S h1 h2 f (h.step n q) ?_;have t:dk s.1.flatten i 0∈bf s.1:=by rw[gDq,gEg q];show gRq q
   have(m1,m2):=h.mem n t;have(u,z):=HE n<|n.hneg _ m1;unfold aAs;split;.show g
   .intro y l;simp?[fAq,aB]at l;obtain l|l:=mAq.mp l;.show g y l
    .show h1 _ u _ z (h2 _ m1<|g _ t) y<|(y7 _ _).mem_iff.mp l
  .show g
def Xj(l:Mp rs)(n:e∈bf rs)(S:Int->Prop)(h1:∀r∈rs,∀x∈r,S x->∀y∈r,S y)(h2:∀x∈bf rs,S x->S (-x))(h0:S e):∀x∈bf (y0 rs e).1,S x:=Qv l S h1 h2 2000 (K31.HQ l n)<|by have(t,u):=HE l n;intro x s;rw[show(bf (aAr rs e).1)=lF (dk rs (plc rs e) []) e by simp[aAr]]at s;show h1 _ t _ u h0 x<|(y7 _ _).mem_iff.mp s
def nx_at(hn:c9<|bf rs){r:Ϝ}(hr:r∈rs)(hz:r[j]?=aK z)(l:r[(j+1) % aX r]?=aK y):l4 rs z=y:=by
 have n:=(gSq.mp hz).1;have h1:=K51.Do hz<|eI (K15.rot_at n) l;have h2:%[ak z|y]∈i9 rs:=by unfold i9;show e8 mFq (_,e8 mMq (r,hr,rfl),mGq h1)
 have s:=K15.yO (K15.Gu hn) h2;unfold l4;rw[s]
def Rk{r:Ϝ}(hk:k<aX r)(l:j<aX r):(r.drop k++r.take k)[j]?=r[(k+j) % aX r]?:=by
 by_cases c:k+j<aX r;.rw[gZq<|by rw[aL];lia,eW,eO c]
 .rw[gYq<|by rw[aL];lia,aL,eD ∅];have:(k+j) % aX r=j-(aX r-k):=by rw[Nat.mod_eq_sub_mod<|by rfl',eO<|by omega];lia
  rw[this]
def LC(hn:c9<|bf rs){r:Ϝ}(hr:r∈rs)(s:o∈r)(hz:(lF r o)[j]?=aK z)(l:(lF r o)[(j+1) % aX (lF r o)]?=aK y):l4 rs z=y:=by
 have hl:=K31.rot_len r o;have n:=(gSq.mp hz).1;rw[hl]at n l;have hk:r.idxOf o<aX r:=e8 eE s;have t:0<aX r:=by lia
 unfold lF at hz l;rw[Rk hk n]at hz;rw[Rk hk<|fP _ t]at l;show nx_at hn hr hz ?_;have:((r.idxOf o+j) % aX r+1) % aX r=(r.idxOf o+(j+1) % aX r) % aX r:=by rw[iS,Nat.add_mod_mod];rfl
 rw[this];show l
def Io{Q:Λ}{q:Ϝ}(h:Q[i]?=aK q):bf (Q.take<|i+1)=bf (Q.take i)++q:=sW h
def DW{Q:Λ}{q:Ϝ}(h:Q[i]?=aK q)(hk:k<aX q):(bf Q)[aX (Q.take i).flatten+k]?=q[k]?:=by rw[TB Q<|i+1,Io h,bg,gYq<|by rfl',Nat.add_sub_cancel_left,gZq hk]
end K32
open K32 renaming nx_at->FS
namespace K16
open PySem L2 Mr Z Xe Zl
def Rt(h:0<j)(h2:j.natAbs.log2<9000):Ur (bo i) (bo j)=aK (bo<|i / j):=xy (h,h2) _
def aaF:NW (bo 10) (bo 57)=aK (bo<|10 ^ 57):=by simp! []
noncomputable def pm(l:Ϝ):Ϝ:=l.flatMap λx=>[x, -x]
def QM(l)x:pm (l++[x])=pm l++[x, -x]:=by unfold pm;rw[dO];rfl
def Lx l:aX (pm l)=2*aX l:=by unfold pm;induction l with
 |nil=>rfl
 |cons a l n=>rw[bN,lAq,n,lCq (as:=l)];change 2+_=_;rfl'
def XW(h:z∈pm l):-z∈pm l:=by
 unfold pm at h ⊢;rw[bL]at h ⊢;have(x,n,r):=h;show(x,n,?_);obtain e|e:=ag.mp r;.rw[e];simp
 .rw[mSq.mp e,dF];simp
noncomputable def kvI(M:List<|Int×Int):List<|pZ×D:=M.map λp=>%[ak p.1|bo p.2]
def RD M:kvI M=kg (M.map λp=>%[(ak p.1:pZ)|p.2]):=by unfold kvI kg;rw[mPq];rfl
def M9(h:z∉M.map (·.1)):xj (kvI M) (ak z) (bo x)=kvI (M++[%[z|x]]):=by
 rw[yQ];.unfold kvI;rw[mBq];rfl
 .intro m;have(p,l,n):=mMq.mp m;have(q,r,rfl):=mMq.mp l;show h<|e8 mMq (q,r,ak.inj n)
theorem Fg{α β:Type}(f:α->β):∀(l:List α) k,fC (l.map f) k=(fC l k).map f
 | [],_=>rfl
 |a::l,0=>rfl
 |a::l,k+1=>by simp?[ax,cG,cG,ax,Fg f l k]
def aek(k)b S:acC k b S=cc (k S) λx=>cc (b x.2) λy=>match x.1,y.1 with
 | b8 (eH l),bo i=>(L2.atI l i).map λd=>%[b8 d|y.2]
 |_,_=>n_:=rfl
end K16
namespace K16
open PySem L2 Mr Z Xe Zl K15
def nx_at(hn:c9<|bf rs){r:Ϝ}(hr:r∈rs)(hz:r[j]?=aK z)(l:r[(j+1) % aX r]?=aK y):nx rs z=y:=by
 have n:=(gSq.mp hz).1;have h1:=K51.Do hz<|eI (rot_at n) l;have h2:%[ak z|y]∈i9 rs:=by unfold i9;show e8 mFq (_,e8 mMq (r,hr,rfl),mGq h1)
 have s:=yO (Gu hn) h2;unfold nx;rw[s]
theorem QB(hn:c9<|bf rs){r:Ϝ}(hr:r∈rs)(h0:r[0]?=aK e):∀n,r[n % aX r]?=aK (itr (nx rs) n e)
 |0=>by show h0
 |n+1=>by
  have t:=(gSq.mp h0).1;have u:=QB hn hr h0 n;have x:(n+1) % aX r<aX r:=fP _ t;have l:(n % aX r+1) % aX r=(n+1) % aX r:=by rw[iS]
  obtain⟨y,s⟩:∃y,r[(n+1) % aX r]?=aK y:=(_,gEg x);have:=nx_at hn hr u<|l ▸ s;rw[s,←this];rfl
def Wl(hn:c9<|bf rs){r:Ϝ}(hr:r∈rs)(h0:r[0]?=aK e):Cy (nx rs) e r:=by
 have s:=(gSq.mp h0).1;have l:=QB hn hr h0;show(s,?_,?_,bp.sublist (aM hr) hn)
 .show cC λi=>?_;rw[gMq];by_cases n:i<aX r;.rw[dN n,bJ,←l i,eO n]
  .rw[aR ∅,aR<|by rw[bq];lia];rfl
 .have:=l<|aX r;rw[iN,h0]at this;show(aK.inj this).symm
noncomputable def ne(rs:Λ):Λ:=rs.filter λr=>!decide (r=[])
theorem Gd:∀rs:Λ,bf (ne rs)=bf rs
 | []=>rfl
 | []::rs=>Gd rs
 | (x::r)::rs=>by change(bf<|(x::r)::ne rs)=_;simp?[fCq,fCq,Gd rs]
def aaT{r:Ϝ}:r∈ne rs↔r∈rs/\r≠[]:=by unfold ne;simp
def NF(hn:c9<|bf rs):SJ (nx rs) (bf rs)<|ne rs:=by show(λl hl=>?_,by rw[Gd];show hn,λx=>by rw[Gd]);have(h1,h2):=aaT.mp hl;cases l with
 |nil=>show absurd rfl h2
 |cons x l=>show(x,Wl hn h1 rfl)
def Wn(hn:c9<|bf rs):Oi (nx rs)<|bf rs:=(hn,λe l=>EY hn l,λa ha b n h=>aco hn ha n h)
def aeE(hn:c9<|bf rs)(h:∀l∈rs,l=[]∨∃e,Cy f e l)(u:x∈bf rs):nx rs x=f x:=by
 have(l,hl,n):=mFq.mp u;obtain rfl|⟨e,c⟩:=h l hl;.cases n
 .have(j,r):=aj.mp n;have s:=(gSq.mp r).1;have t:=c.at s;rw[r]at t;have y:=aK.inj t;show nx_at hn hl r ?_;rw[y];change _=aK (itr f (j+1) e);by_cases q:j+1<aX l;.rw[eO q];show c.at q
  .have z:j+1=aX l:=by rfl'
   rw[z,iN,c.back];show c.at ∅
theorem JJ(hf:Oi f E)(h:∀x∈E,f x=g x)(l:e∈E):∀n,itr f n e=itr g n e
 |0=>rfl
 |n+1=>by change f (itr f n e)=g (itr g n e);rw[h _<|hf.itr_mem l n,JJ hf h l n]
def Wy(hf:Oi f E)(h:∀x∈E,f x=g x)(s:e∈E)(c:Cy f e l):Cy g e l:=by have r:=JJ hf h s;show(c.len,?_,by rw[←r];show c.back,c.nd);rw[←mCq λn Q=>r n];show c.get
def Sd(hf:Oi f E)(h:∀x∈E,f x=g x)(n:∀x,x∈E↔x∈E')(o:SJ f E L):SJ g E' L:=by show(λl hl=>?_,o.dj,λx=>(o.all x).trans<|n x);have(e,c):=o.cy l hl;show(e,Wy hf h ((o.all e).mp<|e8 mFq (l,hl,c.self)) c)
def ZE(c:Cy f e l):∃n,Cy f n<|good l:=by
 unfold good;by_cases h:qM l (aX l)<aX l;.show(_,c.rot h)
 .show(e,?_);unfold Mr.rot;rw[bU ∅,bV ∅];show c
end K16
namespace K19
open PySem L2 Mr Z Xe Zl K15 K16
def aet(h0:l[0]?=aK e)(B:∀j z y,l[j]?=aK z->l[(j+1) % aX l]?=aK y->f z=y)(hn:c9 l):Cy f e l:=by
 have s:=(gSq.mp h0).1;have t:∀n,l[n % aX l]?=aK (itr f n e):=λn=>by induction n with
  |zero=>show h0
  |succ n C=>
   have E:(n+1) % aX l<aX l:=fP _ s;have r:(n % aX l+1) % aX l=(n+1) % aX l:=by rw[iS]
   obtain⟨y,u⟩:∃y,l[(n+1) % aX l]?=aK y:=(_,gEg E);have q:=B _ _ _ C<|r ▸ u;rw[u];show congrArg aK<|fQ q
 show(s,?_,?_,hn)
 .show cC λi=>?_;rw[gMq];by_cases x:i<aX l;.rw[dN x,bJ,←t i,eO x]
  .rw[aR ∅,aR<|by rw[bq];lia];rfl
 .have:=t<|aX l;rw[iN,h0]at this;show(aK.inj this).symm
end K19
namespace K34
open PySem L2 Mr Z Xe Zl
def af1(h:Mp rs):K51.Mp rs:=(h.hn,h.hl,h.hr,h.hneg)
def Jl(cs:List Λ):((cs.map dC).map b8).map pE=cs.map dC:=by rw[mPq,mPq];show mCq λQ Q=>rfl
end K34
namespace K39
open PySem L2 Mr Z Xe Zl
structure Au (G:Λ)(f:Int->Int):Prop where
 mem:∀x∈G.flatten,f x∈G.flatten
 odd:∀x∈G.flatten,f (-x) = -(f x)
 nx:∀x∈G.flatten,f (K15.nx G x)=K15.nx G (f x)
def aaO(l:Mp G){r:Ϝ}(hr:r∈G)(n:x∈r):Cy (l4 G) x<|lF r x:=K19.aet (K32.Mm n) (λj z y s t=>K32.LC l.hn hr n s t)<|e8 (y7 r x).nodup_iff<|K33.Lu l.hn hr
def aa9(c:Cy g e l)(h:y∈l):∃n,n<aX l/\y=itr g n e:=by rw[c.get]at h;have(n,hn,rfl):=mMq.mp h;show(n,bE.mp hn,rfl)
def Xt(l:Mp G)(E:K31.Ek G)(S:Int->Prop)(B:s∈bf G)(h0:S s)(h1:∀x∈bf G,S x->S (-x))(h2:∀x∈bf G,S x->S (l4 G x)):∀x∈bf G,S x:=λx t=>by
 show K32.Xj l B S (λr hr x t H y C=>?_) h1 h0 x<|e8 (aBd l E B).2.mem_iff t;have(n,hn,rfl):=aa9 (aaO l hr t)<|e8 (y7 r x).mem_iff C;clear C hn;have u:x∈bf G:=e8 mFq (r,hr,t);have key:itr (l4 G) n x∈bf G/\S (itr (l4 G) n x):=by induction n with
  |zero=>show(u,H)
  |succ n z=>show(aBe l.hn z.1,h2 _ z.1 z.2)
 show key.2
def Pj{Q R:Λ}(h:Q.map aX=R.map aX)a:aX (Q.take a).flatten=aX (R.take a).flatten:=by simp?[fR,fR,fK,fK,h]
def code_flat Q:bf (m5 Q)=Q.flatten.map λx=>(Q.flatten.idxOf<|-x:Int):=by unfold m5;rw[eN]
def G4 Q:(m5 Q).map aX=Q.map aX:=by unfold m5;rw[mPq];show mCq λr Z=>lMq ..
theorem Dm:∀{l:Ϝ}{i}{x},c9 l->l[i]?=aK x->l.idxOf x=i
 | [],i,x,_,h=>by cases h
 |a::l,0,x,_,h=>by cases h;show fu
 |a::l,i+1,x,n,h=>by
  have h:l[i]?=aK x:=by show h
  have n:=az.mp n;have ne:a≠x:=λz=>n.1<|z ▸ mGq h;rw[gR,beq_false_of_ne ne,Dm n.2 h];rfl
def A8{l:Ϝ}(h:x∈l):l[l.idxOf x]?=aK x:=by have hl:=ib h;rw[gEg hl];show congrArg aK<|ij hl
noncomputable abbrev J4(l:List<|Int×Int):List<|pZ×D:=l.map λp=>%[ak p.1|bo p.2]
def Gv(hn:c9 (l.map (·.1)))(h:%[x|y]∈l):e9 (J4 l) (ak x)=aK (bo y):=by have:=K15.yO (ps:=l.map λp=>%[ak p.1|p.2]) (k:=ak x) (n:=y) (by rw[mPq,aE,aG];rw[aE,aG]at hn;show hn.imp λh e=>h<|ak.inj e)<|e8 mMq (_,h,rfl);unfold kg at this;rw[mPq]at this;show this
def Kn(n)x:(J4 n).any (λkv=>decide<|kv.1=(ak x:pZ))=decide (x∈n.map (·.1)):=by
 rw[bG,cW,decide_eq_true_iff];constructor;.rintro⟨p,r,e⟩;have(q,l,rfl):=mMq.mp r;show e8 mMq (q,l,ak.inj<|of_decide_eq_true e)
 .intro h;have(q,l,e):=mMq.mp h;show(_,e8 mMq (q,l,rfl),d7<|congrArg ak e)
def Mz(l)x:j3 (e9 (J4 l)<|ak x)=decide (x∈l.map (·.1)):=by unfold e9;rw[dZ,←Kn,bG,gh,cW]
def RN(h:x∉l.map (·.1)):xj (J4 l) (ak x) (bo y)=J4 (l++[%[x|y]]):=by unfold xj;rw[Kn,d8 h,qE ⋯];simp[J4]
def ix0 x y:vE (eH [bo x,bo y]) (bo 0)=aK (bo x):=rfl
def ix1 x y:vE (eH [bo x,bo y]) (bo 1)=aK (bo y):=rfl
theorem fn_of:∀{l:List<|Int×Int},c9 (l.map (·.1))->∃f:Int->Int,∀p∈l,f p.1=p.2
 | [],_=>(id,λp n=>by cases n)
 |q::l,h=>by
  have h:=az.mp (show(c9 (q.1::l.map (·.1))) from h);have(f,hf):=fn_of h.2;show(λx=>if x=q.1 then q.2 else f x,λp n=>?_);obtain z|z:=ag.mp n;.rw[z];show qz rfl
  .change(if p.1=q.1 then q.2 else f p.1)=p.2;rw[qE λc:p.1=q.1=>h.1<|c ▸ e8 mMq (p,z,rfl),hf p z]
def Ok(G:Λ)(s e:Int):Prop:=∃f,Au G f/\f s=e
def okB(G:Λ)(s e:Int):Bool:=@decide (Ok G s e)<|dE _
def af(G:Λ)(s e:Int):Int->Int:=@dite _ (Ok G s e) (dE _) (λh=>Classical.choose h) λQ=>id
def rwA(G:Λ)(s e:Int):Λ:=Fe<|G.flatten.map λx=>[x,af G s e x]
def auL(G:Λ)(s:Int)(E:Ϝ):List Λ:=(E.filter<|okB G s).map<|rwA G s
end K39
namespace K39
open PySem L2 Mr Z Xe Zl
open K31 (wA Nm Wm Of)
open K12 (Oh)
def nmF(st sh a b:Int)(o n:Nat):Ϝ:=(bD n).map λk:Nat=>Oh st sh a b ((o+k:Nat):Int)
structure Fw (nm:Ϝ)(T:Λ):Prop where
 cnt:∃left,∀z,T.flatten.count z+(wA left).count z=(wA nm).count z
 tr:K11.BM T
abbrev fs(ns:Ϝ)(l n:Nat)(s:Ϝ)(tG:Λ)(v4 v5 v6:Option AV):AS:=[aK<|b8<|ov ns,i0 (l:Int),aK<|el<|aI s::tG.map λr=>b8<|dI r,i0 (n:Int),v4,v5,v6]
end K39
namespace K51
open PySem L2 Mr Z Xe Zl
structure Od (i:Nat)(PS:List Θ):Prop where
 pw:PS.Pairwise λa b=>∃s∈a,∀y∈b,s<y
 lo:∀a∈PS,∃s∈a,s<i
def Od.mono{PS}(h:Od i PS)(l:i<=j):Od j PS:=(h.pw,λa ha=>by have(s,h1,h2):=h.lo a ha;show(s,h1,by lia))
def Od.add{PS}(h:Od i PS)(n:i∈ps)(r:∀y∈ps,i<=y):Od (i+1)<|PS++[ps]:=by
 show(e8 gJ (h.pw,eV ..,λa ha b t=>?_),λa ha=>?_);.rw[mSq.mp t];have(s,h1,h2):=h.lo a ha;show(s,h1,λy l=>by have:=r y l;lia)
 .obtain q|q:=mAq.mp ha;.have(s,h1,h2):=h.lo a q;show(s,h1,by rfl')
  .rw[mSq.mp q];show(i,n,by rfl')
def OQ(E:Mp rs):∃kn PS,Ps rs (aX rs) kn PS/\Od (aX rs) PS/\vq [dM rs]=aK (el<|PS.map<|pA rs):=by
 have I:=E.hr;have key:=uL (x:=3) (body:=vt) (λi S=>∃kn PS J G z,S=[aK<|b8<|dM rs,aK<|eu<|kd kn,aK<|el<|PS.map<|pA rs,J,G,z]/\Ps rs i kn PS/\Od i PS) (ds:=qD 0<|aX rs) (S:=[aK<|b8<|dM rs,aK<|eu [],aK<|el [],n_,n_,n_])
  ([],[],n_,n_,n_,rfl,(by simp,by simp,by simp,by simp,by simp,by simp,by simp,by simp),(bp.nil,λa ha=>(by cases ha))) (by
  rintro i d S hd ⟨kn,PS,J,G,z,rfl,l,B⟩;have L:i<aX rs:=by have:=(gSq.mp hd).1;rwa [qp]at this
  rw[AA L,iH]at hd;cases hd;have H:=kd_get kn i;by_cases c:i∈kn
  .rw[d7 c]at H;show([aK<|b8<|dM rs,aK<|eu<|kd kn,aK<|el<|PS.map<|pA rs,i0 (i:Int),G,z],?_,kn,PS,_,_,_,rfl,(l.sub,l.dj,l.pc,?_,l.mem,l.nd,l.lt,?_),B.mono<|bI _);.simp! [vt,H]
   .intro k hk;obtain q|rfl:=cT.mp hk;.show l.all k q
    .show c
   .have:=l.len;rfl'
  .rw[d8 c]at H;have(ps,h1,O):=Hz E L;have p1:=RT _ _ l.nd l.lt;have p2:=RT _ _ h1.nd h1.lt;have p3:=l.len;have l2:aX ps<=qZ:=by change _<=16777216;lia
   have P:aX PS<qZ:=by change _<16777216;lia
   have(M,Q):=Jr (ps:=ps) (kn:=kn) (v0:=aK<|b8<|dM rs) (v2:=aK<|el<|PS.map<|pA rs) (v3:=i0 (i:Int)) (v4:=aK<|b8<|dI<|ps.map λk:Nat=>(k:Int)) (v5:=z) ∅;have R:=Hg h1.lt;show([aK<|b8<|dM rs,aK<|eu<|kd<|ps.foldl addN kn,aK<|el<|(PS++[ps]).map<|pA rs,i0 (i:Int),aK<|b8<|dI<|ps.map λk:Nat=>(k:Int),M],?_,ps.foldl addN kn,PS++[ps],_,_,_,rfl,(?_,?_,?_,?_,?_,Ku l.nd,?_,?_),B.add (e8 (h1.iff i) .base)<|λy U=>?_);.simp! [vt,H,O,Q,R,l2,P,mBq,pA]
   .intro r t k hk;obtain q|q:=mAq.mp t;.show e8 uI<|jB<|l.sub r q k hk
    .rw[mSq.mp q]at hk;show e8 uI<|ir hk
   .rw[gJ];show(l.dj,eV ..,λr t b X k hk u=>c ?_);rw[mSq.mp X]at u;have(s,Y,C):=l.pc r t;show l.sub r t i<|e8 (C.iff i)<|((C.iff k).mp hk).trans<|((h1.iff k).mp u).symm E
   .intro r t;obtain q|q:=mAq.mp t;.show l.pc r q
    .rw[mSq.mp q];show(i,L,h1)
   .intro k hk;obtain q|rfl:=cT.mp hk;.show e8 uI<|jB<|l.all k q
    .show e8 uI<|ir<|e8 (h1.iff k) .base
   .intro k hk;obtain q|q:=uI.mp hk;.have(r,a,b):=l.mem k q;show(r,e8 mAq<|jB a,b)
    .show(ps,e8 mAq<|ir<|e8 mSq rfl,q)
   .intro k hk;obtain q|q:=uI.mp hk;.show l.lt k q
    .show h1.lt k q
   .rw[lAq,lSq];rfl'
   .show fD λq=>c ?_;have(r,t,u):=l.mem y<|l.all y q;have(s,Y,C):=l.pc r t;show l.sub r t i<|e8 (C.iff i)<|((C.iff y).mp u).trans<|((h1.iff y).mp U).symm E);have(S',e,kn,PS,J,G,z,rfl,l,B):=key;rw[qp]at l B;have r1:=vX (n:=aX rs) ∅;show(kn,PS,l,B,?_);simp! [vq,EZ,dM,r1,e]
end K51
namespace K11
open PySem L2 Mr Z Xe Zl K12
structure Pm (P:List Λ):Prop where
 nd:P.flatten.flatten.Nodup
 mp:K51.Mp<|gm P.flatten
def xg(h:Cn p)(r:[]∈p)(hn:c9<|bf p):p=[[]]:=by
 have(k,hk):=aj.mp r;have n:=(gSq.mp hk).1;have l:dk p k []=[]:=by rw[gDq,hk];rfl
 have h0:k=0:=by
  by_cases q:0<k;.have(j,e,_,_,s):=h.tr k q n;rw[l]at s;cases s
  .lia
 subst h0;by_cases q:1<aX p
 .have(j,e,h1,h2,_):=h.tr 1 (by rfl') q;have:j=0:=by lia
  rw[this,l]at h2;cases h2
 .cases p with
  |nil=>cases r
  |cons a p=>cases p with
   |nil=>have:a=[]:=aK.inj hk;rw[this]
   |cons b p=>show absurd (show 1<aX (a::b::p) by simp) q
theorem Rg:∀{L:Λ},c9 (bf L)->(∀l∈L,l≠[])->c9 L
 | [],_,_=>aW
 |a::L,h,hne=>by rw[fCq,nAq]at h;show e8 az (λm=>?_,Rg h.2.1 λl hl=>hne l<|mCo _ hl);cases a with
  |nil=>show hne [] (ai ..) rfl
  |cons x a=>show h.2.2 x (ai ..) x (e8 mFq (_,m,ai ..)) rfl
def Ce(h:Pm P)(l:p∈P):c9<|bf p:=by have:=h.nd;rw[gL]at this;show bp.sublist (aM<|e8 mMq (p,l,rfl)) this
theorem NX:∀{P:List Λ},c9 (bf<|bf P)->∀{p q}{e},p∈P->q∈P->e∈bf p->e∈bf q->p=q
 | [],_,p,q,e,u,_,_,_=>by cases u
 |a::P,h,p,q,e,u,y,h1,h2=>by
  rw[fCq,fAq,nAq]at h;have s:∀{r:Λ},r∈P->e∈bf r->e∈bf (bf P):=λ{r} hr hr'=>by have(l,hl,x):=mFq.mp hr';show e8 mFq (l,e8 mFq (r,hr,hl),x)
  obtain t|t:=ag.mp u
  .obtain n|n:=ag.mp y;.rw[t,n]
   .rw[t]at h1;show absurd rfl<|h.2.2 e h1 e<|s n h2
  .obtain n|n:=ag.mp y;.rw[n]at h2;show absurd rfl<|h.2.2 e h2 e<|s t h1
   .show NX h.2.1 t n h1 h2
def Qm(h:Pm P)(l:p∈P){r:Ϝ}(hr:r∈p):good r∈gm (bf P):=e8 (qv _).mem_iff<|e8 mMq (r,e8 mFq (p,l,hr),rfl)
def zq(h:Pm P)(s:p∈P){r:Ϝ}(hr:r∈p)(t:e∈r):(gm<|bf P)[plc (gm<|bf P) e]?=aK (good r)/\∀k,(gm<|bf P)[k]?=aK (good r)->k=plc (gm<|bf P) e:=by have mp:=h.mp;have n:e∈good r:=e8 (tR r).mem_iff t;have(k,hk):=aj.mp<|Qm h s hr;have u:=K51.plc_eq mp.hn hk n;show(by rw[show plc (gm<|bf P) e=k from u];show hk,λx l=>?_);show(K51.plc_eq mp.hn l n).symm
def getD_mem{p:Λ}(h:e∈dk p k []):dk p k []∈p:=by rw[gDq]at h ⊢;cases q:p[k]? with
 |none=>rw[q]at h;cases h
 |some r=>show mGq q
def M4(h:Pm P)(s:p∈P)(z:Cn p)(h0:x∈dk p 0 []):∀k,k<aX p->∀e,e∈dk p k []->K51.Lc (gm<|bf P) (plc (gm<|bf P) x) (plc (gm<|bf P) e):=by intro k;induction k using gP with
 |_ k B=>
  intro hk e y;have same:∀{l t:Int}{k:Nat},l∈dk p k []->t∈dk p k []->plc (gm<|bf P) l=plc (gm<|bf P) t:=λ{l t k} q1 q2=>(zq h s (getD_mem q2) q2).2 _ (zq h s (getD_mem q1) q1).1;by_cases q:0<k;.have(j,u,h1,h2,C):=z.tr k q hk;have r:=B j h1 ∅ u h2;have n:=(zq h s (getD_mem h2) h2).1;have st:=K51.Lc.step r n<|e8 (tR _).mem_iff h2;have l:K51.plc (gm<|bf P) (-u)=plc (gm<|bf P) (-u):=rfl;rw[l,same C y]at st;show st
  .have:k=0:=by lia
   subst this;rw[same h0 y];show .base
def OJ(h:Pm P)(hc:∀p∈P,Cn p)(hs:s<aX (gm<|bf P))(pc:K51.Pc (gm<|bf P) s ps):∃p∈P,(ps.map λk=>dk (gm<|bf P) k [])=gm p:=by
 have mp:=h.mp;obtain⟨ρ,t⟩:∃ρ,(gm<|bf P)[s]?=aK ρ:=(_,gEg hs);have(r0,R,O):=mMq.mp<|(qv _).mem_iff.mp<|mGq t;have(p,u,n):=mFq.mp R;show(p,u,?_);have cn:=hc p u;have pn:=Ce h u;by_cases hb:([]:Ϝ)∈p
 .have ep:=xg cn hb pn;rw[ep]at n;rw[mSq.mp n,NU]at O;subst O;have only:∀k,K51.Lc (gm<|bf P) s k->k=s:=λk hk=>by induction hk with
   |base=>rfl
   |step _ a b S=>rw[S,t]at a;cases a;cases b
  have U:ps=[s]:=by have m:s∈ps:=e8 (pc.iff s) .base;have all:∀k∈ps,k=s:=λk hk=>only k<|(pc.iff k).mp hk;have nd:=pc.nd;match ps,m,all,nd with
   | [a],m,all,_=>rw[all a ⋯]
   |a::b::l,m,all,nd=>show absurd (eI (all a ⋯)<|fQ<|all b ⋯)<|λz=>(az.mp nd).1<|by rw[z];simp
  have g1:gm [[]]=[[]]:=by have:dg (gm [[]]) [[]]:=qv [[]];show jc.mp this
  rw[U,ep,g1];change[dk (gm<|bf P) s []]=[[]];rw[gDq,t];rfl
 .have B:∀r∈p,r≠[]:=λr hr z=>hb<|z ▸ hr;have key:∀k,k∈ps↔∃r∈p,(gm<|bf P)[k]?=aK (good r):=λk=>by
   rw[pc.iff k];constructor;.intro hk;induction hk with
    |base=>show(r0,n,by rw[t,O])
    | @step k r e _ a b S=>have(Q,H,C):=S;rw[a]at C;cases C;have h1:e∈bf p:=e8 mFq (Q,H,(tR Q).mem_iff.mp b);have(r2,I,X):=mFq.mp<|cn.clo e h1;show(r2,I,(zq h u I X).1)
   .rintro⟨r,hr,G⟩;have(j0,J):=aj.mp n;have(j,hj):=aj.mp hr;have E:dk p 0 []∈p:=by cases Y:p with
     |nil=>show absurd Y cn.ne
     |cons a l=>simp
    have(eR,hR):=eh _<|B _ E;have(x0,L):=eh _<|B _ n;have(x,M):=eh _<|B _ hr;have d0:dk p j0 []=r0:=by rw[gDq,J];rfl
    have d1:dk p j []=r:=by rw[gDq,hj];rfl
    have t0:=M4 h u cn hR j0 (gSq.mp J).1 x0<|by rw[d0];show L
    have t1:=M4 h u cn hR j (gSq.mp hj).1 x<|by rw[d1];show M
    have s0:s=plc (gm<|bf P) x0:=(zq h u n L).2 s<|by rw[t,O]
    have k0:k=plc (gm<|bf P) x:=(zq h u hr M).2 k G;rw[s0,k0];show(t0.symm mp).trans t1
  show EU ?_ ?_
  .show(cL ?_ ?_).mpr λy=>?_;.rw[aE,aG];show bp.imp_of_mem (λ{a b} ha hb' hab q=>?_)<|aE.mp pc.nd;have(r,hr,G):=(key a).mp ha;have(Q,H,C):=(key b).mp hb';rw[gDq,gDq,G,C]at q;have q':good r=good Q:=q;have(x,M):=eh _<|B r hr;show hab<|eI ((zq h u hr M).2 a G)<|fQ<|(zq h u hr M).2 b<|by rw[C,q']
   .show Rg ?_ λl hl=>?_;.show(wR tR p).nodup_iff.mpr pn
    .have(r,hr,rfl):=mMq.mp hl;intro z;have:=congrArg aX z;rw[FI]at this;show B r hr<|aD.mp this
   .rw[mMq,mMq];constructor;.rintro⟨k,hk,rfl⟩;have(r,hr,G):=(key k).mp hk;show(r,hr,by rw[gDq,G];rfl)
    .rintro⟨r,hr,rfl⟩;have(k,hk):=aj.mp<|Qm h u hr;show(k,e8 (key k) (r,hr,hk),by rw[gDq,hk];rfl)
  .rw[aG];have so:=bp.and pc.so<|aE.mp pc.nd;show bp.imp_of_mem (λ{a b} ha hb' hab=>?_) so;have hlt:a<b:=Nat.lt_of_le_of_ne hab.1 hab.2;have la:=pc.lt a ha;have lb:=pc.lt b hb';have:=bF.mp (yD<|P.flatten.map good) a b la lb hlt;rw[gDq,gDq,gEg la,gEg lb];show this
theorem Hq{ρ:Ϝ}:∀{f:List Λ},(∀l∈f,ρ∈l->l=m)->f.flatten.count ρ=f.count m*m.count ρ
 | [],_=>by simp
 |a::f,h=>by
  have n:=Hq (f:=f) λl r=>h l<|mCo _ r;simp?[fCq,cAq,n];by_cases q:a=m;.rw[q,List.count_cons_self,Nat.add_mul,Nat.one_mul,gc]
  .rw[List.count_cons_of_ne q];have:a.count ρ=0:=e8 eX λz=>q<|h a (ai ..) z;ac_nf
def adA(h:Cn p):∃ρ,ρ∈gm p:=by cases n:p with
 |nil=>show absurd n h.ne
 |cons a l=>show(good a,e8 (qv _).mem_iff<|e8 mMq (a,by simp,rfl))
def OA(h:Pm P)(y:∀p∈P,Cn p)(l:p∈P)(n:q∈P){ρ:Ϝ}(h1:ρ∈gm p)(h2:ρ∈gm q):gm p=gm q:=by have(r,hr,s):=mMq.mp<|(qv _).mem_iff.mp h1;have(t,ht,z):=mMq.mp<|(qv _).mem_iff.mp h2;cases r with
 |nil=>
  rw[NU]at s;have:t=[]:=by have:=congrArg aX z;rw[FI,←s]at this;show aD.mp this
  rw[xg (y p l) hr<|Ce h l,xg (y q n) (this ▸ ht)<|Ce h n]
 |cons x r=>have B:x∈good (x::r):=e8 (tR _).mem_iff ⋯;rw[s,←z]at B;have u:x∈t:=(tR t).mem_iff.mp B;rw[NX h.nd l n (e8 mFq (_,hr,by simp))<|e8 mFq (t,ht,u)]
def Mg(h:Pm P)(G:∀p∈P,Cn p):∃PS:List Θ,UA [dM<|gm<|bf P]=aK (el<|PS.map<|K51.pA<|gm<|bf P)/\(PS.map λps=>ps.map λk=>dk (gm<|bf P) k [])=Bm (P.map gm):=by
 have(kn,PS,L,ho,e):=K51.OQ<|h.mp;show(PS,e,?_);have M:∀ps∈PS,∃p∈P,(ps.map λk=>dk (gm<|bf P) k [])=gm p:=λps x=>by have(s,u,pc):=L.pc ps x;show OJ h G u pc
 show CF ?_ ?_
 .rw[df];intro m;have O:dg (PS.map λps=>ps.map λk=>dk (gm<|bf P) k []).flatten<|bf<|P.map gm:=kT (kT (Nw L)<|qv _)<|T1<|acN<|yG _;have all1:∀r∈(PS.map λps=>ps.map λk=>dk (gm<|bf P) k []),∃p∈P,r=gm p:=λr y=>by have(ps,x,rfl):=mMq.mp y;show M ps x
  have all2:∀r∈P.map gm,∃p∈P,r=gm p:=λr y=>by have(p,Q,rfl):=mMq.mp y;show(p,Q,rfl)
  by_cases q:∃p∈P,m=gm p
  .have(p,l,rfl):=q;have(ρ,B):=adA<|G p l;have U:=Hq (ρ:=ρ) (m:=gm p) (f:=PS.map λps=>ps.map λk=>dk (gm<|bf P) k []) λr y n=>by have(q,R,rfl):=all1 r y;show OA h G R l n B
   have c2:=Hq (ρ:=ρ) (m:=gm p) (f:=P.map gm) λr y n=>by have(q,R,rfl):=all2 r y;show OA h G R l n B
   rw[O.count_eq,c2]at U;show(Nat.eq_of_mul_eq_mul_right (e8 cU B) U).symm
  .rw[e8 eX λz=>q<|all1 m z,e8 eX λz=>q<|all2 m z]
 .rw[aG];show bp.imp_of_mem (λ{a b} ha E C=>?_) ho.pw;have(s,u,t):=C;have(s1,_,H):=L.pc a ha;have(s2,_,I):=L.pc b E;match a,b,ha,E,u,t,H,I with
  |a0::as,b0::bs,ha,E,u,t,H,I=>
   have h0:a0<=s:=by
    obtain z|z:=ag.mp u;.ac_nf
    .show(cJ.mp H.so).1 s z
   have C:a0<b0:=by have:=t b0 ⋯;lia
   have X:=H.lt a0 ⋯;have Y:=I.lt b0 ⋯;have S:=bF.mp (yD<|P.flatten.map good) a0 b0 X Y C;have ea:dk (gm<|bf P) a0 []=(gm<|bf P)[a0]:=by rw[gDq,gEg X];rfl
   have eb:dk (gm<|bf P) b0 []=(gm<|bf P)[b0]:=by rw[gDq,gEg Y];rfl
   by_cases q:dk (gm<|bf P) b0 []=dk (gm<|bf P) a0 []
   .have(p,l,e1):=M _ ha;have(p',J,e2):=M _ E;have m1:dk (gm<|bf P) a0 []∈gm p:=by rw[←e1];simp
    have m2:dk (gm<|bf P) a0 []∈gm p':=by rw[←e2,←q];simp
    rw[e1,e2,OA h G l J m1 m2];show HT.xM _
   .rw[ax,ax,eP,qE q,ea,eb];show S
  | [],b,ha,E,u,_,_,_=>cases u
  |a0::as,[],ha,E,u,t,H,I=>have:=e8 (I.iff s2) .base;cases this
end K11
namespace K35
open PySem PySem.Spec PyProof.Rows L2 Mr Z Xe Zl
open K12 (gm qv)
theorem OZ:∀{ds}{ps},aX ds=aX ps->(∀(i:Nat) d p,ds[i]?=aK d->ps[i]?=aK p->py d=aK p)->FX ds=aK ps
 | [],[],_,_=>by rfl
 |d::ds,p::ps,l,h=>by have h0:=h 0 d p rfl rfl;have n:=OZ (ds:=ds) (ps:=ps) (by simpa using l) λi d p a b=>h (i+1) d p a b;simp[FX,h0,n]
def Wr(h:Fq n d p):py d=aK p:=by induction h with
 |non=>rfl
 |bl=>rfl
 |int=>rfl
 |str _=>rfl
 |list l _ r=>rw[py,OZ l r];rfl
 |tup l _ r=>rw[py,OZ l r];rfl
def Kp(h:Fq n d p)(hn:n<=64):yi d d=aK (fb t_):=by have l:=Wr h;unfold yi;rw[l];change(if _ then _ else _)=_;rw[qz (h.shaped hn,h.shaped hn,h.mix),same_self]
def Em{α:Type}{f}{g}(l:List α)(h:∀x,Fq n (f x)<|g x):∀(i:Nat) d p,(l.map f)[i]?=aK d->(l.map g)[i]?=aK p->Fq n d p:=λi d p a b=>by rw[gMq]at a b;have(x,r,rfl):=oMq.mp a;rw[r]at b;cases b;show h x
def UH(cs:List Λ):∃p,Fq 3 (d9<|cs.map dC) p:=(_,.list (ps:=cs.map λc=>pP<|c.map λr=>pP<|r.map aA8) (by rw[lMq,lMq])<|Em cs λc=>.tup (by rw[lMq,lMq])<|Em c λr=>.tup (by rw[lMq,lMq])<|Em r λi=>.int)
def aen(cs:List Λ):yi (d9<|cs.map dC) (d9<|cs.map dC)=aK (fb t_):=by have(p,h):=UH cs;show Kp h ⋯
end K35
namespace K39
open PySem L2 Mr Z Xe Zl
open K31 (wA Nm Wm Of gm)
abbrev dP(m:Λ):D:=d9<|m.map zU
def PrL(m:Λ):Prop:=aX m<=1000/\∀r∈m,∃x y,r=[x,y]
def BN i:se [bo i]=i5 t_:=by simp! [se,K72.Gz]
def XG(h:PrL m):f_L_pairs [dP m]=i5 t_:=by
 have key:=uL (x:=1) (body:=mb_L_pairs_0) (λQ S=>∃l,S=[aK<|b8<|dP m,l]) (ds:=m.map zU) (S:=[aK<|b8<|dP m,n_]) (n_,rfl) (by rintro i d S hd ⟨l,rfl⟩;rw[gMq]at hd;have(r,hr,rfl):=oMq.mp hd;have(x,y,rfl):=h.2 r<|mGq hr;have n:zZ [zU [x,y],.ty "tuple"]=aK (fb t_):=rfl;have lt:qV [zU [x,y]]=aK (bo 2):=rfl;have s:vE (zU [x,y]) (bo 0)=aK (bo x):=rfl;have t:vE (zU [x,y]) (bo 1)=aK (bo y):=rfl;have u:=BN x;have z:=BN y;have B:Gb (bo 2) (bo 2)=aK (fb f_):=rfl;show(_,?_,aK<|b8<|zU [x,y],rfl);simp! [mb_L_pairs_0,n,lt,B,s,t,u,z]);have(G,g,l,rfl):=key;have C:zZ [dP m,.ty "list"]=aK (fb t_):=rfl;have E:(aX m<=qZ)=True:=eq_true<|by have:=h.1;change _<=16777216;lia
 simp! [f_L_pairs,mf_L_pairs,C,E,g]
def U6 m:pE (aP m)=dP m:=by rw[sV,mPq];show congrArg d9<|mCq λr Q=>sA _
end K39
namespace K40
open PySem L2 Mr Z Zl
open K31 (Mq CK rot Uk rnd)
open K39 (Au okB af rwA auL)
def aeQ:mb_round_turns_0=K31.mb_round_turns_0:=rfl
def Br(l:Mp rs)(s:e∈bf rs):vQ [dM rs,bo e]=aK (Uk (rnd rs e).1):=by
 have hl:=l.hl;have(i,I,J,y):=K31.Pb l s;rw[←aeQ]at y;have B:=DA l.hn ∅;have kv:=l.kv s;have(r,hr,t):=l.at s;have gr:dk rs (plc rs e) []=r:=by rw[gDq,hr];rfl
 have L:=l.row hr;have C:=K31.Ef t ∅;have u:atI (rs.map dI) (plc rs e:Int)=aK (dI r):=vd<|by rw[gMq,hr];rfl
 have E:=pM<|rot r e;have x:atI [dI<|rot r e] 0=aK (dI<|rot r e):=rfl;have G:((rot r e).map bo).map b8=(rot r e).map λn=>b8<|bo n:=by rw[mPq];rfl
 have H:[%[(ak (plc rs e:Int):pZ)|fb t_]]=kd [plc rs e]:=rfl;have l1:(1:Nat)<=qZ:=by decide
 have z:[aK<|b8<|dM rs,i0 e,aK<|eu<|qt 0 rs,aK<|el [b8<|dI<|rot r e],aK<|el<|(rot r e).map λn=>b8<|bo n,aK<|eu<|kd [plc rs e],i0 0,n_,n_]=Mq rs e (CK rs e) 0 n_ n_:=by unfold Mq CK Uk;rw[gr];simp
 simp! [vQ,B4,B,kv,fX,dM,u,C,E,x,G,H,l1];simp! [dM]at z;rw[z,y];simp! [Mq]
def IK(l:Mp rs)(n:e∈bf rs):yh [dM rs,bo e]=aK (aI<|bf (rnd rs e).1):=by have hl:=l.hl;have h1:=Br l n;have h2:=(XY l n).few;have r:=Lv (rs:=(rnd rs e).1) ∅;have s:=K31.G9 (rnd rs e).1;simp! [yh,CT,h1,s,r]
def C9(l:Mp rs)(n:e∈bf rs):rS [dM rs,bo e]=aK (b8<|K33.cD<|m5 (rnd rs e).1):=by have h1:=Br l n;have h:=XY l n;have h2:=h.few;have t:=aAq _ _ h.nd h.lt;have u:=h.ln;have hl:=l.hl;have hr:=l.hr;have r:=K33.Ih (K33.Wh l n) (aBf l n) ∅ ∅;have s:=K31.G9 (rnd rs e).1;simp! [rS,C5,h1,s,r]
def TL(z:Mp G)(B:K31.Ek G)(n:0<aX G):tL [dM G]=aK (b8 kR):=by
 have(J,PS,h,e):=K51.pieces_ok<|K34.af1 z;have h1:aX PS=1:=by
  have(ps,t,_):=h.mem 0<|h.all 0 n;have pos:0<aX PS:=dQ t;by_cases c:aX PS=1;.show c
  .obtain⟨a,b,L,rfl⟩:∃a b L,PS=a::b::L:=by match PS,pos,c with
    | [a],_,c=>show absurd rfl c
    |a::b::L,_,_=>show(a,b,L,rfl)
   have(u,l1,C):=h.pc a ⋯;have(l,l2,E):=h.pc b ⋯;have y:K51.Lc G u l:=B (λk=>K51.Lc G u k) (u,l1,.base) (λp r x hr H n=>.step n hr H) l l2;have dj:=(cJ.mp h.dj).1 b ⋯;show absurd (e8 (E.iff l) .base)<|dj l<|e8 (C.iff l) y
 have I:((aX PS:Nat):Int)=1:=by ac_nf
 simp! [tL,wc,e,I]
end K40
namespace K37
open PySem L2 Mr Z Zl
open K31 (rnd Ek)
def cd(G:Λ)(e:Int):Λ:=m5 (rnd G e).1
def qX(G:Λ):Λ:=rh (yC<|(qY<|bf G).map<|cd G) [[]]
def bgL(G:Λ):Ϝ:=(qY<|bf G).filter λe=>decide<|cd G e=qX G
def lr(G:Λ):Ϝ:=match bgL G with
 | []=>[]
 |s::_=>bf (rnd G s).1
structure Pg (G:Λ):Prop where
 mp:Mp G
 cn:Ek G
 ps:0<G.length
 br:G.flatten=[]->G=[[]]
theorem EF{c:Int->Λ}:∀{E:Ϝ}{x},(∀e∈E,Kc s t (bo e)=aK (c e))->∃y,V1 s t (E.map bo) (bo x) (c x)=aK (bo y)/\y∈x::E/\(∀z∈x::E,eP (c z) (c y)=f_)/\(x::E).find? (λe=>decide<|c e=c y)=aK y
 | [],x,_=>(x,rfl,by simp,λz l=>by rw[mSq.mp l];show HT.xM _,by simp)
 |e::E,x,h=>by
  have B:=h e<|ai ..;have C:=λz l=>h z<|mCo _ l;by_cases q:eP (c e) (c x)=t_
  .have(y,h1,h2,n,r):=EF (x:=e) C;have ne:c x≠c y:=λw=>by have:=n e<|ai ..;rw[←w,q]at this;cases this
   show(y,?_,mCo _ h2,λz l=>?_,?_);.change(Kc s t<|bo e).bind _=_;rw[B,cu,qz q,h1]
   .obtain rfl|l:=ag.mp l;.show aAk _ _ _ (n e<|ai ..)<|HT.xh _ _ q
    .show n z l
   .rw[bP<|by simp[ne],r]
  .have G:eP (c e) (c x)=f_:=by simpa using q
   have(y,h1,h2,n,r):=EF (x:=x) C;have u:=n x<|ai ..;show(y,?_,?_,λz l=>?_,?_);.change(Kc s t<|bo e).bind _=_;rw[B,cu,qE q,h1]
   .obtain w|w:=ag.mp h2;.rw[w];simp
    .simp[w]
   .obtain rfl|l:=ag.mp l;.show u
    .obtain rfl|l:=ag.mp l;.show aAk _ _ _ u G
     .show n z<|mCo _ l
   .by_cases w:c x=c y;.rw[bW<|by simp[w]]at r ⊢;show r
    .have H:c e≠c y:=λv=>w<|aA4 _ _ u<|by rw[←v];show G
     rw[bP<|by simp[w]]at r ⊢;rw[bP<|by simp[H],r]
def IU(l:Mp G)(n:e∈bf G):Kc (pQ xG<|oU (pD 1)<|oU (pD 0) pJ) (dM G) (bo e)=aK (cd G e):=by
 have rc:xG [dM G,bo e]=aK (b8<|dC<|cd G e):=K40.C9 l n;have:pQ xG (oU (pD 1)<|oU (pD 0) pJ) [i0 e,aK<|b8<|dM G]=aK %[b8<|dC<|cd G e|[i0 e,aK<|b8<|dM G]]:=by simp! [rc]
 unfold Kc;rw[this];show yl _
def W5(h1:m∈G.flatten.map (cd G))(h2:∀e∈bf G,eP (cd G e) m=f_):qX G=m:=by have pm:=rW<|bf G;unfold qX;have(z,l,rfl):=mMq.mp h1;cases n:qY<|bf G with
 |nil=>rw[n]at pm;have:=e8 (eg pm) l;cases this
 |cons x E=>have hl:yC ((x::E).map<|cd G)=aK ((E.map<|cd G).foldl (λm c=>if eP c m then c else m)<|cd G x):=rfl;have(l1,l2):=Bc hl;rw[hl,bB];rw[n]at pm;have(y,r,s):=mMq.mp l1;show aA4 _ _ ?_<|l2 _<|e8 mMq (z,e8 (eg pm) l,rfl);rw[←s];show h2 y<|pm.mem_iff.mp r
def yL(B:Mp G)(C:bf G≠[]):∃s E,s∈bf G/\qX G=cd G s/\(∀e∈bf G,eP (cd G e) (cd G s)=f_)/\bgL G=s::E/\acg (pQ xG<|oU (pD 1)<|oU (pD 0) pJ) (dM G) ((qY<|bf G).map bo)=aK (bo s):=by have pm:=rW<|bf G;unfold bgL;cases hS:qY<|bf G with
 |nil=>rw[hS]at pm;show absurd (aA1<|T1 pm) C
 |cons x E=>
  rw[hS]at pm;have mem:∀e∈x::E,e∈bf G:=λe l=>pm.mem_iff.mp l;have(y,h1,h2,H,n):=EF (c:=cd G) (x:=x) (E:=E) λe l=>IU B<|mem e<|mCo _ l;have r:∀e∈bf G,eP (cd G e) (cd G y)=f_:=λe l=>H e<|e8 (eg pm) l;have I:=W5 (e8 mMq (y,mem y h2,rfl)) r;rw[I];rw[←List.head?_filter]at n;obtain⟨t,u⟩:∃t,(x::E).filter (λe=>decide<|cd G e=cd G y)=y::t:=by cases hf:(x::E).filter (λe=>decide<|cd G e=cd G y)with
   |nil=>rw[hf]at n;cases n
   |cons z t=>rw[hf]at n;cases n;show(t,rfl)
  show(y,t,mem y h2,rfl,r,u,?_);change(Kc _ (dM G)<|bo x).bind _=_;rw[IU B<|mem x<|ai ..,cu,h1]
def code_flat Q:aX (m5 Q).flatten=aX (bf Q):=by unfold m5;rw[fR,fR,mPq];show congrArg List.sum<|mCq λr Z=>?_;show lMq ..
def UI(n:Mp G)(t:s∈bf G):∃E,bf (rnd G s).1=s::E:=by
 have(Q,x):=(XY n t).hd;have(r,hr,l):=n.at t;have gr:dk G (plc G s) []=r:=by rw[gDq,hr];rfl
 have(u,v,rfl,y):=dW l;rw[x,gr,K33.rot_at y];show(_,rfl)
def zr(h:bf G=[]):bgL G=[]/\qX G=[[]]:=by
 have l:qY (bf G)=[]:=aD.mp<|by rw[ef<|rW _,h];rfl
 unfold bgL qX;rw[l];show(rfl,rfl)
structure Lr (G:Λ):Prop where
 pm:(lr G).Perm G.flatten
 ln:(qX G).flatten.length=G.flatten.length
 ne:qX G≠[]
 hd:(bgL G).take 1=(lr G).take 1
def yv(h:Pg G):Lr G:=by
 by_cases l:bf G=[]
 .have(b1,b2):=zr l;have e:lr G=[]:=by unfold lr;rw[b1]
  show(by rw[e,l],by rw[b2,l];rfl,by rw[b2];simp,by rw[e,b1])
 .have(s,E,n,r,lo,t,_):=yL h.mp l;have e:lr G=bf (rnd G s).1:=by unfold lr;rw[t]
  have(x,hh):=UI h.mp n;have pm:=(aBd h.mp h.cn n).2;show(by rw[e];show pm,?_,?_,?_);.rw[r];unfold cd;rw[code_flat,ef pm]
  .rw[r];have(Q,u):=(XY h.mp n).hd;unfold cd m5;rw[u];simp
  .rw[e,hh,t];rfl
def Ut(l:Mp G){E:Ϝ}(n:∀e∈E,e∈bf G):qJ qi (pQ xG<|oU (pD 1)<|oU (pD 0) pJ) [aK<|b8<|dM G] (E.map bo)=aK (((E.map<|cd G).map dC).map b8):=by
 rw[Pv λd=>match d with|bo e=>b8<|dC<|cd G e|_=>b8 kR];.rw[mPq,mPq,mPq];rfl
 .intro d hd;have(e,r,rfl):=mMq.mp hd;have rc:xG [dM G,bo e]=aK (b8<|dC<|cd G e):=K40.C9 l<|n e r;show([i0 e,aK<|b8<|dM G],?_);simp! [rc]
def M5(h:Pg G):ui [dM G]=aK (b8<|dC<|qX G):=by
 have t:=K40.TL h.mp h.cn h.ps;have hl:=h.mp.hl;have r:=Q8 (rs:=G)<|by rfl'
 have pm:=rW<|bf G;have y:=ef pm;by_cases s:bf G=[]
 .rw[(zr s).2];have B:qY (bf G)=[]:=aD.mp<|by rw[y,s];rfl
  rw[B]at r;rw[h.br s]at t r ⊢;have H:K33.yp [dM [[]]]=aK (b8<|dC [[]]):=K33.Ih (Q:=[[]]) aW (λx I=>by simp at I) ⋯ ⋯;have J:decide (((0:Nat):Int)=0)=t_:=by rfl
  have L:=pM [];simp! [ui,zR,t,r,L,dI,J,H]
 .have l:=Ut h.mp (E:=qY<|bf G) λe M=>pm.mem_iff.mp M;have z:0<aX (bf G):=e8 cz s;have n:yC ((qY<|bf G).map<|cd G)=aK (qX G):=by unfold qX;cases hS:qY<|bf G with
   |nil=>rw[hS,bj]at y;lia
   |cons x E=>rfl
  have O:=pM<|qY<|bf G;have u:¬ (aX<|qY<|bf G:Int)=0:=by lia
  have P:aX (qY<|bf G)<=qZ:=by change _<=16777216;lia
  generalize qX G=m at n;generalize (qY<|bf G).map (cd G)=C at l n;have R:=K34.Jl C;have cm:=yN C;simp! [ui,zR,t,r,O,dI,u,l,P,R,cm,n]
def B3(h:Pg G):uY [dM G]=aK (aI<|lr G):=by
 have hl:=h.mp.hl;have n:=Q8 (rs:=G)<|by rfl'
 have pm:=rW<|bf G;have x:=ef pm;by_cases l:bf G=[]
 .have e:lr G=[]:=by unfold lr;rw[(zr l).1]
  have y:qY (bf G)=[]:=aD.mp<|by rw[x,l];rfl
  rw[y]at n;rw[e];have z:decide (((0:Nat):Int)=0)=t_:=by rfl
  have B:=pM [];simp! [uY,yx,n,B,dI,z];rfl
 .have(s,E,C,_,_,H,em):=yL h.mp l;have e:lr G=bf (rnd G s).1:=by unfold lr;rw[H]
  have t:=K40.IK h.mp C;rw[←e]at t;have u:0<aX (bf G):=e8 cz l;have I:=pM<|qY<|bf G;have r:¬ (aX<|qY<|bf G:Int)=0:=by lia
  have sh:∀v,Xr [aK<|b8<|dM G,v] 0=aK (dM G):=λQ=>rfl;simp! [uY,yx,n,I,dI,r,WN,sh,em,t]
end K37
namespace K37
open PySem L2 Mr Z Zl
open K12 (gm qv)
open K31 (rnd Ek)
structure xr (P:List Λ):Prop where
 pm:K11.Pm P
 cn:∀T∈P,K11.Cn T
 pg:∀T∈P,Pg (gm T)
 fl:P.flatten.flatten.length<=63
 lt:P.flatten.length<=63
 lp:P.length<=63
def Ls(P:List Λ):List Λ:=Bm<|P.map gm
def bc(P:List Λ):List Λ:=(LI<|(Ls P).map λG=>%[qX G|G]).map (·.2)
def xZ P:dg (Ls P)<|P.map gm:=uX _
def B9 P:dg (bc P)<|Ls P:=by have:=(yy<|(Ls P).map λG=>%[qX G|G]).map (·.2);rw[mPq]at this;show kT this<|by rw[show((λp:Cd×Λ=>p.2)∘λG=>%[qX G|G])=id from rfl,cZ]
def WS P:(bc P).map qX=Bm ((Ls P).map qX):=by
 have key:∀p∈LI ((Ls P).map λG=>%[qX G|G]),p.1=qX p.2:=λp l=>by have(G,_,rfl):=mMq.mp<|(yy _).mem_iff.mp l;rfl
 unfold bc;rw[mPq];have e:(LI<|(Ls P).map λG=>%[qX G|G]).map (qX∘(·.2))=(LI<|(Ls P).map λG=>%[qX G|G]).map (·.1):=mCq λp l=>fQ<|key p l;rw[e];show CF (kT ((yy _).map (·.1)) ?_) ?_;.rw[mPq];show yG _
 .rw[aG];show(Di (λQ=>0) _<|List.pairwise_of_forall λQ Q Q=>ab 0).imp λh=>h.1
def xr.mem(h:xr P):∀G∈Ls P,Pg G:=λG l=>by have(T,n,rfl):=mMq.mp<|(xZ P).mem_iff.mp l;show h.pg T n
def xr.bcm(h:xr P):∀G∈bc P,Pg G:=λG l=>h.mem G<|(B9 P).mem_iff.mp l
def xr.ll(h:xr P):aX (Ls P)<=63:=by rw[ef<|xZ P,lMq];show h.lp
def pieces_ok(h:xr P):∃xs,UA [dM<|gm<|bf P]=aK (el xs)/\xs.map pE=(Ls P).map dM:=by have(PS,e,l):=K11.Mg h.pm h.cn;show(_,e,?_);unfold Ls;rw[←l,mPq,mPq];show mCq λps Q=>?_;change pE (el<|ps.map λk=>aI<|dk (gm<|bf P) k [])=dM _;rw[sV,mPq];change _=d9 ((ps.map λk=>dk (gm<|bf P) k []).map dI);rw[mPq];show congrArg d9<|mCq λk Q=>pM _
def WH{L:List Λ}(h:∀G∈L,Pg G):qJ qi (pQ ui<|oU (pD 0) pJ) [] (L.map dM)=aK ((L.map qX).map λc=>b8<|dC c):=by
 rw[Pv<|λd=>match d with|d9 l=>b8<|dC<|qX<|rh (uz l) []|_=>b8 kR];.rw[mPq,mPq];show congrArg aK<|mCq λG Q=>?_;change b8 (dC<|qX<|rh (uz<|G.map dI) [])=_;rw[tx];rfl
 .intro d hd;have(G,n,rfl):=mMq.mp hd;have ok:=M5<|h G n;show([aK<|b8<|dM G],?_);change _=aK %[b8<|dC<|qX<|rh (uz<|G.map dI) []|_];rw[tx,bB];simp! [ok]
def codes_ok(h:xr P):vY [dM<|gm<|bf P]=aK (el<|(Bm<|(Ls P).map qX).map λc=>b8<|dC c):=by
 have(t,e,ex):=pieces_ok h;have l:=WH h.mem;have s:pE (el t) = d9 ((Ls P).map dM):=by rw[sV,ex]
 have hl:=h.ll;have ll:(aX (Ls P)<=qZ)=True:=eq_true<|uq ∅;have ne:(∀c∈(Ls P).map qX,c≠[])=True:=eq_true λc u=>by have(G,x,rfl):=mMq.mp u;show(yv<|h.mem G x).ne
 have n:(aX ((Ls P).map qX)<64)=True:=eq_true<|by rw[lMq];rfl'
 have cd:=yN<|(Ls P).map qX;generalize Ls P=L at l s ll ne cd n;generalize L.map qX=C at l ne cd n;have sC:(C.map λc=>b8<|dC c).map pE=C.map dC:=by rw[mPq];show mCq λr Q=>sA _
 simp! [vY,NG,e,s,l,ll,Yb,sC,cd,ne,n,and_self]
def Tr(hl:l S=aK %[ds|S'])(hk:FR f ds=aK cs)(n:aX ds<64/\(∀c∈cs,c≠[])/\Sh ds/\NI cs ds):Gp f l S=aK %[el<|(LI<|ph cs ds).map λp=>b8 p.2|S']:=by simp?[VN,hl,cu,hk,cu];show xy n _
theorem Md{α:Type}{g}{c}:∀{L:List α},(∀G∈L,f [g G]=aK (b8<|dC<|c G))->FR f (L.map g)=aK (L.map c)
 | [],_=>rfl
 |G::L,h=>by
  have e:O4 f (g G)=aK (c G):=by unfold O4;rw[h G<|ai ..];show yl _
  change(O4 f<|g G).bind _=_;rw[e,cu,Md λG l=>h G<|mCo _ l];rfl
def PR{i:Nat}(y:i<j)(z:j<r)(B:(Ls P)[i]?=aK G)(g2:(Ls P)[r]?=aK G)(C:(Ls P)[j]?=aK n):n=G:=by have s:=bF.mp<|wq<|P.map gm;have(l1,t):=gSq.mp B;have(l2,u):=gSq.mp g2;have(x,l):=gSq.mp C;have a:=s i j l1 x y;have b:=s j r x l2 z;unfold Ls at t u l;rw[t,l]at a;rw[u,l]at b;show aA4 _ _ a b
def Fm{α β:Type}{g:α->β}{L:List α}{i:Nat}{d}(h:(L.map g)[i]?=aK d):∃G,L[i]?=aK G/\d=g G:=by rw[gMq]at h;have(G,a,b):=oMq.mp h;show(G,a,fQ b)
def abU(h:dM A=dM B):A=B:=by have:=congrArg (λd=>match d with|d9 l=>uz l|_=>n_) h;simp?[dM]at this;rw[tx,tx]at this;show aK.inj this
def abM(g:Λ->α):(LI<|ph ((Ls P).map qX)<|(Ls P).map g).map (λp=>p.2)=(bc P).map g:=by rw[List.zip_map'];have:=Q7 g<|(Ls P).map λG=>%[qX G|G];rw[mPq]at this;rw[show((λa=>%[qX a|g a]):Λ->Cd×α)=(λp:Cd×Λ=>%[p.1|g p.2])∘λG=>%[qX G|G]from rfl,this];unfold bc;rw[mPq,mPq];rfl
def FC(h:xr P):yu [dM<|gm<|bf P]=aK (el<|(bc P).map λG=>b8<|dM G):=by
 have(H,e,ex):=pieces_ok h;have hl:=h.ll;have s:=Tr (f:=ui) (l:=lOf<|pQ UA<|oU (pD 0) pJ) (S:=[aK<|b8<|dM<|gm<|bf P]) (ds:=(Ls P).map dM) (S':=[aK<|b8<|dM<|gm<|bf P]) (by simp! [e,ex]) (Md (c:=qX) λG n=>M5<|h.mem G n) (by rw[lMq];rfl',λc u=>by have(G,n,rfl):=mMq.mp u;show(yv<|h.mem G n).ne,jB λd hd=>by have(G,_,rfl):=mMq.mp hd;show(G,rfl),λi j r d I x y h1 h2 z Q=>by have(G,B,rfl):=Fm h1;have(J,t,C):=Fm h2;have(L,E,rfl):=Fm z;rw[←abU C]at t;rw[PR x y B t E]);have em:(LI<|ph ((Ls P).map qX)<|(Ls P).map dM).map (λp=>b8 p.2)=(bc P).map λG=>b8<|dM G:=by have:=congrArg (List.map b8)<|abM (P:=P) dM;rw[mPq,mPq]at this;show this
 rw[em]at s;simp! [yu,FQ,s]
def BP(A B:List Λ):Λ:=(ph A B).flatMap λp=>bx (λx y=>[x,y]) (lr p.1)<|lr p.2
def VF(h:aX A=aX B):BP (A++[G]) (B++[l])=BP A B++bx (λx y=>[x,y]) (lr G) (lr l):=by unfold BP;rw[List.zip_append h,dO];simp
def Ic(h:Pg G)(n:Pg l)(e:qX G=qX l):aX (lr G)=aX (lr l):=by rw[ef (yv h).pm,ef (yv n).pm,← (yv h).ln,← (yv n).ln,e]
def U2(J:∀G∈A,Pg G)(L:∀G∈B,Pg G)(hl:A.map qX=B.map qX)(M:aX A<=63):∃v3 v4,Dl 3 4 zA (A.map dM) (B.map dM) [v0,v1,aK<|el [],n_,n_]=aK (k4 [v0,v1,aK<|aP<|BP A B,v3,v4]):=by
 have l:aX A=aX B:=by have:=congrArg aX hl;rwa [lMq,lMq]at this
 have key:=aaA (x:=3) (y:=4) (body:=zA) (λi S=>∃v3 v4,S=[v0,v1,aK<|aP<|BP (A.take i)<|B.take i,v3,v4]/\aX (BP (A.take i)<|B.take i)<=63*i) (ds:=A.map dM) (es:=B.map dM) (S:=[v0,v1,aK<|el [],n_,n_]) (k:=0) (by rw[lMq,lMq];show l) (n_,n_,rfl,aH _) (by
  rintro i d e S hd O ⟨v3,v4,rfl,H⟩;have(G,C,rfl):=Fm hd;have(n,s,rfl):=Fm O;rw[aU]at H ⊢;have E:=J G<|mGq C;have u:=L n<|mGq s;have hi:=(gSq.mp C).1;have R:qX G=qX n:=by have:=congrArg (λz=>z[i]?) hl;simp?[gMq,C,s]at this;show aK.inj this
  have I:=Sn<|Ic E u R;have U:=B3 E;have X:=B3 u;have Y:=pM<|lr G;have s2:=pM<|lr n;have es:BP (A.take<|i+1) (B.take<|i+1)=BP (A.take i) (B.take i)++bx (λx y=>[x,y]) (lr G) (lr n):=by rw[qh C,qh s];show VF<|by rw[lTq,lTq,l]
  have lz:aX (bx (λx y=>[x,y]) (lr G)<|lr n)<=63:=by rw[fM,ef (yv E).pm];have:=E.mp.hl;lia
  rw[es];generalize bx (λx y=>[x,y]) (lr G) (lr n)=z at I lz;generalize BP (A.take i) (B.take i)=t at H;have lm:(aX t+aX z<=qZ)=True:=eq_true<|uq ∅;have sz:(z.map λr=>b8<|zU r).map pE=z.map zU:=by rw[mPq];show mCq λr Q=>sA _
  have ea:t.map (λr=>b8<|zU r)++(z.map zU).map b8=(t++z).map λr=>b8<|zU r:=by rw[mBq,mPq];rfl
  show(_,?_,aK<|b8<|dM G,aK<|b8<|dM n,rfl,by rw[lAq];lia);simp! [zA,afK,U,X,Y,s2,dI,I,sz,lm,ea]);have(S',e,v3,v4,rfl,_):=key;rw[aU,lMq]at e;rw[aS,show B.take (aX A)=B by rw[l,aS]]at e;show(v3,v4,e)
theorem RO:∀{L:List Λ},(∀G∈L,Pg G)->dg (L.flatMap lr) (bf<|bf L)
 | [],_=>yG _
 |G::L,h=>by simp?[bN,fCq,fAq];show(yv<|h G<|ai ..).pm.append<|RO λG l=>h G<|mCo _ l
theorem Qy:∀P:List Λ,dg (P.map gm).flatten.flatten<|bf<|bf P
 | []=>yG _
 |T::P=>by simp?[ax,fCq,fCq,fAq,fAq];show(m7 T).append<|Qy P
def Zf{A:List Λ}(h:dg A B):dg (bf<|bf A)<|bf<|bf B:=AN h.flatten
def xr.all(h:xr P):dg ((bc P).flatMap lr)<|bf<|bf P:=kT (RO h.bcm)<|kT (Zf<|kT (B9 P)<|xZ P)<|Qy P
theorem zip_fst:∀{a b:Ϝ},aX a=aX b->(bx (λx y=>[x,y]) a b).map (λr=>r.headD 0)=a
 | [],[],_=>rfl
 |x::a,y::b,h=>by change x::_=x::a;rw[zip_fst<|by simpa using h]
theorem Rx:∀{A B},(∀G∈A,Pg G)->(∀G∈B,Pg G)->A.map qX=B.map qX->(BP A B).map (λr=>r.headD 0)=A.flatMap lr
 | [],B,_,_,_=>rfl
 |G::A,[],_,_,h=>by cases h
 |G::A,G'::B,hA,hB,h=>by have(h1,h2):=jv.inj h;change((bx (λx y=>[x,y]) (lr G)<|lr G')++BP A B).map _=lr G++A.flatMap lr;rw[mBq,zip_fst<|Ic (hA G<|ai ..) (hB G'<|ai ..) h1,Rx (λG l=>hA G<|mCo _ l) (λG l=>hB G<|mCo _ l) h2]
theorem Wj:∀{a b:Ϝ},∀r∈bx (λx y=>[x,y]) a b,r≠[]
 | [],b,r,h=>by cases b <;> cases h
 |x::a,[],r,h=>by cases h
 |x::a,y::b,r,h=>by
  obtain rfl|h:=ag.mp h;.simp
  .show Wj r h
def acY:∀r∈BP A B,r≠[]:=λr hr=>by have(p,_,h):=bL.mp hr;show Wj r h
structure uA (P Q:List Λ):Prop where
 f1:xr P
 f2:xr Q
 sm:(P.map λT=>qX<|gm T).Perm<|Q.map λT=>qX<|gm T
def BX P:dg ((Ls P).map qX)<|P.map λT=>qX<|gm T:=by have:=(xZ P).map qX;rw[mPq]at this;show this
def uA.cs(h:uA P Q):Bm ((Ls P).map qX)=Bm ((Ls Q).map qX):=CF (kT (uX _)<|kT (BX P)<|kT h.sm<|T1<|BX Q)<|wq _
def uA.bl(h:uA P Q):(bc P).map qX=(bc Q).map qX:=by rw[WS,WS,h.cs]
def uA.fst(h:uA P Q):(BP (bc P)<|bc Q).map (λr=>r.headD 0)=(bc P).flatMap lr:=Rx h.f1.bcm h.f2.bcm h.bl
def uA.len(h:uA P Q):aX (BP (bc P)<|bc Q)=aX (bf<|bf P):=by have:=congrArg aX h.fst;rwa [lMq,ef h.f1.all]at this
def uA.bl63(h:uA P Q):aX (bc P)<=63:=by rw[ef<|B9 P];show h.f1.ll
def laying_ok(h:uA P Q):Ea [dM<|gm<|bf P,dM<|gm<|bf Q]=aK (aP<|Fe<|BP (bc P)<|bc Q):=by
 have b1:=FC h.f1;have b2:=FC h.f2;have(t,u,lo):=U2 h.f1.bcm h.f2.bcm h.bl h.bl63 (v0:=aK<|b8<|dM<|gm<|bf P) (v1:=aK<|b8<|dM<|gm<|bf Q);have ll:(aX (bc P)=aX (bc Q))=True:=eq_true<|by have:=congrArg aX h.bl;rwa [lMq,lMq]at this
 have ne:(∀r∈BP (bc P) (bc Q),r≠[])=True:=eq_true acY;have l:(aX (BP (bc P)<|bc Q)<64)=True:=eq_true<|by rw[h.len];have:=h.f1.fl;rfl'
 have st:∀L:List Λ,(L.map λG=>b8<|dM G).map pE=L.map dM:=λL=>by rw[mPq];show mCq λr Z=>sA _
 have n:=st<|bc P;have s:=st<|bc Q;generalize BP (bc P) (bc Q)=z at lo ne l;have sz:(z.map λr=>b8<|zU r).map pE=z.map zU:=by rw[mPq];show mCq λr Z=>sA _
 have ti:=zH z;simp! [Ea,Jh,b1,b2,n,s,ll,lo,QT,sz,ti,ne,l,and_self]
def Ja(h:xr P):wb [.list<|P.map dM]=aK (.ow<|(gm P.flatten).map aI):=by
 have h1:=h.fl;have h2:=h.lt;have key:=uL (x:=2) (body:=zN) (λi S=>∃l,S=[i4<|P.map dM,aK<|K31.Uk (P.take i).flatten,l]) (ds:=P.map dM) (S:=[i4<|P.map dM,aK<|.ow [],n_]) (n_,rfl) (by
  rintro i d S hd ⟨l,rfl⟩;have(T,t,rfl):=Fm hd;have n:(P.take<|i+1).flatten=(P.take i).flatten++T:=by rw[qh t,fAq,aB]
  have ls:(P.take<|i+1).flatten.length<=P.flatten.length:=by have:=congrArg (λz=>z.flatten.length)<|aQ (i+1) P;simp?[fAq,lAq]at this;lia
  rw[n,lAq]at ls;have l1:((P.take i).flatten.length+T.length<=qZ)=True:=eq_true<|uq ∅;have u:(P.take i).flatten.map (λr=>AV.sh<|dI r)++T.map (λr=>.sh<|dI r)=((P.take i).flatten++T).map λr=>.sh<|dI r:=by rw[mBq]
  show([i4<|P.map dM,aK<|K31.Uk<|(P.take i).flatten++T,aK<|.sh<|dM T],?_,aK<|.sh<|dM T,by rw[n]);unfold K31.Uk;simp! [zN,dM,l1,u]);have(B,e,l,rfl):=key;rw[lMq,aS]at e;have y:uT [dM P.flatten]=aK (.ow<|(gm P.flatten).map aI):=EI (rs:=P.flatten) (λr hr=>by have:=cY.length_le<|aM hr;lia)<|by rfl'
 have s:=K31.G9 P.flatten;unfold K31.Uk at e s;simp! [wb,FD,e,s,y]
end K37
namespace K33
open PySem L2 Mr Z Xe Zl
noncomputable def ER(ot:Ϝ)(bits:Int)(k:Nat):Int:=dk ot k 0*(1-2*(bits / ((k:Int)+2) % 2))
def Aq(nm ot:Ϝ)(bits:Int):Nat->List (pZ×D)
 |0=>[]
 |k+1=>Aq nm ot bits k++[%[(ak<|dk nm k 0:pZ)|bo<|ER ot bits k],%[(ak<|-(dk nm k 0):pZ)|bo<|-(ER ot bits k)]]
section
variable {nm:Ϝ}
def N9(l)x:tO (l++[x])=tO l++[x, -x]:=by unfold tO;rw[dO];rfl
def Jd(h:n<aX nm):nm.take (n+1)=nm.take n++[dk nm n 0]:=qh<|by rw[gDq,gEg h];rfl
theorem Ie:∀{n},n<=aX nm->(Aq nm ot bits n).map (·.1)=(tO<|nm.take n).map ak
 |0,_=>by rfl
 |n+1,h=>by rw[Jd<|by rfl',N9,mBq,←Ie (n:=n)<|by rfl'];change(Aq nm ot bits n++[%[(ak<|dk nm n 0:pZ)|bo<|ER ot bits n],%[(ak<|-(dk nm n 0):pZ)|bo<|-(ER ot bits n)]]).map (·.1)=_;rw[mBq];rfl
def Rm n:aX (Aq nm ot bits n)=2*n:=by induction n with
 |zero=>rfl
 |succ n l=>unfold Aq;rw[lAq,l];change 2*n+2=_;rfl'
def NQ(h:e9 a k=aK d):e9 (a++b) k=aK d:=by unfold e9 at h ⊢;have(kv,h1,h2):=oMq.mp h;rw[List.find?_append,h1];change aK kv.2=_;rw[←h2]
def ZV{k:Nat}(hk:0<=bits / ((k:Int)+2) % 2/\bits / ((k:Int)+2) % 2<2):ER ot bits k=dk ot k 0∨ER ot bits k = -(dk ot k 0):=by
 unfold ER;have h:bits / ((k:Int)+2) % 2=0∨bits / ((k:Int)+2) % 2=1:=by lia
 obtain h|h:=h;.left;rw[h,show(1:Int)-2*0=1 from rfl,iu]
 .right;rw[h,show(1:Int)-2*1 = -1 from rfl,jK,iu]
def UY k:ER ot bits k=dk ot k 0∨ER ot bits k = -(dk ot k 0):=ZV (bh _ ⋯,ba _ ⋯)
def Ny(hn:YP nm)(hk:k<aX nm):(ak<|dk nm k 0:pZ)∉(Aq nm ot bits k).map (·.1)/\(ak<|-(dk nm k 0):pZ)∉(Aq nm ot bits k++[%[(ak<|dk nm k 0:pZ)|bo<|ER ot bits k]]).map (·.1):=by
 have nd:c9<|tO<|nm.take<|k+1:=K12.BV (hn.nd.sublist<|cO ..) λx n=>hn.lo x<|dD n;have n:1<=dk nm k 0:=hn.lo _<|by rw[gDq,gEg hk];show gRq hk
 rw[Jd hk,N9,nAq]at nd;show(λm=>?_,λm=>?_);.rw[Ie ∅]at m;have(y,l,e):=mMq.mp m;cases e;show nd.2.2 _ l _ ⋯ rfl
 .rw[mBq,Ie ∅]at m;obtain m|m:=mAq.mp m;.have(y,l,e):=mMq.mp m;cases e;show nd.2.2 _ l _ ⋯ rfl
  .have:=mSq.mp m;have:=ak.inj this;lia
theorem JY(hn:YP nm):∀{n},n<=aX nm->∀{k},k<n->e9 (Aq nm ot bits n) (ak<|dk nm k 0)=aK (bo<|ER ot bits k)/\e9 (Aq nm ot bits n) (ak<|-(dk nm k 0))=aK (bo<|-(ER ot bits k))
 |0,_,k,hk=>absurd hk<|bR _
 |n+1,h,k,hk=>by
  by_cases c:k<n;.have(h1,h2):=JY hn (n:=n) (by rfl') c;unfold Aq;show(NQ h1,NQ h2)
  .have:k=n:=by lia
   subst this;have(l,r):=Ny (ot:=ot) (bits:=bits) hn<|show k<aX nm by rfl'
   unfold Aq;show(?_,?_);.rw[getD_app l];unfold e9;rw[bW ⋯];rfl
   .rw[show Aq nm ot bits k++[%[(ak<|dk nm k 0:pZ)|bo<|ER ot bits k],%[(ak<|-(dk nm k 0):pZ)|bo<|-(ER ot bits k)]]=(Aq nm ot bits k++[%[(ak<|dk nm k 0:pZ)|bo<|ER ot bits k]])++[%[(ak<|-(dk nm k 0):pZ)|bo<|-(ER ot bits k)]] by simp,getD_app r];unfold e9;rw[bW ⋯];rfl
def Jy(kvs:List<|pZ×D)(x:Int):Int:=match e9 kvs (ak x)with
 |aK (bo z)=>z
 |_=>0
def KP(h:e9 kvs (ak x)=aK (bo z)):Jy kvs x=z:=by unfold Jy;rw[h]
def Gx(h:x∈tO nm):∃k,k<aX nm/\(x=dk nm k 0∨x = -(dk nm k 0)):=by have(y,l,q):=K31.Rq.mp h;have(k,hk,rfl):=cK.mp l;show(k,hk,?_);rw[gDq,gEg hk];show q
def UO{l:Ϝ}(hn:c9 l)(n:j<aX l)(hk:k<aX l)(h:dk l j 0=dk l k 0):j=k:=by rw[gDq,gDq,gEg n,gEg hk]at h;have r:=hn.idxOf_getElem j n;have s:=hn.idxOf_getElem k hk;have t:l[j]=l[k]:=h;rw[t,s]at r;show fQ r
def X6(hn:YP nm)(h:x∈tO nm):e9 (Aq nm ot bits<|aX nm) (ak x)=aK (bo<|Jy (Aq nm ot bits<|aX nm) x):=by
 have(k,hk,q):=Gx h;have(l,g2):=JY (ot:=ot) (bits:=bits) hn (ab _) hk;obtain rfl|rfl:=q;.rw[KP l];show l
 .rw[KP g2];show g2
def NT(hn:YP nm)(z:YP l)(hl:aX nm<=aX l)(sg:∀k,k<aX nm->dk ot k 0=dk l k 0∨dk ot k 0 = -(dk l k 0)):LH (Jy<|Aq nm ot bits<|aX nm)<|tO nm:=by
 have val:∀k,k<aX nm->Jy (Aq nm ot bits<|aX nm) (dk nm k 0)=ER ot bits k/\Jy (Aq nm ot bits<|aX nm) (-(dk nm k 0)) = -(ER ot bits k):=λk hk=>by have(C,g2):=JY (ot:=ot) (bits:=bits) hn (ab _) hk;show(KP C,KP g2)
 have pos:∀k,k<aX nm->1<=dk l k 0:=λk hk=>z.lo _<|by rw[gDq,gEg<|show k<aX l by lia];show gRq _
 show(λx s=>?_,λx s y E e=>?_)
 .have(k,hk,q):=Gx s;have(n,r):=val k hk;obtain rfl|rfl:=q;.rw[n,r]
  .rw[dF,n,r,dF]
 .have(j,t,q):=Gx s;have(k,hk,B):=Gx E;have(n,r):=val j t;have(G,H):=val k hk;have I:=pos j t;have J:=pos k hk;have L:=UY (ot:=ot) (bits:=bits) j;have M:=UY (ot:=ot) (bits:=bits) k;have O:=sg j t;have P:=sg k hk;have u:dk l j 0=dk l k 0:=by obtain rfl|rfl:=q <;> obtain rfl|rfl:=B <;> simp?[n,r,G,H]at e <;> omega
  have:j=k:=UO z.nd ∅ ∅ u;subst this;obtain rfl|rfl:=q <;> obtain rfl|rfl:=B <;> simp?[n,r]at e <;> first|rfl|lia
def ZO(hn:YP nm)(l:YP ot)(hl:aX nm<=aX ot):LH (Jy<|Aq nm ot bits<|aX nm)<|tO nm:=NT hn l hl λQ Q=>jB rfl
end
def RB{t:Ϝ}(h:∀x∈t,e9 kvs (ak x)=aK (bo<|f x)):qJ qi (kSc<|tZ (oR 1)<|oR 0) [aK<|b8<|mA kvs] (t.map bo)=aK ((t.map f).map λz=>b8<|bo z):=by
 rw[Pv λd=>match d with|bo x=>b8<|bo<|f x|_=>b8 kR];.rw[mPq,mPq];rfl
 .intro d hd;have(x,l,rfl):=mMq.mp hd;have g:=h x l;show([i0 x,aK<|b8<|mA kvs],?_);simp! [g]
def VD(h:∀x∈T.flatten,Z.getD kvs (ak x)=aK (.int<|f x))(hl:T.flatten.length<=1000):qJ qi (rF (wC<|pD 0) [1] qi<|kSc<|tZ (oR 1)<|oR 0) [aK<|.sh<|.dict kvs] (T.map dI)=aK ((ren f T).map aI):=by
 rw[Z.qN λd=>match d with|.list l=>.ow<|(qJ qi (kSc<|tZ (oR 1)<|oR 0) [aK<|.sh<|.dict kvs] l).getD []|_=>.sh .non];.rw[mPq,mPq];show congrArg aK<|mCq λt ht=>?_;have hr:=RB (t:=t) (f:=f) λx n=>h x<|mFq.mpr (t,ht,n);change AV.ow ((qJ qi (kSc<|tZ (oR 1)<|oR 0) [aK<|.sh<|.dict kvs]<|t.map D.int).getD [])=_;rw[hr];rfl
 .intro d hd;have(t,ht,rfl):=mMq.mp hd;have hr:=RB (t:=t) (f:=f) λx n=>h x<|mFq.mpr (t,ht,n);have lt:t.length<=qZ:=by have:=cY.length_le<|aM ht;change _<=16777216;lia
  show([aK<|.sh<|dI t,aK<|.sh<|.dict kvs],?_);simp! [dI,hr,lt,bB]
end K33
open K33 renaming ER->Zq
namespace K37
open PySem L2 Mr Z Zl
open K12 (gm qv)
open K31 (rnd Ek wA Nm)
open K33 (ren LH Aq Jy)
theorem Hb:∀{L:Λ},(∀r∈L,r≠[])->aX L<=aX (bf L)
 | [],_=>ab _
 |r::L,h=>by have:=Hb λr hr=>h r<|mCo _ hr;have:=e8 cz<|h r<|ai ..;simp?[fCq,lAq,lCq];lia
def Ec(tr:aAp T):aX T<=aX (bf T)+1:=by cases T with
 |nil=>show aH _
 |cons t T=>
  have:=Hb (L:=T) λr hr=>by
   have(k,hk):=aj.mp hr;have hl:=(gSq.mp hk).1;have(j,e,_,_,b):=tr (k+1) (by rfl')<|by simp;rfl'
   simp?[gDq,List.getElem?_cons_succ,hk,bB]at b;intro q;rw[q]at b;cases b
  simp?[fCq,lAq,lCq];lia
def UN(cn:x2 T)(nd:c9<|bf T)(hl:aX (bf T)<=62):Pg<|gm T:=by
 have ln:=Ec cn.tr;have mp:Mp<|gm T:=K33.adi nd (by rfl') ∅ cn.clo;have pos:0<aX T:=e8 cz cn.ne;show(mp,K31.S4 mp pos cn.tr,by rw[K31.EK];show pos,λl=>?_);have n:bf T=[]:=by have:=m7 T;rw[l]at this;show aA1<|T1 this
 have s:T=[[]]:=by cases T with
  |nil=>cases pos
  |cons r T=>have t:r=[]:=(gk.mp n).1;show K11.xg cn (by rw[t];simp) nd
 rw[s];show jc.mp<|qv [[]]
def AW(cn:∀T∈P,K11.Cn T)(nd:P.flatten.flatten.Nodup)(fl:P.flatten.flatten.length<=62)(lt:P.flatten.length<=63)(lp:P.length<=63):xr P:=by
 have n:(gm P.flatten).flatten.Perm P.flatten.flatten:=K31.sJ _;have C:(gm P.flatten).length=P.flatten.length:=K31.EK _;have ng:∀z∈P.flatten.flatten, -z∈P.flatten.flatten:=λe s=>by have(r,hr,t):=mFq.mp s;have(T,l,u):=mFq.mp hr;have(B,x,y):=mFq.mp<|(cn T l).clo e<|mFq.mpr (r,u,t);show mFq.mpr (B,mFq.mpr (T,l,x),y)
 have pm:K11.Pm P:=(nd,(n.nodup_iff.mpr nd,by rw[n.length_eq];lia,by lia,λe s=>n.mem_iff.mpr<|ng e<|n.mem_iff.mp s));show(pm,cn,λT l=>UN (cn T l) (K11.Ce pm l) ?_,by lia,lt,lp);have E:T.flatten.length<=P.flatten.flatten.length:=by rw[gL];show cY.length_le<|aM<|mMq.mpr (T,l,rfl)
 lia
def V8 k:dk (ren f T) k []=(dk T k []).map f:=by unfold ren;rw[gDq,gMq,gDq];cases T[k]? <;> rfl
def PU(cn:x2 T)(rn:LH f<|bf T):x2<|ren f T:=by
 show(λq=>cn.ne<|eS.mp q,λz l=>?_,λk h0 hk=>?_);.rw[tU]at l ⊢;have(x,n,rfl):=mMq.mp l;rw[←rn.odd x n];show e8 mMq (-x,cn.clo x n,rfl)
 .have lt:k<aX T:=by unfold ren at hk;rwa [lMq]at hk
  have(j,e,r,a,b):=cn.tr k h0 lt;have s:e∈bf T:=e8 mFq (_,K11.getD_mem a,a);show(j,f e,r,?_,?_);.rw[V8];show e8 mMq (e,a,rfl)
  .rw[V8,←rn.odd e s];show e8 mMq (-e,b,rfl)
def JT(h1:Pg<|gm T)(h2:Pg<|gm<|ren f T)(rn:LH f<|bf T)(nd:c9<|bf T):qX (gm<|ren f T)=qX (gm T):=by
 have l:=m7 T;have r:=m7<|ren f T;rw[tU]at r;by_cases C:bf (gm T)=[]
 .have G:bf T=[]:=by rw[C]at l;show aA1<|T1 l
  rw[G]at r;rw[(zr C).2,(zr<|aA1 r).2]
 .have two:K33.P4 f T:=(h1.mp,h2.mp,rn,nd);have t:∀e∈bf T,cd (gm<|ren f T) (f e)=cd (gm T) e:=λe B=>by have u:=e8 (eg l) B;unfold cd;rw[two.rnd B];have pm:=kT (aBd h1.mp h1.cn u).2 l;show K33.Wt (λx n=>rn.odd x<|pm.mem_iff.mp n,λx n y H e=>rn.inj x (pm.mem_iff.mp n) y (pm.mem_iff.mp H) e)<|aBf h1.mp u
  have(s,E,I,J,lo,_,_):=yL h1.mp C;have z:=l.mem_iff.mp I;rw[J];show W5 (e8 mMq (f s,e8 (eg r)<|e8 mMq (s,z,rfl),t s z)) λe B=>?_;have(x,n,rfl):=mMq.mp<|r.mem_iff.mp B;rw[t x n];show lo x<|e8 (eg l) n
def Fh f(P:List Λ):bf (P.map<|ren f)=ren f (bf P):=by unfold ren;rw[eN]
def Y5(h:xr P)(fl:aX (bf<|bf P)<=62)(rn:LH f<|bf<|bf P):uA P<|P.map<|ren f:=by
 have sub:∀T∈P,∀x∈bf T,x∈bf (bf P):=λT l x n=>by have(r,hr,n):=mFq.mp n;show e8 mFq (r,e8 mFq (T,l,hr),n)
 have s:∀T∈P,LH f<|bf T:=λT l=>(λx n=>rn.odd x<|sub T l x n,λx n y z e=>rn.inj x (sub T l x n) y (sub T l y z) e);have t:bf (P.map<|ren f).flatten=P.flatten.flatten.map f:=by rw[Fh,tU]
 have u:xr<|P.map<|ren f:=AW (λU B=>by have(T,l,rfl):=mMq.mp B;show PU (h.cn T l)<|s T l) (by rw[t];show K33.Ey h.pm.nd rn.inj) (by rw[t,lMq];show fl) (by rw[Fh];unfold ren;rw[lMq];show h.lt)<|by rw[lMq];show h.lp
 show(h,u,?_);rw[mPq];rw[mCq (g:=(λT=>qX<|gm T)∘ren f) λT l=>fQ<|JT (h.pg T l) (u.pg _<|e8 mMq (T,l,rfl)) (s T l)<|K11.Ce h.pm l]
def Hy(hn:Nm nm)(hl:aX nm<=aX ot)(B:∀x∈bf T,x∈wA nm)(hf:aX (bf T)<=1000)(hr:aX T<=1000):uJ [dM T,dI nm,dI ot,bo bits]=aK (el<|(ren (Jy<|Aq nm ot bits<|aX nm) T).map aI):=by
 have C:=hn.len;have(R,e,r,s,rfl):=uL (x:=5) (body:=yU) (λi S=>∃r s,S=[aK<|b8<|dM T,aK<|b8<|dI nm,aK<|b8<|dI ot,i0 bits,aK<|eu<|Aq nm ot bits i,r,s]) (ds:=qD 0<|aX nm) (S:=[aK<|b8<|dM T,aK<|b8<|dI nm,aK<|b8<|dI ot,i0 bits,aK<|eu [],n_,n_]) (n_,n_,rfl) (by
  rintro i d S hd ⟨r,s,rfl⟩;rw[zG,gMq]at hd;have(U,t,rfl):=oMq.mp hd;have(l,n):=gSq.mp t;rw[jj]at n;subst n;rw[bq]at l;have u:atI (nm.map bo) (i:Int)=aK (bo<|dk nm i 0):=vd<|by rw[gMq,gDq,gEg l];rfl
  have y:atI (ot.map bo) (i:Int)=aK (bo<|dk ot i 0):=vd<|by rw[gMq,gDq,gEg<|show i<aX ot by lia];rfl
  have E:=uR (i:=bits) (j:=(i:Int)+2) ∅ ∅;have m2:=sG (i:=bits / ((i:Int)+2)) (j:=2) ⋯;have X:0<=bits / ((i:Int)+2) % 2:=bh _ ⋯;have b1:bits / ((i:Int)+2) % 2<2:=ba _ ⋯;have G:=Jc (i:=2) (j:=bits / ((i:Int)+2) % 2) (by rfl')<|by rfl'
  have H:=JA (i:=dk ot i 0) (j:=1-2*(bits / ((i:Int)+2) % 2)) ∅ ∅;have I:dk ot i 0*(1-2*(bits / ((i:Int)+2) % 2))=Zq ot bits i:=rfl;have(J,L):=K33.Ny (ot:=ot) (bits:=bits) hn l;have M:=yQ (d:=bo<|Zq ot bits i) J;have O:=yQ (d:=bo<|-(Zq ot bits i)) L;have l1:aX (Aq nm ot bits i)<qZ:=by rw[K33.Rm];change _<16777216;lia
  have l2:aX (Aq nm ot bits i++[%[(ak<|dk nm i 0:pZ)|bo<|Zq ot bits i]])<qZ:=by rw[lAq,K33.Rm];change 2*i+1<16777216;lia
  have fin:Aq nm ot bits i++[%[(ak<|dk nm i 0:pZ)|bo<|Zq ot bits i]]++[%[(ak<|-(dk nm i 0):pZ)|bo<|-(Zq ot bits i)]]=Aq nm ot bits (i+1):=by change _=Aq nm ot bits i++[_,_];simp
  show(_,?_,i0 (i:Int),i0<|Zq ot bits i,rfl);simp! [yU,dI,u,y,E,m2,G,H,I,M,l1,O,l2,fin]);have z:ET [bo (aX nm:Int)]=aK (qD 0<|aX nm):=vX ∅;rw[qp]at e;have P:=K33.VD (kvs:=Aq nm ot bits<|aX nm) (f:=Jy<|Aq nm ot bits<|aX nm) (T:=T) (λx Q=>K33.X6 hn<|B x Q) hf;have lT:(aX T<=qZ)=True:=eq_true<|uq ∅;unfold dM at e ⊢;simp! [uJ,Et,z,e,P,lT]
end K37
namespace K44
open PySem L2 Mr Z Xe Zl
open K15 (Rd kI UQ XQ Wp)
open K16 (kvI M9 RD pm QM Lx XW Rt aaF Fg)
def Py c{n:Nat}(hn:n<=30):∃nm,vc [bo c,bo (n:Int)]=aK (aI nm)/\aX nm=n/\c9 nm/\∀z∈nm,1<=z:=by
 have key:=uL (x:=4) (body:=wZ) (λi S=>∃r last l u,S=[i0 r,i0 (n:Int),i0 last,aK<|aI l,u]/\aX l=i/\c9 l/\(∀z∈l,1<=z/\z<=last)/\0<=last) (ds:=qD 0 n) (S:=[i0 c,i0 (n:Int),i0 0,aK<|el [],n_])
  (c,0,[],n_,rfl,rfl,aW,λz s=>(by cases s),by decide) (by
  rintro i d S hd ⟨r,last,l,u,rfl,hl,t,hr,h0⟩;have J:i<n:=by have:=(gSq.mp hd).1;rwa [qp]at this
  have m1:=sG (i:=r) (j:=10 ^ 57) ⋯;have m2:=bh r (b:=10 ^ 57) ⋯;have d1:=Rt (i:=r) (j:=10 ^ 57) ⋯<|by trivial
  have y:=aaF;have B:aX l<qZ:=by change _<16777216;lia
  generalize C:last+1+r % 10 ^ 57=x;have E:last+1<=x:=by lia
  have G:l.map (λn=>b8<|bo n)++[b8<|bo x]=(l++[x]).map λn=>b8<|bo n:=by rw[mBq];rfl
  show([i0<|r / 10 ^ 57,i0 (n:Int),i0 x,aK<|aI<|l++[x],aK<|b8 d],?_,r / 10 ^ 57,x,l++[x],aK<|b8 d,rfl,by rw[lAq,hl];rfl,?_,?_,by lia);.simp! [wZ,y,m1,C,d1,B,G]
  .rw[nAq];show(t,by simp,λa ha b H e=>?_);rw[mSq.mp H]at e;have:=hr a ha;lia
  .intro z s;obtain s|s:=mAq.mp s;.have:=hr z s;show(this.1,by lia)
   .rw[mSq.mp s];show(by lia,gw _));have(L,e,r,last,l,u,rfl,hl,t,hr,h0):=key;rw[qp]at hl;have I:=vX (n:=n) ∅;show(l,?_,hl,t,λz s=>(hr z s).1);simp! [vc,BG,I,e]
def GV c(hl:aX l<=60):∃d,Aw [bo c,dI l]=aK (aI d)/\dg d l:=by
 have key:=uL (x:=4) (body:=Bd) (λi S=>∃cell left r y,S=[i0 cell,aK<|b8<|dI l,aK<|aI left,aK<|aI r,y]/\aX left+i=aX l/\aX r=i/\dg (r++left) l) (ds:=qD 0<|aX l) (S:=[i0 c,aK<|b8<|dI l,aK<|aI l,aK<|el [],n_])
  (c,l,[],n_,rfl,rfl,rfl,yG _) (by
  rintro i d S hd ⟨cell,l2,u,y,rfl,h2,C,pm⟩;have X:i<aX l:=by have:=(gSq.mp hd).1;rwa [qp]at this
  have s:(0:Int)<((aX l2:Nat):Int):=by lia
  have m1:=sG (i:=cell) (j:=((aX l2:Nat):Int)) s;have Y:=bh cell (b:=((aX l2:Nat):Int))<|by omega
  have b1:=ba cell s;obtain⟨k,hk⟩:∃k:Nat,cell % ((aX l2:Nat):Int)=(k:Int):=(jz<|cell % ((aX l2:Nat):Int),by lia);have z:k<aX l2:=by lia
  have E:l2[k]?=aK (dk l2 k 0):=by rw[gDq,gEg z];rfl
  have G:=λa=>K12.Fb a z;generalize dk l2 k 0=x at E G;have B:(l2.map λn=>b8<|bo n)[k]?=i0 x:=by rw[gMq,E];rfl
  have H:(0:Int)<=(k:Int):=by rfl'
  have I:(k:Int)<((aX l2:Nat):Int):=by ac_nf
  have J:aX l2<=qZ:=by change _<=16777216;lia
  have L:=Fg (λn=>b8<|bo n) l2 k;have t:aX (fC l2 k)=aX l2-1:=List.length_eraseIdx_of_lt z;have d1:=uR (i:=cell) (j:=(aX<|fC l2 k:Int)+1) (by omega)<|by rw[t];lia
  have M:=cB k;have lf:aX u<qZ:=by change _<16777216;lia
  have O:u.map (λn=>b8<|bo n)++[b8<|bo x]=(u++[x]).map λn=>b8<|bo n:=by rw[mBq];rfl
  have P:=pM l2;have Q:=pM<|fC l2 k;show([i0<|cell / ((aX<|fC l2 k:Int)+1),aK<|b8<|dI l,aK<|aI<|fC l2 k,aK<|aI<|u++[x],aK<|b8 d],?_,_,_,_,_,rfl,by rw[t];lia,by rw[lAq,C];rfl,?_);.simp! [Bd,P,Q,dI,m1,hk,H,I,J,and_self,M,B,L,lf,O,d1]
  .show e8 df λa=>?_;have:=df.mp pm a;have:=G a;simp?[cAq]at *;lia);have(S',e,cell,left,r,y,rfl,h2,C,pm):=key;rw[qp]at h2;have:left=[]:=aD.mp ∅;subst this;rw[aNq]at pm;have R:=vX (n:=aX l) ∅;have U:((l.map bo).map b8)=l.map λn=>b8<|bo n:=by rw[mPq];rfl
 show(r,?_,pm);simp! [dI]at e;simp! [Aw,GZ,dI,R,U,e]
theorem aag:∀(l n:List<|Int×Int),c9 (n.map (·.1)++l.map (·.1))->l.foldl (λm p=>xj m (ak p.1)<|bo p.2) (kvI n)=kvI (n++l)
 | [],n,_=>by rw[aNq];rfl
 |p::l,n,h=>by rw[bK];have r:p.1∉n.map (·.1):=λq=>(nAq.mp h).2.2 p.1 q p.1 ⋯ rfl;rw[M9 r,show%[p.1|p.2]=p from rfl,aag l (n++[p])<|by rw[mBq,bg];show h,bg];rfl
theorem zip_fst:∀{a b:Ϝ},aX a=aX b->(ph a b).map (·.1)=a
 | [],b,_=>by rfl
 |x::a,[],h=>by simp at h
 |x::a,y::b,h=>by simp?[dw,ax,zip_fst<|by simpa using h]
def aaI(l:c9 E)(h:aX E=aX d):dz E d=kvI (ph E d):=by
 unfold dz;have:=aag (ph E d) []<|by rw[zip_fst h];show l
 show this
def fl(P:List<|Int×Int)(x:Int):Int:=match e9 (kvI P) (ak x)with
 |aK (bo y)=>y
 |_=>0
def RF{E d:Ϝ}(r:c9 E)(h:aX E=aX d){i:Nat}(l:E[i]?=aK x):∃y,d[i]?=aK y/\e9 (kvI<|ph E d) (ak x)=aK (bo y)/\fl (ph E d) x=y:=by
 have t:=(gSq.mp l).1;have n:d[i]?=aK d[i]:=gEg<|by omega
 have s:%[x|d[i]]∈ph E d:=mGq<|e8 bY (l,n);have g:e9 (kvI<|ph E d) (ak x)=aK (bo d[i]):=by
  rw[RD];show K15.yO ?_<|e8 mMq (_,s,rfl);have h1:((ph E d).map λp=>%[(ak p.1:pZ)|p.2]).map (·.1)=E.map ak:=by rw[mPq,←zip_fst h,mPq,zip_fst h];rfl
  rw[h1,aE,aG];show(aE.mp r).imp λh q=>h<|ak.inj q
 show(_,n,g,?_);unfold fl;rw[g]
def Vj{E d:Ϝ}(l:c9 E)(r:dg d E):Oi (fl<|ph E d) E:=by
 have hl:=fQ<|ef r;have nd:=e8 (l8 r) l;show(l,λe x=>?_,λa ha b z q=>?_);.have(i,n):=aj.mp x;have(y,h1,_,h2):=RF l hl n;rw[h2];show r.mem_iff.mp<|mGq h1
 .have(i,n):=aj.mp ha;have(j,s):=aj.mp z;have(y,h1,_,h2):=RF l hl n;have(B,t,_,u):=RF l hl s;rw[h2,u]at q;subst q;have:=(jy (i:=i) (j:=j) (gSq.mp h1).1 nd).mp<|by rw[h1,t]
  subst this;rw[n]at s;show aK.inj s
noncomputable def mu6(N:Nat):AS->Nat
 | [_,_,_,_,_,_,_,_,aK (el l),_]=>N+1-aX l
 |_=>0
section
variable {E d:Ϝ}
def Ym(G:c9 E)(H:dg d E)(hl:aX E<=60)(I:e∈E):∃l,Cy (fl<|ph E d) e l/\aX l<=aX E/\tW (rH<|pU Gb (tZ (oR 4)<|pU DF (oR 8)<|Bn vf<|rC<|bo 1)<|oR 7) wI 100000 [v0,v1,v2,v3,aK<|eu<|kvI<|ph E d,v5,v6,i0 e,aK<|el [b8<|bo e],v9]=aK (k4 [v0,v1,v2,v3,aK<|eu<|kvI<|ph E d,v5,v6,i0 e,aK<|aI l,v9]):=by
 have one:=Vj G H;have(l,cy,u,s):=one.cy I;have x:∀n,e9 (kvI<|ph E d) (ak<|itr (fl<|ph E d) n e)=aK (bo<|itr (fl<|ph E d) (n+1) e):=λn=>by have(i,L):=aj.mp<|one.itr_mem I n;have(y,_,h1,h2):=RF G (fQ<|ef H) L;rw[h1,←h2];rfl
 show(l,cy,u,?_);have key:=yE (c:=rH<|pU Gb (tZ (oR 4)<|pU DF (oR 8)<|Bn vf<|rC<|bo 1)<|oR 7) (body:=wI) (λS=>∃n,n<aX l/\S=[v0,v1,v2,v3,aK<|eu<|kvI<|ph E d,v5,v6,i0 e,aK<|aI<|l.take<|n+1,v9]) (mu6<|aX l) (λS=>S=[v0,v1,v2,v3,aK<|eu<|kvI<|ph E d,v5,v6,i0 e,aK<|aI l,v9]) (by
  rintro S ⟨n,hn,rfl⟩;have z:=cy.at hn;have B:=x n;have C:=pM<|l.take<|n+1;have r:atI ((l.take<|n+1).map bo) (-1)=aK (bo<|itr (fl<|ph E d) n e):=by rw[qh z,mBq];show NR _ _
  by_cases h2:n+1<aX l
  .have ne:=s (n+1) (by rfl') h2;have t:=cy.at h2;have l2:aX (l.take<|n+1)<qZ:=by rw[lTq];change _<16777216;lia
   have M:(l.take<|n+1).map (λn=>b8<|bo n)++[b8<|bo<|itr (fl<|ph E d) (n+1) e]=(l.take<|n+1+1).map λn=>b8<|bo n:=by rw[qh t,mBq];rfl
   show(t_,[v0,v1,v2,v3,aK<|eu<|kvI<|ph E d,v5,v6,i0 e,aK<|aI<|l.take<|n+1,v9],?_,λQ=>([v0,v1,v2,v3,aK<|eu<|kvI<|ph E d,v5,v6,i0 e,aK<|aI<|l.take<|n+1+1,v9],?_,(n+1,h2,rfl),?_),λq=>(nomatch q))
   .have nd:(!decide (itr (fl<|ph E d) (n+1) e=e))=t_:=by rw[d8 ne];rfl
    simp! [C,dI,r,B,nd]
   .simp! [wI,C,dI,r,B,l2,M]
   .change aX l+1-_<aX l+1-_;simp?[lMq,lTq];lia
  .have J:n+1=aX l:=by rfl'
   have nd:(!decide (itr (fl<|ph E d) (n+1) e=e))=f_:=by rw[J,cy.back];simp
   show(f_,[v0,v1,v2,v3,aK<|eu<|kvI<|ph E d,v5,v6,i0 e,aK<|aI<|l.take<|n+1,v9],?_,λq=>(nomatch q),λQ=>by rw[J,aS]);simp! [C,dI,r,B,nd]);have h0:=cy.at (i:=0)<|by have:=cy.len;lia
 have ht:l.take 1=[e]:=by cases l with
  |nil=>simp at h0
  |cons a l=>have:a=e:=aK.inj h0;rw[this];rfl
 have(P,O,rfl):=key 100000 [v0,v1,v2,v3,aK<|eu<|kvI<|ph E d,v5,v6,i0 e,aK<|el [b8<|bo e],v9] (0,by have:=cy.len;lia,by rw[aU,ht];rfl) (by change aX l+1-1<100000;lia);show O
def Vd(hn:c9<|kn++l)(hl:aX kn+aX l<500000):∃n,sD 9 wJ (l.map bo) [v0,v1,v2,v3,v4,v5,aK<|eu<|kI kn,v7,v8,v9]=aK (k4 [v0,v1,v2,v3,v4,v5,aK<|eu<|kI<|kn++l,v7,v8,n]):=by
 have key:=uL (x:=9) (body:=wJ) (λi S=>∃n,S=[v0,v1,v2,v3,v4,v5,aK<|eu<|kI<|kn++l.take i,v7,v8,n]) (ds:=l.map bo) (S:=[v0,v1,v2,v3,v4,v5,aK<|eu<|kI kn,v7,v8,v9]) (v9,by simp) (by
  rintro i d S hd ⟨r,rfl⟩;rw[gMq]at hd;have(e,t,rfl):=oMq.mp hd;have y:=(gSq.mp t).1;have s:e∉kn++l.take i:=λm=>by have h2:c9<|kn++l.take (i+1):=bp.sublist (cY.append (cY.refl kn)<|cO (i+1) l) hn;rw[qh t,←bg]at h2;show(nAq.mp h2).2.2 e m e ⋯ rfl
  have u:=XQ s;rw[bg,←qh t]at u;have l1:aX (kI<|kn++l.take i)<qZ:=by rw[Wp,lAq,lTq];change _<16777216;lia
  show(_,?_,i0 e,rfl);simp! [wJ,l1,u]);have(z,e,r,rfl):=key;rw[lMq,aS]at e;show(r,e)
def VO(H:c9 E)(I:dg d E)(hl:aX E<=60):∃L v6 v7 v8 n,sD 7 vg (E.map bo) [v0,v1,v2,v3,aK<|eu<|kvI<|ph E d,aK<|el [],aK<|eu [],n_,n_,n_]=aK (k4 [v0,v1,v2,v3,aK<|eu<|kvI<|ph E d,aK<|sj L,v6,v7,v8,n])/\SJ (fl<|ph E d) E L/\aX L<=aX E:=by
 have one:=Vj H I;have key:=uL (x:=7) (body:=vg) (λi S=>∃s L v7 v8 n,S=[v0,v1,v2,v3,aK<|eu<|kvI<|ph E d,aK<|sj L,aK<|eu<|kI s,v7,v8,n]/\Rd (fl<|ph E d) E s L/\aX L<=i/\∀j x,j<i->E[j]?=aK x->x∈s) (ds:=E.map bo) (S:=[v0,v1,v2,v3,aK<|eu<|kvI<|ph E d,aK<|el [],aK<|eu [],n_,n_,n_]) ([],[],n_,n_,n_,rfl,(by simp,rfl,aW,by simp,by simp),ab _,λj x h=>absurd h<|bR _) (by
  rintro i dd S hd ⟨s,L,v7,v8,n,rfl,hr,P,r⟩;rw[gMq]at hd;have(e,C,rfl):=oMq.mp hd;have X:=(gSq.mp C).1;have y:e∈E:=mGq C;have G:=UQ s e;by_cases c:e∈s
  .rw[d7 c]at G;show([v0,v1,v2,v3,aK<|eu<|kvI<|ph E d,aK<|sj L,aK<|eu<|kI s,i0 e,v8,n],?_,s,L,_,_,_,rfl,hr,by rfl',λj x u t=>?_);.simp! [vg,G]
   .obtain q|rfl:=cT.mp u;.show r j x q t
    .rw[C]at t;cases t;show c
  .rw[d8 c]at G;have(l,cy,Q,J):=Ym H I hl y (v0:=v0) (v1:=v1) (v2:=v2) (v3:=v3) (v9:=n) (v5:=aK<|sj L) (v6:=aK<|eu<|kI s);have z:=hr.add one cy y c;have R:=S7 _ _ hr.nd hr.sub;have(B,em):=Vd (kn:=s) (l:=l) (v0:=v0) (v1:=v1) (v2:=v2) (v3:=v3) (v4:=aK<|eu<|kvI<|ph E d) (v5:=aK<|sj L) (v7:=i0 e) (v8:=aK<|b8<|dI l) (v9:=n) z.nd ∅;have U:=pM l;have l1:aX L<qZ:=by change _<16777216;lia
   have M:(L.map λl=>b8<|dI l)++[b8<|dI l]=(L++[l]).map λl=>b8<|dI l:=by rw[mBq];rfl
   show([v0,v1,v2,v3,aK<|eu<|kvI<|ph E d,aK<|sj<|L++[l],aK<|eu<|kI<|s++l,i0 e,aK<|b8<|dI l,B],?_,s++l,L++[l],_,_,_,rfl,z,by rw[lAq,lSq];rfl',λj x u t=>?_);.unfold sj at J em ⊢;simp! [dI]at em;simp! [vg,G,J,U,dI,em,l1];simp! [dI]at M;first|rw[M]|simp
   .obtain q|rfl:=cT.mp u;.show e8 mAq<|jB<|r j x q t
    .rw[C]at t;cases t;show e8 mAq<|ir cy.self);have(Y,e,s,L,v7,v8,n,rfl,hr,O,r):=key;rw[lMq]at O;show(L,_,_,_,_,e,hr.orb λx t=>?_,O);have(j,u):=aj.mp t;show r j x (by rw[lMq];show(gSq.mp u).1) u
end
def T6(hn:aX nm<=30):∃l,sD 3 wG (nm.map bo) [v0,v1,aK<|el [],v3,n_,n_,n_,n_,n_,n_]=aK (k4 [v0,v1,aK<|aI<|pm nm,l,n_,n_,n_,n_,n_,n_]):=by
 have key:=uL (x:=3) (body:=wG) (λi S=>∃l,S=[v0,v1,aK<|aI<|pm<|nm.take i,l,n_,n_,n_,n_,n_,n_]) (ds:=nm.map bo) (S:=[v0,v1,aK<|el [],v3,n_,n_,n_,n_,n_,n_]) (v3,rfl) (by
  rintro i d S hd ⟨l,rfl⟩;rw[gMq]at hd;have(x,r,rfl):=oMq.mp hd;have s:aX (pm<|nm.take i)+2<=qZ:=by rw[Lx,lTq];change _<=16777216;lia
  have t:(pm<|nm.take i).map (λn=>b8<|bo n)++[b8<|bo x,b8<|bo<|-x]=(pm<|nm.take<|i+1).map λn=>b8<|bo n:=by rw[qh r,QM,mBq];rfl
  show(_,?_,i0 x,rfl);simp! [wG,s,t]);have(u,e,l,rfl):=key;rw[lMq,aS]at e;show(l,e)
structure Mt (T:Λ):Prop where
 nd:T.flatten.Nodup
 ng:∀z∈T.flatten, -z∈T.flatten
 nz:∀z∈T.flatten,z≠0
 le:T.flatten.length<=60
 lt:T.length<=64
 ne:∀r∈T,r≠[]
def NK c(hn:aX nm<=30)(u:c9<|pm nm)(H:∀z∈pm nm,z≠0):∃T,wu [bo c,dI nm]=aK (sj T)/\Mt T/\dg (bf T) (pm nm):=by
 have I:∀z∈pm nm, -z∈pm nm:=λz n=>XW n;have x:aX (pm nm)<=60:=by rw[Lx];lia
 have(M,y):=T6 hn (v0:=i0 c) (v1:=aK<|b8<|dI nm) (v3:=n_);generalize pm nm=E at u I x H y;have(d,J,B):=GV c (l:=E) x;have C:=aaI u<|fQ<|ef B;have s:=Sx (ns:=E) (ms:=d)<|fQ<|ef B;rw[C]at s;have(L,Q,R,S,U,G,o,X):=VO u B x (v0:=i0 c) (v1:=aK<|b8<|dI nm) (v2:=aK<|b8<|dI E) (v3:=M);have t:dg (bf L) E:=e8 (cL o.dj u) o.all;show(L,?_,(o.dj,λz n=>e8 (eg t)<|I z<|t.mem_iff.mp n,λz n=>H z<|t.mem_iff.mp n,by rw[ef t];show x,by lia,λr hr e=>by have(z,c):=o.cy r hr;have:=c.len;rw[e]at this;simp at this),t);have O:=pM E;have P:=pM d;unfold sj at G ⊢;simp! [dI]at y G J;simp! [wu,D5,dI,y,afY,O,J,P,s,G]
end K44
namespace K40
open PySem L2 Mr Z Zl
open K15 (nx fw)
open K39 (Au okB af rwA auL)
def pr(f:Int->Int)(E:Ϝ):Λ:=(qY E).map λx=>[x,f x]
def Ei(h:c9 E):c9<|qY E:=e8 (rW E).nodup_iff h
def AY(h:dg a b):qY a=qY b:=Kr (kT (rW a) h)<|zM a
def KI f(hn:c9 E):Fe (E.map λx=>[x,f x])=pr f E:=by symm;show EU ((rW E).map _) ?_;unfold pr;rw[aG];have h1:=zM E;have h2:=aE.mp<|Ei hn;show(bp.and h1 h2).imp λ{x y} h=>?_;have n:=h.1;have l:=h.2;rw[HT.xn,qE λe=>l<|fQ e];show d8 ∅
def Ia(f)E:aX (pr f E)=aX E:=by unfold pr;rw[lMq,ef<|rW E]
def Yc(f)E:∀r∈pr f E,aX r=2:=λr hr=>by have(x,_,rfl):=mMq.mp hr;rfl
def abA(f)E:(pr f E).map (dk · 0 0)=qY E:=by unfold pr;rw[mPq];show gW _
def abN(f)E:(pr f E).map (dk · 1 0)=(qY E).map f:=by unfold pr;rw[mPq];rfl
def kf(f:Int->Int)(E:Ϝ):List<|pZ×D:=(qY E).map λx=>%[ak x|bo<|f x]
def Vt f(hn:c9 E):dz (qY E) ((qY E).map f)=kf f E:=by
 rw[K44.aaI (Ei hn)<|by rw[lMq]];unfold K16.kvI kf;have:∀l:Ϝ,ph l (l.map f)=l.map λx=>%[x|f x]:=λl=>by induction l with
  |nil=>rfl
  |cons x l n=>rw[ax,dw,n];rfl
 rw[this,mPq];rfl
def Il f(hn:c9 E)(l:x∈E):e9 (kf f E) (ak x)=aK (bo<|f x):=by
 have e:kf f E=kg ((qY E).map λx=>%[(ak x:pZ)|f x]):=by unfold kf kg;rw[mPq];rfl
 rw[e];show K15.yO ?_<|e8 mMq (x,e8 (rW E).mem_iff l,rfl);rw[mPq];rw[aE,aG];show(aE.mp<|Ei hn).imp λn e=>n<|ak.inj e
def V4(f)E:qJ qi (kSc<|pU vE (oR 0)<|rC<|bo 0) [] ((pr f E).map zU)=aK ((qY E).map λn=>b8<|bo n):=by
 rw[Pv λd=>match d with|eH (x::_)=>b8 x|_=>b8 kR];.unfold pr;rw[mPq,mPq];rfl
 .intro d hd;have(r,hr,rfl):=mMq.mp hd;have(x,_,rfl):=mMq.mp hr;have l:vE (zU [x,f x]) (bo 0)=aK (bo x):=rfl;show([aK<|b8<|zU [x,f x]],?_);simp! [l];rfl
def Xz(f)E:qJ qi (kSc<|pU vE (oR 0)<|rC<|bo 1) [] ((pr f E).map zU)=aK (((qY E).map f).map λn=>b8<|bo n):=by
 rw[Pv λd=>match d with|eH (_::y::_)=>b8 y|_=>b8 kR];.unfold pr;rw[mPq,mPq,mPq];rfl
 .intro d hd;have(r,hr,rfl):=mMq.mp hd;have(x,_,rfl):=mMq.mp hr;have l:vE (zU [x,f x]) (bo 1)=aK (bo<|f x):=rfl;show([aK<|b8<|zU [x,f x]],?_);simp! [l];rfl
def Wa(m:Λ):zO (d9<|m.map zU) (d9<|m.map zU)=aK (fb f_):=by have:yi (d9<|m.map zU) (d9<|m.map zU)=aK (fb t_):=K35.Kp (ad2 m) ⋯;unfold zO;rw[this];rfl
end K40
namespace K40
open PySem L2 Mr Z Zl
open K15 (nx fw)
open K31 (tw zy w0 sg Iv Wd wA Nm Of gm)
open K33 (ren Jy Aq ER)
open K39 (Au Fw fs nmF)
open K12 (Oh)
def adz(hn:c9<|bf T)(n:c9 (gm T).flatten)(s:x∈bf (gm T)):nx (gm T) x=nx T x:=by show K16.aeE n (λl hl=>?_) s;have(r,hr,rfl):=mMq.mp<|(D8 _).mem_iff.mp hl;cases r with
 |nil=>show jB rfl
 |cons a r=>show ir<|K16.ZE<|K16.Wl hn hr rfl
end K40
namespace K40
open PySem L2 Mr Z Zl
open K15 (nx fw)
open K31 (tw wA Nm Of gm)
open K33 (Aq ER)
open K39 (Au Fw fs nmF)
open K12 (Oh)
noncomputable abbrev cl(ns:Ϝ):Ϝ:=(ns.drop 3).take 63
end K40
namespace K40
open PySem L2 Mr Z Zl
open K12 (cN LY)
open K51 (Ah)
open K31 (gm)
def RJ(hn:c9<|bf rs)(hl:aX (bf rs)<=500000):∃v2 v3 v4,De 2 3 ya 0 (rs.map dI) [aK<|b8<|dM rs,aK<|eu [],n_,n_,n_,n_,n_,n_,n_,n_]=aK (k4 [aK<|b8<|dM rs,aK<|eu<|qt 0 rs,v2,v3,v4,n_,n_,n_,n_,n_]):=by
 have key:=Qz (x:=2) (y:=3) (k:=0) (body:=ya) (λi S=>∃v2 v3 v4,S=[aK<|b8<|dM rs,aK<|eu<|qt 0<|rs.take i,v2,v3,v4,n_,n_,n_,n_,n_]) (ds:=rs.map dI) (S:=[aK<|b8<|dM rs,aK<|eu [],n_,n_,n_,n_,n_,n_,n_,n_]) (n_,n_,n_,rfl) (by
  rintro i d S hd ⟨v2,v3,v4,rfl⟩;rw[aU];have(r,hr,rfl):=Gg hd;have n:=sW hr;have B:=vV rs<|i+1;have L:i<aX rs:=(gSq.mp hr).1;have s:c9<|bf (rs.take i)++r:=by
   rw[←n];have E:bf rs=bf (rs.take<|i+1)++bf (rs.drop<|i+1):=by rw[←fAq,aQ]
   rw[E]at hn;show(nAq.mp hn).1
  rw[n,lAq]at B;have G:=uL (x:=4) (body:=AJ) (λj S=>∃v4,S=[aK<|b8<|dM rs,aK<|eu<|qt 0 (rs.take i)++uS i (r.take j),i0 i,aK<|b8<|dI r,v4,n_,n_,n_,n_,n_]) (ds:=r.map bo) (S:=[aK<|b8<|dM rs,aK<|eu<|qt 0<|rs.take i,i0 i,aK<|b8<|dI r,v4,n_,n_,n_,n_,n_]) (v4,by simp[uS]) (by
   rintro j d S hd ⟨v4,rfl⟩;have(z,u,rfl):=RV hd;have M:j<aX r:=(gSq.mp u).1;have H:aX (qt 0 (rs.take i)++uS i (r.take j))<qZ:=Hl (by rw[lAq,Hi];unfold uS;rw[lMq,lTq];lia);have t:xj (qt 0 (rs.take i)++uS i (r.take j)) (ak z) (bo (i:Int))=qt 0 (rs.take i)++uS i (r.take<|j+1):=by
    rw[yQ];.unfold uS;rw[qh u,mBq,bg];rfl
    .rw[mBq,zL];intro m;have I:r.take (j+1)=r.take j++[z]:=qh u;obtain m|m:=mAq.mp m;.have(x,C,l):=mMq.mp m;cases l;show(nAq.mp s).2.2 _ C _ (mGq u) rfl
     .unfold uS at m;rw[mPq]at m;have(x,C,l):=mMq.mp m;cases l;have:=bp.sublist (cO (j+1) r) (nAq.mp s).2.1;rw[I]at this;show(nAq.mp this).2.2 _ C _ ⋯ rfl
   show(_,?_,i0 z,rfl);simp! [AJ,H,t]);have(O,l,J,rfl):=G;rw[lMq,aS]at l;show(_,?_,i0 i,aK<|b8<|dI r,J,rfl);rw[qh hr,B0,lTq,dY<|by rfl',aU];simp! [ya,l]);have(P,e,v2,v3,v4,rfl):=key;rw[aU,lMq,aS]at e;show(v2,v3,v4,e)
abbrev ss(rs:Λ)(v2 v3 v4:Option AV)(mt:Θ)(sp:AV)(f:Nat)(ah:Θ)(k:Nat):AS:=[aK<|b8<|dM rs,aK<|eu<|qt 0 rs,v2,v3,v4,aK<|eu<|kd mt,aK sp,i0 (f:Int),aK<|aI<|cN ah,i0 (k:Int)]
def Uw(n:Mp rs)(s:e∈bf rs){mt}(h1:aX mt<500000)(h2:aX ah<500000):tH (ss rs v2 v3 (i0 e) mt sp f ah k)=aK (k4<|ss rs v2 v3 (i0 e) (Ah (plc rs) %[mt|ah] e).1 sp f (Ah (plc rs) %[mt|ah] e).2 k):=by
 have kv:=n.kv<|n.hneg e s;have r:=kd_get mt<|plc rs<|-e;unfold Ah;by_cases q:plc rs (-e)∈mt
 .have l:j3 (e9 (kd mt)<|ak (plc rs<|-e:Int))=t_:=by rw[r];simp[q]
  simp?[q,if_true];simp! [tH,kv,l]
 .have l:j3 (e9 (kd mt)<|ak (plc rs<|-e:Int))=f_:=by rw[r];simp[q]
  simp?[q,if_false];have t:=K31.Ot q;have u:(aX (kd mt)<qZ)=True:=eq_true<|by unfold kd;rw[lMq];change _<16777216;lia
  have x:(aX ah<qZ)=True:=eq_true<|by change _<16777216;lia
  have cl:=K31.AX ah;have y:=LY ah<|plc rs<|-e;simp! [tH,kv,l,t,u,cl,x,y]
def HG(s:Mp rs){r:Ϝ}(hr:∀e∈r,e∈bf rs){mt}(h1:aX mt+aX r<500000)(h2:aX ah+aX r<500000):∃l,sD 4 tH (r.map bo) (ss rs v2 v3 v4 mt sp f ah k)=aK (k4<|ss rs v2 v3 l (r.foldl (Ah<|plc rs) %[mt|ah]).1 sp f (r.foldl (Ah<|plc rs) %[mt|ah]).2 k):=by have len:=K51.Ka<|plc rs;have key:=uL (x:=4) (body:=tH) (λi S=>∃v4,S=ss rs v2 v3 v4 ((r.take i).foldl (Ah<|plc rs) %[mt|ah]).1 sp f ((r.take i).foldl (Ah<|plc rs) %[mt|ah]).2 k) (ds:=r.map bo) (S:=ss rs v2 v3 v4 mt sp f ah k) (v4,rfl) (by rintro i d S hd ⟨v4,rfl⟩;rw[gMq]at hd;have(e,n,rfl):=oMq.mp hd;have hl:=len (r.take i) %[mt|ah];rw[lTq]at hl;have t:=(gSq.mp n).1;simp only at hl;have:=Uw s (hr e<|mGq n) (mt:=((r.take i).foldl (Ah<|plc rs) %[mt|ah]).1) (ah:=((r.take i).foldl (Ah<|plc rs) %[mt|ah]).2) ∅ ∅ (v2:=v2) (v3:=v3) (sp:=sp) (f:=f) (k:=k);show(_,this,i0 e,?_);rw[qh n,fj];rfl);have(u,e,l,rfl):=key;rw[lMq,aS]at e;show(l,e)
structure Bf (rs:Λ)(dn:Θ)(f:Nat)(mt ah:Θ)(k:Nat):Prop where
 eq:mt=dn++ah
 nd:mt.Nodup
 lt:∀q∈mt,q<rs.length
 h0:ah[0]?=aK f
 rc:∀q∈ah,K51.Lc rs f q
 cl:∀(j:Nat) (q:Nat) (r:Ϝ) (x:Int),j<k->ah[j]?=aK q->rs[q]?=aK r->x∈r->plc rs (-x)∈mt
 le:k<=ah.length
def Bf.step{mt}(C:Mp rs)(h:Bf rs t f mt ah k){r:Ϝ}(u:ah[k]?=aK q)(hr:rs[q]?=aK r):Bf rs t f (r.foldl (K51.Ah<|plc rs) %[mt|ah]).1 (r.foldl (K51.Ah<|plc rs) %[mt|ah]).2<|k+1:=by
 have(a,e,h1,h2,y):=K51.DL (plc rs) r mt ah;simp?[e];have hk:=(gSq.mp u).1;show(by change mt++a=t++(ah++a);rw[h.eq,bg],y h.nd,λz l=>?_,by change(ah++a)[0]?=_;rw[gZq ∅];show h.h0,λz l=>?_,λj z B x J l n s=>?_,by change _<=aX (ah++a);rw[lAq];lia)
 .obtain l|l:=mAq.mp l;.show h.lt z l
  .have(x,s,rfl):=h1 z l;show C.lt<|C.other hr s
 .obtain l|l:=mAq.mp l;.show h.rc z l
  .have(x,s,rfl):=h1 z l;show .step (h.rc q<|mGq u) hr s
 .have l:(ah++a)[j]?=aK z:=l;change _∈mt++a;rw[gZq ∅]at l;by_cases c:j<k;.show bw _<|h.cl j z B x c l n s
  .have:j=k:=by lia
   cases this;rw[u]at l;cases l;rw[hr]at n;cases n;show h2 x s
def bf_loop(t:Mp rs)(hf:f<aX rs)(H:f∉s)(nd:c9 s)(lt:∀q∈s,q<aX rs):∃l mt ah k,tW (rH<|pU Qt (oR 9)<|tY qV<|oQ (oR 8) oV) uj 100000 (ss rs v2 v3 v4 (s++[f]) sp f [f] 0)=aK (k4<|ss rs v2 v3 l mt sp f ah k)/\Bf rs s f mt ah (aX ah):=by
 have hl:=t.hl;have I:=t.hr;have(C,J,l,mt,ah,k,rfl,x):=yE (c:=rH<|pU Qt (oR 9)<|tY qV<|oQ (oR 8) oV) (body:=uj)
  (λS=>∃v4 mt ah k,S=ss rs v2 v3 v4 mt sp f ah k/\Bf rs s f mt ah k)
  (λS=>match S with|[_,_,_,_,_,_,_,_,_,aK (b8 (bo i))]=>2000-jz i|_=>0)
  (λC=>∃v4 mt ah k,C=ss rs v2 v3 v4 mt sp f ah k/\Bf rs s f mt ah (aX ah)) (by
   rintro S ⟨v4,mt,ah,k,rfl,h⟩;have y:=pM<|cN ah;have cl:=K31.AX ah;have U:=aAq _ _ h.nd h.lt;have X:aX ah<=aX mt:=by rw[h.eq,lAq];rfl'
   have le:=h.le;by_cases L:k<aX ah
   .have z:(k:Int)<(aX ah:Int):=by ac_nf
    obtain⟨q,n⟩:∃q,ah[k]?=aK q:=(_,gEg L);have M:q<aX rs:=h.lt q<|by rw[h.eq];show ay _<|mGq n
    have hr:rs[q]?=aK rs[q]:=gEg M;have O:=t.row hr;have(l,E):=HG t (r:=rs[q]) (λe P=>e8 mFq (_,mGq hr,P)) (mt:=mt) (ah:=ah) ∅ ∅ (v2:=v2) (v3:=v3) (v4:=v4) (sp:=sp) (f:=f) (k:=k);have st:=h.step t n hr;have B:atI ((cN ah).map bo) (k:Int)=aK (bo (q:Int)):=vd (by unfold cN;rw[mPq,gMq,n];rfl);have u:atI (rs.map dI) (q:Int)=aK (dI rs[q]):=vd<|by rw[gMq,hr];rfl
    have Y:((k+1:Nat):Int)=(k:Int)+1:=by rfl'
    have G:(aX rs[q]<=qZ)=True:=eq_true<|by change _<=16777216;lia
    generalize rs[q]=r at hr E u O st G;show(t_,ss rs v2 v3 v4 mt sp f ah k,?_,λZ=>(ss rs v2 v3 l (r.foldl (Ah<|plc rs) %[mt|ah]).1 sp f (r.foldl (Ah<|plc rs) %[mt|ah]).2<|k+1,?_,(_,_,_,_,rfl,st),?_),λq=>(nomatch q));.simp! [y,dI,cl,z]
    .simp! [uj,y,dI,B,dM,u,G];rw[show sD 4 tH (r.map bo) _=_ from E];simp! [];rfl
    .change 2000-jz ((k+1:Nat):Int)<2000-jz (k:Int);lia
   .have z:¬ (k:Int)<(aX ah:Int):=by ac_nf
    have Q:k=aX ah:=by rfl'
    show(f_,ss rs v2 v3 v4 mt sp f ah k,?_,λq=>(nomatch q),λZ=>(v4,mt,ah,k,rfl,by rw[←Q];show h));simp! [y,dI,cl,z]) 100000 (ss rs v2 v3 v4 (s++[f]) sp f [f] 0) (v4,_,[f],0,rfl,rfl,by rw[nAq];show(nd,by simp,λa ha b x e=>H<|by rw[mSq.mp x]at e;show e ▸ ha),λq n=>by
     obtain n|n:=mAq.mp n;.show lt q n
     .rw[mSq.mp n];show hf,rfl,λq n=>by rw[mSq.mp n];show .base,λj Z Z Z R=>absurd R<|bR _,aH _) (by change 2000-jz (0:Int)<100000;rfl');show(l,mt,ah,k,J,x)
def Jg(h:∀k∈ps,k<aX rs):qJ qi (NY (sX 1)<|oR 0) [aK<|b8<|dM rs] ((cN ps).map bo)=aK (ps.map λk=>b8<|dI<|dk rs k []):=by
 rw[Pv λd=>match d with|bo k=>b8<|dI<|dk rs (jz k) []|_=>b8 kR];.unfold cN;rw[mPq,mPq];rfl
 .intro d hd;have(z,n,rfl):=mMq.mp hd;have(k,hk,rfl):=mMq.mp n;have l:atI (rs.map dI) (k:Int)=aK (dI<|dk rs k []):=vd (by rw[gMq,gDq,gEg<|h k hk];rfl);show([i0 (k:Int),aK<|b8<|dM rs],?_);simp! [dM,l];rfl
end K40
namespace K36
open PySem L2 Mr Z Zl
open K12 (gm qv)
open K31 (rnd Ek)
open K15 (nx)
open K37 (Pg xr uA lr qX cd bc BP Ls yv Ic yL xZ B9 bgL)
open K39 (Dm A8 Pj G4 code_flat)
open K40 (pr kf Ei AY KI Ia Yc abA abN Vt Il V4 Xz Wa)
def VG(E:Mp G)(r:Mp l)(hc:Ek G)(X:Ek l)(L:s∈bf G)(M:e∈bf l)(h:m5 (rnd l e).1=m5 (rnd G s).1) :
  ∀(i:Nat) x y,(bf (rnd G s).1)[i]?=aK x->(bf (rnd l e).1)[i]?=aK y->(∃j:Nat,(bf (rnd G s).1)[j]?=aK (-x)/\(bf (rnd l e).1)[j]?=aK (-y))/\∃j:Nat,(bf (rnd G s).1)[j]?=aK (nx G x)/\(bf (rnd l e).1)[j]?=aK (nx l y):=by
 have O:=K32.Ol E L;have P:=K32.Ol r M;have S:=aBf E L;have g2:=aBf r M;generalize (rnd G s).1=Q at h O S;generalize (rnd l e).1=R at h P g2;have hl:Q.map aX=R.map aX:=by rw[←G4,←G4 R,h]
 intro i x y a b;have hf:Q.flatten.idxOf (-x)=R.flatten.idxOf (-y):=by
  have q:=congrArg (λc=>(bf c)[i]?) h;simp?[code_flat,code_flat,gMq,gMq,a,b]at q;have q:((R.flatten.idxOf<|-y:Nat):Int)=(Q.flatten.idxOf<|-x:Nat):=by simpa using q
  lia
 show((Q.flatten.idxOf<|-x,A8<|S x<|mGq a,by rw[hf];show A8<|g2 y<|mGq b),?_);obtain⟨q,c,k,H,hk,Y⟩:∃q c k,Q[c]?=aK q/\q[k]?=aK x/\i=aX (Q.take c).flatten+k:=flat_at a;have hkl:=(gSq.mp hk).1;have B:=congrArg (·[c]?) hl;simp?[gMq,gMq,H]at B;have(t,ht,C):=oMq.mp<|fQ B;have u:(k+1) % aX q<aX q:=fP _ ∅;obtain⟨I,z⟩:∃I,q[(k+1) % aX q]?=aK I:=(_,gEg u);obtain⟨J,n⟩:∃J,t[(k+1) % aX t]?=aK J:=(_,gEg<|by rw[C];show u);have U:t[k]?=aK y:=by rw[←K32.DW ht<|by ac_nf,←Pj hl,←Y];show b
 have(d1,o1,d2,d3,e1):=O.row q<|mGq H;have(d4,o2,d5,d6,e2):=P.row t<|mGq ht;have n1:nx G x=I:=by rw[e1]at hk z;show K32.LC E.hn d2 d3 hk z
 have n2:nx l y=J:=by rw[e2]at U n;show K32.LC r.hn d5 d6 U n
 rw[n1,n2];rw[C]at n;show(aX (Q.take c).flatten+(k+1) % aX q,eI (K32.DW H u) z,by rw[Pj hl];show(eI<|K32.DW ht ∅) n)
where
 flat_at:∀{Q:Λ}{i:Nat}{x:Int},(bf Q)[i]?=aK x->∃q c k,Q[c]?=aK q/\q[k]?=aK x/\i=aX (Q.take c).flatten+k
  | [],i,x,h=>by cases h
  |q::Q,i,x,h=>by
   rw[fCq]at h;by_cases c:i<aX q;.rw[gZq c]at h;show(q,0,i,rfl,h,by simp)
   .rw[gYq<|by rfl']at h;have(q',c',k,h1,h2,h3):=flat_at h;show(q',c'+1,k,h1,h2,?_);simp?[jd,fCq,lAq];lia
def abg(h:Pg G)(n:Pg l)(e:qX G=qX l)(i:Nat)x y(r:(lr G)[i]?=aK x)(t:(lr l)[i]?=aK y):(∃j:Nat,(lr G)[j]?=aK (-x)/\(lr l)[j]?=aK (-y))/\∃j:Nat,(lr G)[j]?=aK (nx G x)/\(lr l)[j]?=aK (nx l y):=by
 have H:bf G≠[]:=λq=>by have:=(yv h).pm;rw[q]at this;rw[aA1 this]at r;cases r
 have u:bf l≠[]:=λq=>by have:=(yv n).pm;rw[q]at this;rw[aA1 this]at t;cases t
 have(s,E,I,J,_,L,_):=yL h.mp H;have(M,Q,z,B,_,C,_):=yL n.mp u;have O:lr G=bf (rnd G s).1:=by unfold K37.lr;rw[L]
 have P:lr l=bf (rnd l M).1:=by unfold K37.lr;rw[C]
 rw[O]at r ⊢;rw[P]at t ⊢;show VG h.mp n.mp h.cn n.cn I z (by rw[J,B]at e;show fQ e) i x y r t
structure Ly (M N:Λ)(f:Int->Int):Prop where
 mem:∀x∈M.flatten,f x∈N.flatten
 odd:∀x∈M.flatten,f (-x) = -(f x)
 nx:∀x∈M.flatten,f (nx M x)=nx N (f x)
 pm:(M.flatten.map f).Perm N.flatten
theorem QF:∀{A B},(∀G∈A,Pg G)->(∀G∈B,Pg G)->A.map qX=B.map qX->BP A B=bx (λx y=>[x,y]) (A.flatMap lr) (B.flatMap lr)
 | [],B,_,_,_=>rfl
 |G::A,[],_,_,h=>by cases h
 |G::A,G'::B,hA,hB,h=>by have(h1,h2):=jv.inj h;change(bx (λx y=>[x,y]) (lr G)<|lr G')++BP A B=_;rw[bN,bN,List.zipWith_append<|Ic (hA G<|ai ..) (hB G'<|ai ..) h1,QF (λG l=>hA G<|mCo _ l) (λG l=>hB G<|mCo _ l) h2]
def WL{E E':Ϝ}(h:[x,y]∈bx (λx y=>[x,y]) E E'):∃i:Nat,E[i]?=aK x/\E'[i]?=aK y:=by have(i,l):=aj.mp h;rw[cE]at l;cases a:E[i]? with
 |none=>rw[a]at l;cases l
 |some n=>cases b:E'[i]? with
  |none=>rw[a,b]at l;cases l
  |some r=>rw[a,b]at l;cases l;show(i,a,b)
def OC{E E':Ϝ}{i:Nat}(a:E[i]?=aK x)(b:E'[i]?=aK y):[x,y]∈bx (λx y=>[x,y]) E E':=by show mGq (i:=i) ?_;rw[cE,a,b]
def Xu(t:c9<|bf M)(u:c9<|bf G)(sub:∀r∈G,r∈M)(z:x∈bf G):nx M x=nx G x:=by have(r,hr,l):=mFq.mp z;have(j,n):=aj.mp l;have hl:=(gSq.mp n).1;obtain⟨y,s⟩:∃y,r[(j+1) % aX r]?=aK y:=(_,gEg<|fP _ ∅);rw[FS t (sub r hr) n s,FS u hr n s]
def xr.rows(h:xr P)(l:G∈bc P):∀r∈G,r∈gm (bf P):=λr hr=>by have(T,n,rfl):=mMq.mp<|(xZ P).mem_iff.mp<|(B9 P).mem_iff.mp l;have(t,ht,rfl):=mMq.mp<|(qv T).mem_iff.mp hr;show K11.Qm h.pm n ht
def xr.mp(h:xr P):Mp<|gm<|bf P:=(h.pm.mp.hn,h.pm.mp.hl,h.pm.mp.hr,h.pm.mp.hneg)
def xr.ends(h:xr P):dg ((bc P).flatMap lr)<|bf<|gm<|bf P:=kT h.all<|T1<|m7 _
def lay(P Q:List Λ)(x:Int):Int:=dk ((bc Q).flatMap lr) (((bc P).flatMap lr).idxOf x) 0
def uA.zip(h:uA P Q):BP (bc P) (bc Q)=bx (λx y=>[x,y]) ((bc P).flatMap lr) ((bc Q).flatMap lr):=QF h.f1.bcm h.f2.bcm h.bl
def uA.nd1(h:uA P Q):c9<|(bc P).flatMap lr:=e8 (xr.ends h.f1).nodup_iff (xr.mp h.f1).hn
def P9(h:uA P Q)(l:[x,y]∈BP (bc P) (bc Q)):lay P Q x=y:=by rw[uA.zip h]at l;have(i,a,b):=WL l;unfold lay;rw[Dm (uA.nd1 h) a,gDq,b];rfl
def uA.len2(h:uA P Q):aX ((bc P).flatMap lr)=aX ((bc Q).flatMap lr):=by
 have a:=h.len;rw[uA.zip h,fM]at a;have b:=ef h.f1.all;have q:∀{A B:List Λ},(∀G∈A,Pg G)->(∀G∈B,Pg G)->A.map qX=B.map qX->aX (A.flatMap lr)=aX (B.flatMap lr):=λ{A}=>by induction A with
  |nil=>intro B _ _ h;cases B with
   |nil=>rfl
   |cons _ _=>cases h
  |cons G A s=>intro B n r h;cases B with
   |nil=>cases h
   |cons t B=>have(h1,h2):=jv.inj h;simp?[bN,bN,lAq,lAq,Ic (n G<|ai ..) (r t<|ai ..) h1,s (λG l=>n G<|mCo _ l) (λG l=>r G<|mCo _ l) h2]
 show q h.f1.bcm h.f2.bcm h.bl
def ZT(h:uA P Q)(n:x∈bf (gm<|bf P)):∃y,[x,y]∈BP (bc P) (bc Q):=by have(i,l):=aj.mp<|e8 (xr.ends h.f1).mem_iff n;have hl:=(gSq.mp l).1;rw[uA.len2 h]at hl;rw[uA.zip h];show(_,OC l<|gEg hl)
def Iu(h:uA P Q)(J:[x,y]∈BP (bc P) (bc Q)):[-x, -y]∈BP (bc P) (bc Q)/\[nx (gm<|bf P) x,nx (gm<|bf Q) y]∈BP (bc P) (bc Q)/\y∈bf (gm<|bf Q):=by
 have((G,s),t,L):=bL.mp J;have(i,a,b):=WL L;have(k,hk):=aj.mp t;have(C,E):=bY.mp hk;have H:=mGq C;have l:=mGq E;have u:=h.f1.bcm G H;have n:=h.f2.bcm s l;have M:qX G=qX s:=by have:=congrArg (λz=>z[k]?) h.bl;simp?[gMq,C,E]at this;show aK.inj this
 have((j,O,R),Y,S,U):=abg u n M i x y a b;have X:x∈bf G:=(yv u).pm.mem_iff.mp<|mGq a;have I:y∈bf s:=(yv n).pm.mem_iff.mp<|mGq b;show(e8 bL (%[G|s],t,OC O R),?_,?_);.rw[Xu (xr.mp h.f1).hn u.mp.hn (xr.rows h.f1 H) X,Xu (xr.mp h.f2).hn n.mp.hn (xr.rows h.f2 l) I];show e8 bL (%[G|s],t,OC S U)
 .have(r,hr,B):=mFq.mp I;show e8 mFq (r,xr.rows h.f2 l r hr,B)
def Zw(h:uA P Q):BP (bc P) (bc Q)=((bc P).flatMap lr).map λx=>[x,lay P Q x]:=by have l2:=uA.len2 h;have nd:=uA.nd1 h;rw[uA.zip h];show cC λi=>?_;rw[cE,gMq];cases a:((bc P).flatMap lr)[i]? with
 |none=>rfl
 |some x=>
  have hl:=(gSq.mp a).1;rw[l2]at hl;rw[gEg hl];have:lay P Q x=((bc Q).flatMap lr)[i]:=by unfold lay;rw[Dm nd a,gDq,gEg hl];rfl
  rw[bJ,this]
def QA(h:uA P Q):Fe (BP (bc P)<|bc Q)=pr (lay P Q) (bf<|gm<|bf P):=by rw[Zw h,KI _<|uA.nd1 h];unfold K40.pr;rw[AY<|xr.ends h.f1]
def O9(h:uA P Q):Ly (gm P.flatten) (gm Q.flatten)<|lay P Q:=by
 have key:∀x∈(gm P.flatten).flatten,[x,lay P Q x]∈BP (bc P) (bc Q):=λx l=>by have(y,n):=ZT h l;rw[P9 h n];show n
 show(λx l=>(Iu h<|key x l).2.2,λx l=>P9 h (Iu h<|key x l).1,λx l=>P9 h (Iu h<|key x l).2.1,?_);show((xr.ends h.f1).symm.map _).trans<|dg.trans ?_<|xr.ends h.f2;have e:((bc P).flatMap lr).map (lay P Q)=(bc Q).flatMap lr:=by show cC λi=>?_;rw[gMq];cases a:((bc P).flatMap lr)[i]? with
  |none=>have:=uA.len2 h;rw[fO]at a;rw[aR ∅];rfl
  |some x=>have hl:=(gSq.mp a).1;rw[uA.len2 h]at hl;rw[bJ,gEg hl];unfold lay;rw[Dm (uA.nd1 h) a,gDq,gEg hl];rfl
 rw[e]
end K36
namespace K36
open PySem L2 Mr Z Zl
open K12 (gm qv)
open K15 (nx)
open K40 (pr kf Ei AY KI Ia Yc abA abN Vt Il V4 Xz Wa uW yP vH f_L_pairs)
def Ky M:zX (kg<|i9 M)=aK (bf M):=by
 have:=EL (λp:pZ×Int=>match p.1 with|ak i=>i|_=>0) (λp:pZ×Int=>bo p.2)<|i9 M;have l:kg (i9 M)=(i9 M).map λp=>%[(ak<|match p.1 with|ak i=>i|_=>0:pZ)|bo p.2]:=by unfold kg;show mCq λp n=>?_;have:p.1∈(i9 M).map (·.1):=e8 mMq (p,n,rfl);rw[aAt]at this;have(x,_,e):=mMq.mp this;rw[←e]
 rw[l,this];have r:(i9 M).map (λp:pZ×Int=>match p.1 with|ak i=>i|_=>0)=((i9 M).map (·.1)).map λk:pZ=>match k with|ak i=>i|_=>0:=by rw[mPq];rfl
 rw[r,aAt,mPq];show congrArg aK<|gW _
def laying_ok(t:Mp M)(u:Mp N)(a:Ly M N f):uW [d9<|(pr f<|bf M).map zU,dM M,dM N]=i5 t_:=by
 have hl:=t.hl;have L:=u.hl;have hn:=t.hn;have O:K39.PrL<|pr f<|bf M:=(by rw[Ia];lia,λr hr=>by have(x,_,rfl):=mMq.mp hr;show(_,_,rfl));have P:f_L_pairs [d9<|(pr f<|bf M).map zU]=i5 t_:=K39.XG O;have ti:=zH<|pr f<|bf M;have Q:((∀r∈pr f<|bf M,r≠[])/\aX (pr f<|bf M)<64)=True:=eq_true (λr hr e=>(by have:=Yc f _ r hr;rw[e]at this;cases this),by rw[Ia];lia);have y:(aX (bf M)<64)=True:=eq_true ∅;have n:(aX (bf N)<64)=True:=eq_true ∅;have s:(aX (qY<|bf M)<64)=True:=eq_true<|by rw[ef<|rW _];lia
 have R:Fe (pr f<|bf M)=pr f (bf M):=by rw[←KI f hn];show(EU (dg.refl _)<|yD _).symm
 have U:=Wa<|pr f<|bf M;have X:=K39.U6<|pr f<|bf M;have Y:=K15.CH t;have z:=K15.CH u;have c2:(∀r∈pr f<|bf M,aX r=2)=True:=eq_true<|Yc f _;have p2:=abA f<|bf M;have p3:=abN f<|bf M;have B:=Vt f hn;have k0:=V4 f<|bf M;have k1:=Xz f<|bf M;have kk:=Ky M;have C:=Ky N;have E:=pM<|qY<|bf M;have G:=pM<|qY<|bf N;have H:qY ((qY<|bf M).map f)=qY (bf N):=AY<|kT ((rW _).map f) a.pm;have iM:=rP<|(qY<|bf M).map f;have e1:=VE (qY<|bf M)<|qY<|bf M;have e2:=VE (qY<|bf N)<|qY<|bf N;have lE:(aX (pr f<|bf M)<=qZ)=True:=eq_true<|by rw[Ia];change _<=16777216;lia
 have key:=uL (x:=6) (body:=vH) (λi S=>∃I,S=[i4<|(pr f<|bf M).map zU,aK<|b8<|dM M,aK<|b8<|dM N,aK<|b8<|.fd<|kg<|i9 M,aK<|eu<|kg<|i9 N,aK<|eu<|kf f<|bf M,I]) (ds:=M.flatten.map bo) (S:=[i4<|(pr f<|bf M).map zU,aK<|b8<|dM M,aK<|b8<|dM N,aK<|b8<|.fd<|kg<|i9 M,aK<|eu<|kg<|i9 N,aK<|eu<|kf f<|bf M,n_]) (n_,rfl) (by rintro i d S hd ⟨I,rfl⟩;rw[gMq]at hd;have(x,he,rfl):=oMq.mp hd;have l:=mGq he;have g1:=Il f hn l;have g2:=Il f hn<|t.hneg x l;have g3:=Il f hn<|aBe hn l;have g4:=K15.KU hn l;have g5:=K15.KU u.hn<|a.mem x l;have o1:=a.odd x l;have o2:=a.nx x l;show(_,?_,i0 x,rfl);simp! [vH,g1,g2,o1,Ks,Kl,g4,g3,g5,o2,decide_true]);have(S',ew,I,rfl):=key;have kD:=K15.aai M;have J:((6:Nat)≠3)=True:=by simp
 simp! [uW,yP,P,QT,ti,Q,R,X,U,Y,z,agd,c2,p2,p3,B,k0,QQ,UT,kk,C,E,G,e1,e2,k1,iM,H,lE,decide_true,J,kD,ew,y,n,s]
end K36
namespace K37
open PySem L2 Mr Z Zl
open K12 (gm qv)
open K31 (rnd Ek wA Nm)
open K33 (ren LH Aq Jy)
def CD k:qJ qi (tF<|oU (tF pJ) pJ) [] (qD 0 k)=aK (aF k<|el [el []]):=by
 rw[Pv<|λQ=>el [el []]];.rw[List.map_const',qp]
 .intro d hd;show([aK<|b8 d],?_);simp! []
def QW:x2 [[]]:=(by simp,by simp,λk h1 h2=>by simp at h2;lia)
def em3 i:∃k:Nat,k<=2/\rX (bo i) (bo 3)=aK (bo (k:Int)):=by
 have l:0<=i % 3:=bh _ ∅;have n:i % 3<3:=ba _<|by rfl'
 show(jz<|i % 3,by lia,?_);rw[gZ l];show sG ⋯
structure Bu (nm:Ϝ)(P:List Λ):Prop where
 fm:xr P
 fl:P.flatten.flatten.length<=62
 sub:∀x∈P.flatten.flatten,x∈wA nm
def N6(u:Nm nm)(l18:aX nm=18)(hl:aX cs<=63)kind:∃xs P,yq [dI cs,dI nm,bo kind]=aK (el xs)/\xs.map pE=P.map dM/\Bu nm P:=by
 have n1:Ak nm n_ (aK 6)=nm.take 6:=Cp nm 6<|by ac_nf
 have n2:Ak nm (aK 6) (aK 12)=(nm.drop 6).take 6:=NZ nm 6 12;have n3:Ak nm (aK 12) n_=nm.drop 12:=Ar nm 12<|by ac_nf
 have H:nm=nm.take 6++((nm.drop 6).take 6++nm.drop 12):=by have:=aQ 6<|nm.drop 6;rw[List.drop_drop]at this;rw[this,aQ]
 obtain⟨j,J,ej⟩:∃j:Nat,j<=aX cs/\ve (bo (aX cs:Int)) (bo 2)=aK (bo (j:Int)):=(aX cs / 2,by lia,by rw[uR ⋯ ⋯];rfl);have(m,hm,e3):=em3<|kind / 2;have(k,hk,e4):=em3<|kind / 6;have d2:=uR (i:=kind) (j:=2) ⋯ ⋯;have d6:=uR (i:=kind) (j:=6) ⋯ ⋯;have m2:=sG (i:=kind) (j:=2) ⋯;have L:=Cp cs j J;have M:=Ar cs j J;have b1:aX (cs.take j)<=63:=by rw[lTq];lia
 have b2:aX (cs.drop j)<=63:=by rw[aL];lia
 generalize cs.take j=O at L b1;generalize cs.drop j=A2 at M b2;have Q:Nm<|nm.take 6:=(by rw[lTq];lia,u.nd.sublist<|cO _ _,λx B=>u.lo x<|dD B);have R:Nm<|(nm.drop 6).take 6:=(by rw[lTq,aL];lia,u.nd.sublist<|(cO _ _).trans<|jA _ _,λx B=>u.lo x<|fx<|dD B);have S:Nm<|nm.drop 12:=(by rw[aL];lia,u.nd.sublist<|jA _ _,λx B=>u.lo x<|fx B);have(l,l1,U,X,r1,p1,s1):=K31.GD (nm:=nm.take 6) (cs:=O) (wild:=decide<|kind % 2=1) b1<|by have:=Q.len;lia
 have(s,l2,Y,c2,r2,p2,s2):=K31.GD (nm:=(nm.drop 6).take 6) (cs:=A2) (wild:=decide<|kind % 2=1) b2<|by have:=R.len;lia
 have(t,l3,t3,c3,r3,p3,s3):=K31.GD (nm:=nm.drop 12) (cs:=O) (wild:=decide<|kind % 2=1) b1<|by have:=S.len;lia
 have lA:aX (nm.take 6)<=6:=by rw[lTq];lia
 have lB:aX ((nm.drop 6).take 6)<=6:=by rw[lTq];lia
 have lC:aX (nm.drop 12)<=6:=by rw[aL];lia
 have y:∀{E:Ϝ}{T:Λ},Nm E->aX E<=6->(∃left,∀a,T.flatten.count a+(wA left).count a=(wA E).count a)->aAp T->0<aX T->x2 T/\aX (bf T)<=12/\aX T<=13:=λ{E T} hn hl cnt tr pos=>by
  have fl:aX (bf T)<=12:=by
   have(left,h):=cnt;have:dg (bf T++wA left)<|wA E:=e8 df λa=>by rw[cAq];show h a
   have:=ef this;rw[lAq,K31.K9 E]at this;lia
  have tl:=Ec tr;have sl:aX T<=63:=by lia
  have w:K31.Wm E T:=(cnt,tr,pos,sl);show((λq=>(by rw[q]at pos;cases pos),λz hz=>w.neg hn hz,tr),fl,by lia)
 have E1:=y Q lA (l1,X) r1 p1;have E2:=y R lB (l2,c2) r2 p2;have E3:=y S lC (l3,c3) r3 p3;have cnt:∀a,l.flatten.count a+s.flatten.count a+t.flatten.count a<=(wA nm).count a:=λa=>by
  have e:(wA nm).count a=(wA<|nm.take 6).count a+((wA<|(nm.drop 6).take 6).count a+(wA<|nm.drop 12).count a):=by
   conv=>lhs;rw[H]
   unfold tO;simp?[dO,dO,cAq,cAq]
  have:=X a;have:=c2 a;have:=c3 a;lia
 have bu:Bu nm<|([l,s,t]:List Λ).take (1+m)++aF k [[]]:=by
  have mem:∀T∈([l,s,t]:List Λ).take (1+m)++aF k [[]],x2 T:=λT hT=>by
   obtain z|z:=mAq.mp hT
   .have z:=dD z;simp?[ag,bZ,or_false]at z;obtain z|z|z:=z;.rw[z];show E1.1
    .rw[z];show E2.1
    .rw[z];show E3.1
   .rw[(jk.mp z).2];show QW
  have rf:∀k:Nat,bf (aF k ([[]]:Λ)).flatten=[]/\aX (aF k ([[]]:Λ)).flatten=k:=λk=>by induction k with
   |zero=>show(rfl,rfl)
   |succ k ih=>simp?[fJ,fCq,fAq,ih.1,lAq,ih.2];show(rfl,by simp;rfl')
  have e12:=E1.2;have e22:=E2.2;have e32:=E3.2;have tk:aX (([l,s,t]:List Λ).take<|1+m).flatten<=39/\aX (([l,s,t]:List Λ).take<|1+m).flatten.flatten<=36/\∀a,(([l,s,t]:List Λ).take<|1+m).flatten.flatten.count a<=l.flatten.count a+s.flatten.count a+t.flatten.count a:=by
   have I:m=0∨m=1∨m=2:=by lia
   obtain rfl|rfl|rfl:=I;all_goals
    show(?_,?_,λa=>?_);all_goals
     simp?[jq,kh,jd,List.take_zero,fCq,List.flatten_nil,fAq,lAq,cAq,bj,ie];lia
  have ff:bf (([l,s,t]:List Λ).take (1+m)++aF k [[]]).flatten=bf (([l,s,t]:List Λ).take<|1+m).flatten:=by rw[fAq,fAq,(rf k).1,aNq]
  have bn:=K31.Ub u;have le:∀a,(([l,s,t]:List Λ).take<|1+m).flatten.flatten.count a<=(wA nm).count a:=λa=>bH (tk.2.2 a)<|cnt a;show(AW mem ?_ ?_ ?_ ?_,by rw[ff];lia,λx B=>?_);.rw[ff];show e8 fB λa=>bH (le a)<|fB.mp bn a
  .rw[ff];lia
  .rw[fAq,lAq,(rf k).2];lia
  .rw[lAq,lTq,bz];simp?[lCq,bj];lia
  .rw[ff]at B;show cU.mp<|aT (e8 cU B)<|le x
 have ec:Ak [dM l,dM s,dM t] n_ (aK ((1+m:Nat):Int))=(([l,s,t]:List Λ).take<|1+m).map dM:=by rw[show[dM l,dM s,dM t]=[l,s,t].map dM from rfl,Ac,Cp _ (1+m)<|by simp;ac_nf]
 have i1:(1:Int)+(m:Int)=((1+m:Nat):Int):=by rfl'
 have bk:=CD k;have rk:=vX (n:=k) ∅;have lk:aX (qD 0 k)<=qZ:=by rw[qp];show uq ∅
 have sT:∀T:Λ,pE (el<|T.map aI)=dM T:=λT=>by rw[sV,DY]
 have sK:(aF k<|el [el []]).map pE=(aF k ([[]]:Λ)).map dM:=by rw[fZ,fZ];rfl
 have G:(([l,s,t]:List Λ).take<|1+m).map dM++(aF k ([[]]:Λ)).map dM=(([l,s,t]:List Λ).take (1+m)++aF k [[]]).map dM:=by rw[mBq]
 have C:aX (([l,s,t]:List Λ).take<|1+m)+k<=qZ:=by rw[lTq];simp?[lCq,bj];show uq ∅
 generalize ([l,s,t]:List Λ).take (1+m)=P1 at bu ec G C;show(((P1++aF k [[]]).map dM).map b8,P1++aF k [[]],?_,by rw[mPq];show(eI<|mCq λr Z=>sA _)<|cZ _,bu);unfold dI at U Y t3;simp! [yq,Iq,dI,ej,d2,d6,e3,e4,m2,L,M,n1,n2,n3,Ac,U,Y,t3,sT,i1,ec,rk,bk,lk,sK,G,bz,C]
end K37
namespace K38
open PySem L2 Mr Z Zl
open K12 (gm qv)
open K37 (Pg xr uA lr qX bc BP Ls BX yv)
open K36 (O9 QA lay)
def cs(P:List Λ):List Λ:=Bm<|(Ls P).map qX
noncomputable def apart(A B:List Λ):List Λ:=(A++B).filter λc=>decide<|¬ A.count c=B.count c
def Vk(ne:A≠B)(l:A.Pairwise λx y=>eP y x=f_)(n:B.Pairwise λx y=>eP y x=f_):apart A B≠[]:=λh=>by
 have p:dg A B:=e8 df λc=>dv λq=>by
  have m:c∈A++B:=by show dv λz=>q ?_;rw[mAq,not_or]at z;rw[e8 eX z.1,e8 eX z.2]
  have:c∈apart A B:=e8 fU (m,d7 q);rw[h]at this;cases this
 show ne<|eI (CF p l)<|fQ<|CF (yG _) n
def Pn(h:C≠[]):∃c,yC C=aK c:=by cases C with
 |nil=>show absurd rfl h
 |cons x C=>show(_,rfl)
def dne(a b:Nat):Gb (bo (a:Int)) (bo (b:Int))=aK (fb<|decide<|¬ a=b):=by
 have:(decide<|¬ a=b) = !decide ((a:Int)=(b:Int)):=by
  by_cases c:a=b;.rw[d8<|λz=>z c,d7<|congrArg _ c];rfl
  .rw[d7 c,d8 λz=>c ∅];rfl
 rw[this,QU]
def Px:qJ (rH<|pU Gb (Oj "list" yV (oR 1)<|oQ (oR 0) oV)<|Oj "list" yV (oR 2)<|oQ (oR 0) oV) (pD 0) [i4<|A.map dC,i4<|B.map dC] ((A++B).map dC)=aK ((apart A B).map λc=>b8<|dC c):=by
 rw[Z.B1 (λd=>match xU d with|aK c=>decide<|¬ A.count c=B.count c|n_=>f_) λd=>b8 d];.unfold apart;rw[List.filter_map,mPq];show congrArg (λl=>aK<|List.map _ l)<|List.filter_congr λc Q=>?_;change(match xU (dC c)with|aK c=>decide<|¬ A.count c=B.count c|n_=>f_)=_;rw[yl]
 .intro d hd;have(c,t,rfl):=mMq.mp hd;have n:=Dq A c;have r:=Dq B c;have s:=dne (A.count c)<|B.count c;rw[yl];show([aK<|b8<|dC c,i4<|A.map dC,i4<|B.map dC],?_,λQ=>([aK<|b8<|dC c,i4<|A.map dC,i4<|B.map dC],?_));.simp! [n,r,s]
  .simp! []
def Hu(hl:aX A+aX B<=1000)(h:yC (apart A B)=aK c):xA [d9<|A.map dC,d9<|B.map dC]=aK (b8<|dC c):=by
 have co:=Px (A:=A) (B:=B);have ct:A.map dC++B.map dC=(A++B).map dC:=by rw[mBq]
 have l1:(aX A+aX B<=qZ)=True:=eq_true<|uq ∅;have l:=K34.Jl<|apart A B;have cm:=yN<|apart A B;have fs:∀L:List Λ,(L.map dC).map b8=L.map λc=>b8<|dC c:=λL=>mPq ..;have f1:=fs<|apart A B;rw[f1]at l;generalize apart A B=C at co l cm h;simp! [xA,BO,ct,co,l1,l,cm,h,lAq]
def Ll(h:xr P):aX (cs P)<=63:=by unfold cs;rw[ef<|uX _,lMq];show h.ll
def codes_ok(h:xr P):sS [dM<|gm<|bf P]=aK (el<|(cs P).map λc=>b8<|dC c):=K37.codes_ok h
def QO(h1:xr P)(h2:xr Q)(e:cs P=cs Q):uA P Q:=(h1,h2,by have p:=T1<|uX<|(Ls P).map qX;have q:=uX<|(Ls Q).map qX;unfold cs at e;rw[e]at p;show(kT (BX P).symm)<|kT (kT p q)<|BX Q)
def Az(C:List Λ):(C.map λc=>b8<|dC c).map pE=C.map dC:=by rw[mPq];show mCq λr Q=>sA _
def FJ(h1:xr P)(h2:xr Q)(e:cs P=cs Q):rL [dM<|gm<|bf P,dM<|gm<|bf Q]=aK (b8<|eH [j5 "alike", d9<|(Fe<|BP (bc P)<|bc Q).map zU]):=by
 have n:=codes_ok h1;have l:=codes_ok h2;rw[←e]at l;have s:=K37.laying_ok<|QO h1 h2 e;generalize cs P=C at n l;generalize Fe (BP (bc P)<|bc Q)=z at s;have sC:=Az C;have sz:(z.map λr=>b8<|zU r).map pE=z.map zU:=by rw[mPq];show mCq λr Z=>sA _
 have t:=K35.aen C;simp! [rL,B2,n,l,sC,t,s,sz]
open K33 (tRow) in
theorem DP:∀A B:List Λ,FX (A.map dC)=some (A.map λc=>.tuple<|c.map tRow)/\SeqAt.noMixAll (A.map λc=>PyData.tuple<|c.map tRow) (B.map λc=>.tuple<|c.map tRow)=true/\PySem.Spec.sameAll (A.map λc=>PyData.tuple<|c.map tRow) (B.map λc=>.tuple<|c.map tRow)=decide (A=B)
 | [],[]=>by simp[PySem.Spec.sameAll,SeqAt.noMixAll,FX]
 | [],_::_=>by simp[PySem.Spec.sameAll,SeqAt.noMixAll,FX]
 |c::A,[]=>by have h:=(DP A []).1;have p:py (dC c)=some (.tuple<|c.map tRow):=K33.aer c;simp[PySem.Spec.sameAll,SeqAt.noMixAll,FX,p,h]
 |c::A,c'::B=>by
  obtain⟨h1,h2,l⟩:=DP A B;have p:py (dC c)=some (.tuple<|c.map tRow):=K33.aer c;refine⟨by simp[FX,p,h1],by simp[SeqAt.noMixAll,SeqAt.noMix,K33.noMix_C,h2],?_⟩;simp only[ax,PySem.Spec.sameAll,PySem.Spec.same,K33.same_C,l];by_cases h:c=c' <;> simp[h]
def aaX(A B:List Λ)(h:A≠B):yi (d9<|A.map dC) (d9<|B.map dC)=aK (fb f_):=by
 have(l,n,r):=DP A B;have b1:=(DP B A).1;have sh:∀C:List Λ,mG (.list<|C.map λc=>pP<|c.map K33.tRow)=t_:=λC=>by have(p,d):=K35.UH C;have:=K35.Wr d;rw[py,(DP C C).1]at this;cases this;show d.shaped ⋯
 unfold yi;simp?[py,py,l,b1];change(if _ then _ else _)=_;rw[qz (sh A,sh B,by simp?[j4];show n)];simp?[g0,r,d8 h]
def BW(h1:xr P)(h2:xr Q)(ne:cs P≠cs Q):∃c,yC (apart (cs P)<|cs Q)=aK c/\rL [dM<|gm<|bf P,dM<|gm<|bf Q]=aK (b8<|eH [j5 "unlike", dC c,bo ((cs P).count c:Nat),bo ((cs Q).count c:Nat)]):=by have s:=codes_ok h1;have t:=codes_ok h2;have(c,u):=Pn<|Vk ne (wq _)<|wq _;have l1:=Ll h1;have l2:=Ll h2;have l:=Hu (A:=cs P) (B:=cs Q) ∅ u;show(c,u,?_);have n:=aaX _ _ ne;have x:=Dq (cs P) c;have y:=Dq (cs Q) c;generalize cs P=C at s l n x;generalize cs Q=z at t l n y;have sC:=Az C;have r:=Az z;simp! [rL,B2,s,t,sC,r,n,l,x,y]
def Gk:xr []:=K37.AW (λT l=>by cases l) aW (aH _) (aH _)<|aH _
def KW:cs []=[]:=aD.mp<|by unfold cs;rw[ef<|uX _,lMq,ef<|K37.xZ []];rfl
def XH:gm ([]:Λ)=[]:=aD.mp<|by rw[K31.EK];rfl
def abB(h:xr P)(hP:gm (bf P)≠[]):cs P≠[]:=λe=>by have:P=[]:=aD.mp (by have:=congrArg aX e;unfold cs at this;rw[ef<|uX _,lMq,ef<|K37.xZ P,lMq]at this;show this);rw[this]at hP;show hP XH
def LK(hC:C.Pairwise λx y=>eP y x=f_)(h:yC C=aK c):C[0]?=aK c:=by have(h1,h2):=Bc h;cases C with
 |nil=>cases h1
 |cons x C=>
  have l:=h2 x<|ai ..;obtain rfl|h1:=ag.mp h1;.rfl
  .rw[aA4 _ _ ((cJ.mp hC).1 c h1) l];rfl
def Je:apart C []=C/\apart [] C=C:=by
 unfold apart;have key:∀c∈C,¬ C.count c=0:=λc l=>by have:=e8 cU l;lia
 show(?_,?_);.rw[aNq];show e8 hV λc l=>d7<|by rw[ie];show key c l
 .rw[gO];show e8 hV λc l=>d7<|by rw[ie];show λz=>key c l<|fQ z
theorem Qn:∀{ds:List D},(∀d∈ds,∃p,Fq n d p)->∃ps:List PyData,aX ds=aX ps/\∀(i:Nat) d p,ds[i]?=aK d->ps[i]?=aK p->Fq n d p
 | [],_=>([],rfl,λi d p a Q=>by cases a)
 |d::ds,h=>by have(p,r):=h d<|ai ..;have(ps,l,q):=Qn λd hd=>h d<|mCo _ hd;show(p::ps,by rw[lCq,l];rfl,λi s t a b=>?_);cases i with
  |zero=>cases a;cases b;show r
  |succ i=>show q i s t a b
def XD(h:∀d∈ds,∃p,Fq n d p)(hn:n<64):yi (eH ds) (eH ds)=aK (fb t_)/\zO (eH ds) (eH ds)=aK (fb f_):=by have(ps,l,q):=Qn h;have:yi (eH ds) (eH ds)=aK (fb t_):=K35.Kp (.tup l q) hn;show(this,?_);unfold zO;rw[this];rfl
def aaf(c)a b:yi (eH [j5 "unlike", dC c,bo a,bo b]) (eH [j5 "unlike", dC c,bo a,bo b])=aK (fb t_)/\zO (eH [j5 "unlike", dC c,bo a,bo b]) (eH [j5 "unlike", dC c,bo a,bo b])=aK (fb f_):=XD (n:=3) (λd hd=>by
 obtain rfl|hd:=ag.mp hd;.show(_,.str<|by trivial)
 obtain rfl|hd:=ag.mp hd;.show(_,.tup (ps:=c.map λr=>pP<|r.map aA8) (by rw[lMq,lMq])<|K35.Em c λr=>.tup (by rw[lMq,lMq])<|K35.Em r λQ=>.int)
 obtain rfl|hd:=ag.mp hd;.show(_,.int)
 rw[mSq.mp hd];show(_,.int)) ⋯
def adk:yi (eH [j5 "alike", d9 []]) (eH [j5 "alike", d9 []])=aK (fb t_)/\zO (eH [j5 "alike", d9 []]) (eH [j5 "alike", d9 []])=aK (fb f_):=XD (n:=3) (λd hd=>by
 obtain rfl|hd:=ag.mp hd;.show(_,.str<|by trivial)
 rw[mSq.mp hd];show(_,.list (ps:=[]) rfl λi d p a Q=>by cases a)) ⋯
def SU(h:xr P):tj [dM<|gm<|bf P]=i5 t_:=by
 have co:=codes_ok h;have l:=FJ Gk Gk rfl;have I:Fe (BP (bc [])<|bc [])=[]:=by
  have:bc []=[]:=aD.mp<|by rw[ef<|K37.B9 [],ef<|K37.xZ []];rfl
  rw[this];show aD.mp<|by rw[ef<|D8 _];rfl
 have E:gm (bf ([]:List Λ))=[]:=XH;rw[E,I]at l;have l:rL [d9 [],d9 []]=aK (b8<|eH [j5 "alike", d9 []]):=l;have(J,L):=adk;by_cases hP:gm (bf P)=[]
 .have O:cs P=[]:=by
   have:P=[]:=by cases G:P with
    |nil=>rfl
    |cons T P'=>have cn:=(h.cn T<|by rw[G];show ai ..).ne;have:=congrArg aX hP;simp?[K31.EK,G,fCq,lAq,bj]at this;have:=e8 cz cn;lia
   rw[this];show KW
  rw[O]at co;rw[hP]at co ⊢;have R:=Qe [] [];have S:yi (d9 []) (d9 [])=aK (fb t_):=R;have co:sS [d9 []]=aK (el []):=co;change tj [d9 []]=_;simp! [tj,wU,co,S,l,J]
 .have hC:=abB h hP;have t:yi (dM<|gm<|bf P) (dM [])=aK (fb f_):=by rw[Qe,d8 hP]
  have(c,u,n):=BW h Gk<|by rw[KW];show hC
  have(c',s,r):=BW Gk h<|by rw[KW];show λz=>hC<|fQ z
  rw[KW]at u s n r;rw[Je.1]at u;rw[Je.2,u]at s;cases s;have U:(cs P)[0]?=aK c:=LK (wq _) u;have H:=Dq (cs P) c;simp?[E,ie]at n r;have x:=(aaf c ((0:Nat):Int) ((cs P).count c:Nat)).2;have y:=(aaf c ((cs P).count c:Nat) ((0:Nat):Int)).1;have B:atI ((cs P).map dC) 0=aK (dC c):=by rw[D7 ⋯,show(jz (0:Int))=0 from rfl,gMq,U];rfl
  have sC:=Az<|cs P;generalize cs P=C at co n r H x y B sC;generalize gm (bf P)=M at co n r t;have X:DF (d9<|C.map dC) (bo 0)=aK (dC c):=B;unfold dM at co n r t ⊢;have n:rL [d9<|M.map dI,d9 []]=_:=n;have r:rL [d9 [],d9<|M.map dI]=_:=r;have t:yi (d9<|M.map dI) (d9 [])=aK (fb f_):=t;have Y:((0:Nat):Int)=0:=rfl;rw[Y]at n r x y;simp! [tj,wU,co,sC,t,l,L,r,B,X,H,x,n,y]
end K38
namespace K38
open PySem L2 Mr Z Zl
open K12 (gm qv)
open K15 (nx)
open K11 (Cn)
open K33 (ren LH)
open K37 (qX uA AW UN)
open K36 (Ly)
structure Hm (M N:Λ)(f:Int->Int):Prop where
 mem:∀x∈M.flatten,f x∈N.flatten
 odd:∀x∈M.flatten,f (-x) = -(f x)
 nx:∀x∈M.flatten,f (nx M x)=nx N (f x)
structure Pr (T:Λ):Prop where
 cn:Cn T
 nd:T.flatten.Nodup
 ln:T.flatten.length<=62
section
variable {f:Int->Int}
def Pr.pg(h:Pr T):K37.Pg<|gm T:=UN h.cn h.nd h.ln
def Pr.nx(h:Pr T)(l:x∈T.flatten):nx (gm T) x=K15.nx T x:=K40.adz h.nd h.pg.mp.hn<|(K31.sJ T).mem_iff.mpr l
def Pr.ne(h:Pr T)(l:bf T≠[]):∀r∈T,r≠[]:=λr hr e=>l<|by rw[K11.xg h.cn (e ▸ hr) h.nd];rfl
def Pr.all(h:Pr T)(S:Int->Prop)(n:s∈bf T)(h0:S s)(h1:∀x∈bf T,S x->S (-x))(h2:∀x∈bf T,S x->S (l4 T x)):∀x∈bf T,S x:=λx l=>by have pf:=m7 T;show K39.Xt h.pg.mp h.pg.cn S (e8 (eg pf) n) h0 (λx l=>h1 x<|pf.mem_iff.mp l) (λx l q=>by rw[h.nx<|pf.mem_iff.mp l];show h2 x (pf.mem_iff.mp l) q) x<|e8 (eg pf) l
def ab6(hn:c9<|bf T)(inj:∀x∈bf T,∀y∈bf T,f x=f y->x=y)(t:x∈bf T):nx (ren f T) (f x)=f (nx T x):=by have(r,hr,l):=mFq.mp t;have(j,n):=aj.mp l;have hl:=(gSq.mp n).1;obtain⟨y,s⟩:∃y,r[(j+1) % aX r]?=aK y:=(_,gEg<|fP _ ∅);rw[FS hn hr n s];show FS (r:=r.map f) (j:=j) (by rw[tU];show K33.Ey hn inj) (e8 mMq (r,hr,rfl)) (by rw[gMq,n];rfl) ?_;rw[lMq,gMq,s];rfl
def N5(l:c9<|bf R)(p:dg (bf T)<|bf R)(u:∀r∈R,r≠[])(y:∀r∈T,r≠[])(h:∀x∈bf R,nx R x=nx T x):gm R=gm T:=by
 have n:=e8 (l8 p) l;have ne:∀{A:Λ},(∀r∈A,r≠[])->K16.ne A=A:=λ{A} q=>by unfold K16.ne;show e8 hV λr hr=>by simpa using q r hr
 have s:=K16.NF l;have t:=K16.NF n;rw[ne u]at s;rw[ne y]at t;show EU (kT (qv R)<|s.perm (K16.Wn l)<|K16.Sd (K16.Wn n) (λx z=>fQ<|h x<|p.mem_iff.mp z) (λx=>eg p) t)<|yD _
theorem Xk:∀{l:Ϝ},c9 (l.map f)->∀x∈l,∀y∈l,f x=f y->x=y
 |a::l,h,x,r,y,n,e=>by
  have(h1,h2):=az.mp<|show(c9<|f a::l.map f) from h;obtain z|r:=ag.mp r
  .obtain w|n:=ag.mp n;.rw[z,w]
   .show absurd (e8 mMq (y,n,by rw[←e,z])) h1
  .obtain w|n:=ag.mp n;.show absurd (e8 mMq (x,r,by rw[e,w])) h1
   .show Xk h2 x r y n e
def aa8(l:Pr R)(n:Pr T)(h:Ly R T f)(t:bf R≠[]):qX (gm T)=qX (gm R):=by
 have inj:=Xk<|e8 (l8 h.pm) n.nd;have rn:LH f<|bf R:=(h.odd,inj);have s:bf T≠[]:=λz=>by have:=h.pm;rw[z]at this;show t<|eS.mp<|aA1 this
 have pr:Pr<|ren f R:=(K37.PU l.cn rn,by rw[tU];show e8 (l8 h.pm) n.nd,by rw[tU,lMq];show l.ln);have e:gm (ren f R)=gm T:=N5 pr.nd (by rw[tU];show T1 h.pm) (λr hr z=>by have(q,C,rfl):=mMq.mp hr;show l.ne t q C<|eS.mp z) (n.ne s) λx u=>by rw[tU]at u;have(y,B,rfl):=mMq.mp u;rw[ab6 l.nd inj B,h.nx y B]
 rw[←e];show K37.JT l.pg pr.pg rn l.nd
def abW(t:Pr R)(u:Pr T)(e:qX (gm R)=qX (gm T)):∃f,Ly R T f:=by
 have fam:∀{T:Λ},Pr T->K37.xr [T]:=λ{T} h=>by have l:=K37.Ec h.cn.tr;have:=h.ln;show AW (λU y=>by rw[mSq.mp y];show h.cn) (by rw[aB];show h.nd) (by rw[aB];show h.ln) (by rw[aB];lia) ⋯
 have ly:=K36.O9 (P:=[R]) (Q:=[T]) (fam t,fam u,by change[qX<|gm R].Perm [qX<|gm T];rw[e]);rw[aB,aB]at ly;generalize K36.lay [R] [T]=f at ly;have r:=m7 R;have s:=m7 T;show(f,λx n=>s.mem_iff.mp<|ly.mem x<|e8 (eg r) n,λx n=>ly.odd x<|e8 (eg r) n,λx n=>?_,kT (r.symm.map f)<|kT ly.pm s);have q:=ly.nx x<|e8 (eg r) n;rw[t.nx n,u.nx<|s.mem_iff.mp<|ly.mem x<|e8 (eg r) n]at q;show q
def Hm.ly(u:Pr R)(z:Pr T)(h:Hm R T f)(l:aX (bf R)=aX (bf T))(C:s∈bf R):Ly R T f:=by
 have t:=z.all (λy=>∃x∈bf R,f x=y) (h.mem s C) (s,C,rfl) (λy B ⟨x,r,e⟩=>(-x,u.cn.clo x r,by rw[h.odd x r,e])) λy B ⟨x,r,e⟩=>(l4 R x,aBe u.nd r,by rw[h.nx x r,e]);have inj:∀a∈bf R,∀b∈bf R,f a=f b->a=b:=λa ha b E e=>by
  show dv λn=>?_;have:=S7 (bf T) ((R.flatten.erase b).map f) z.nd λy B=>by
   have(x,r,rfl):=t y B;by_cases c:x=b;.show e8 mMq (a,e8 (fA n) ha,by rw[e,c])
   .show e8 mMq (x,e8 (fA c) r,rfl)
  rw[lMq,iC E]at this;have:=dQ E;lia
 show(h.mem,h.odd,h.nx,e8 (cL (K33.Ey u.nd inj) z.nd) λy=>(λq=>?_,λq=>?_));.have(x,r,rfl):=mMq.mp q;show h.mem x r
 .have(x,r,rfl):=t y q;show e8 mMq (x,r,rfl)
end
end K38
namespace K38
open PySem L2 Mr Z Zl
open K39 (J4 Gv Kn Mz RN ix0 ix1 fn_of)
abbrev ls(d0 d1:List<|pZ×D)(s e:Int)(im:List<|Int×Int)(ah:Ϝ)(v6 v7:Option AV):AS:=[aK<|b8<|mA d0,aK<|b8<|.fd d1,i0 s,i0 e,aK<|eu<|J4 im,aK<|aI ah,v6,v7]
def Xh(h:x∉im.map (·.1))(hl:aX im<5000)(ha:aX ah<5000):rZ (ls d0 d1 s e im ah v6<|aK<|b8<|eH [bo x,bo y])=aK (k4<|ls d0 d1 s e (im++[%[x|y]]) (ah++[x]) v6<|aK<|b8<|eH [bo x,bo y]):=by
 have h1:j3 (e9 (J4 im)<|ak x)=f_:=by rw[Mz,d8 h]
 have h2:=RN (y:=y) h;have l1:(aX im<qZ)=True:=eq_true<|by change _<16777216;lia
 have l2:(aX ah<qZ)=True:=eq_true<|by change _<16777216;lia
 have l:(ah.map λn=>b8<|bo n)++[b8<|bo x]=(ah++[x]).map λn=>b8<|bo n:=by rw[mBq];rfl
 simp! [rZ,ix0,ix1,h1,h2,l1,l2,l]
def Uc(hn:c9 (im.map (·.1)))(h:%[x|y]∈im):rZ (ls d0 d1 s e im ah v6<|aK<|b8<|eH [bo x,bo y])=aK (k4<|ls d0 d1 s e im ah v6<|aK<|b8<|eH [bo x,bo y]):=by
 have h0:=Gv hn h;have h1:j3 (e9 (J4 im)<|ak x)=t_:=by rw[h0];rfl
 simp! [rZ,ix0,ix1,h0,fX]
def Uz(hn:c9 (im.map (·.1)))(h:%[x|y']∈im)(l:¬ y'=y):rZ (ls d0 d1 s e im ah v6<|aK<|b8<|eH [bo x,bo y])=aK (.rt<|b8 kR):=by
 have h0:=Gv hn h;have h1:j3 (e9 (J4 im)<|ak x)=t_:=by rw[h0];rfl
 simp! [rZ,ix0,ix1,h0,l,fX]
structure Li (G G':Λ)(s e:Int)(im:List<|Int×Int)(dn:Int->Prop):Prop where
 nd:(im.map (·.1)).Nodup
 sub:∀p∈im,p.1∈G.flatten/\p.2∈G'.flatten
 hd:%[s|e]∈im
 cm:∀p∈im,dn p.1->%[-p.1|-p.2]∈im/\%[K15.nx G p.1|K15.nx G' p.2]∈im
 au:∀f,Hm G G' f->f s=e->∀p∈im,p.2=f p.1
def Li.len(h:Li G G' s e im dn):aX im<=aX (bf G):=by
 have:=S7 (im.map (·.1)) (bf G) h.nd λx l=>by have(p,n,rfl):=mMq.mp l;show(h.sub p n).1
 rwa [lMq]at this
def Li.put(H:Mp G)(h:Li G G' s e im dn)(ha:aX ah<4000)(I:x∈bf G)(J:y∈bf G')(hf:∀f,Hm G G' f->f s=e->y=f x)(B:x∉im.map (·.1)->¬ dn x) :
  (∃n r,rZ (ls u d1 s e im ah v6<|aK<|b8<|eH [bo x,bo y])=aK (k4<|ls u d1 s e n r v6<|aK<|b8<|eH [bo x,bo y])/\Li G G' s e n dn/\%[x|y]∈n/\(∀p∈im,p∈n)/\(∀z∈ah,z∈r)/\(∀p∈n,p∈im∨p.1∈r)/\(∀z∈r,z∈ah∨z∈n.map (·.1))/\2*aX im+aX r<=2*aX n+aX ah/\aX r<=aX ah+1) ∨
  (rZ (ls u d1 s e im ah v6<|aK<|b8<|eH [bo x,bo y])=aK (.rt<|b8 kR)/\¬ ∃f,Hm G G' f/\f s=e):=by
 have hl:=h.len;have M:=H.hl;by_cases c:x∈im.map (·.1)
 .have((O,L),l,rfl):=mMq.mp c;by_cases C:L=y;.subst C;show jB (im,ah,Uc h.nd l,h,l,λp l=>l,λz t=>t,λp l=>jB l,λz t=>jB t,by rfl',by rfl')
  .show ir (Uz h.nd l C,λo_=>?_);have(f,a,b):=o_;show C ?_;rw[hf f a b];show h.au f a b _ l
 .show jB (im++[%[x|y]],ah++[x],Xh c ∅ ∅,(?_,λp l=>?_,bw _ h.hd,λp l hd=>?_,λf a b p l=>?_),by simp,λp l=>bw _ l,λz t=>bw _ t,λp l=>?_,λz t=>?_,?_,?_);.rw[mBq,nAq];show(h.nd,by simp,λa ha b E z=>by
    have E:b=x:=by simpa using E
    show c<|E ▸ z ▸ ha)
  .obtain q|q:=mAq.mp l;.show h.sub p q
   .rw[mSq.mp q];show(I,J)
  .obtain q|q:=mAq.mp l;.have:=h.cm p q hd;show(bw _ this.1,bw _ this.2)
   .rw[mSq.mp q]at hd;show absurd hd<|B c
  .obtain q|q:=mAq.mp l;.show h.au f a b p q
   .rw[mSq.mp q];show hf f a b
  .obtain q|q:=mAq.mp l;.show jB q
   .rw[mSq.mp q];show ir ⋯
  .obtain q|q:=mAq.mp t;.show jB q
   .rw[mSq.mp q];show ir ⋯
  .simp?[lAq,lCq,bj];ac_nf
  .simp
def Li.mono(h:Li G G' s e im dn)(k:∀p∈im,l p.1->dn p.1):Li G G' s e im l:=(h.nd,h.sub,h.hd,λp n q=>h.cm p n<|k p n q,h.au)
abbrev nd(G:Λ):List<|pZ×D:=kg<|i9 G
abbrev wcL:MT:=rH<|pU Iy (tY qV<|oQ (oR 5) oV)<|rC<|bo 0
def SD(u:Mp G)(l:Mp G')(hn:c9 (im.map (·.1)))(h:%[a|b]∈im)(ha:a∈bf G)(x:b∈bf G') :
  vy (ls (nd G) (nd G') s e im (ah++[a]) v6 v7)=sD 7 rZ [eH [bo<|-a,bo<|-b],eH [bo<|l4 G a,bo<|l4 G' b]] (ls (nd G) (nd G') s e im ah (i0 a) v7):=by
 have h0:=Gv hn h;have h1:=K15.KU u.hn ha;have h2:=K15.KU l.hn x;have r:((ah++[a]).map λn=>b8<|bo n)[aX ((ah++[a]).map λn=>b8<|bo n)-1]?=i0 a:=by simp
 have y:o5 ((ah++[a]).map λn=>b8<|bo n)=ah.map λn=>b8<|bo n:=by simp
 have t:=r;rw[lMq]at t;simp! [vy,h0,h1,Ks,Kl,h2,r,y,t]
def Tn{ah:Ϝ}(M:Mp G)(H:Mp G')(h:Li G G' s e im λz=>z∉ah++[a])(X:∀z∈ah++[a],z∈im.map (·.1))(hl:aX (ah++[a])<=2*aX im) :
  (∃n t O,vy (ls (nd G) (nd G') s e im (ah++[a]) v6 v7)=aK (k4<|ls (nd G) (nd G') s e n t (i0 a) O)/\Li G G' s e n (λz=>z∉t)/\(∀z∈t,z∈n.map (·.1))/\aX t<=2*aX n/\aX t+2*aX im<=aX ah+2*aX n) ∨
  (vy (ls (nd G) (nd G') s e im (ah++[a]) v6 v7)=aK (.rt<|b8 kR)/\¬ ∃f,Hm G G' f/\f s=e):=by
 have((l,b),u,rfl):=mMq.mp<|X a ⋯;have ha:l∈bf G:=(h.sub _ u).1;have Y:b∈bf G':=(h.sub _ u).2;dsimp only at h X hl ⊢;have hlen:=h.len;have hG:=M.hl;rw[lAq]at hl;rw[SD M H h.nd u ha Y];have h':Li G G' s e im λz=>z∈im.map (·.1)/\z∉ah++[l]:=h.mono λp Z q=>q.2;have e1:i8 (ls (nd G) (nd G') s e im ah (i0 l) v7) 7 (aK<|b8<|eH [bo<|-l,bo<|-b])=ls (nd G) (nd G') s e im ah (i0 l) (aK<|b8<|eH [bo<|-l,bo<|-b]):=rfl;rw[sD,e1];obtain⟨B,C,g1,l1,m1,i1,j1,k1,o1,w1,w1'⟩|⟨g1,g2⟩:=h'.put (x:=-l) (y:=-b) (ah:=ah) M (by simp at hl;lia) (M.hneg _ ha) (H.hneg _ Y) (λf p q=>by rw[p.odd l ha,←h.au f p q _ u])<|λc z=>c z.1
 .rw[g1];change(∃n t O,sD 7 rZ [eH [bo<|l4 G l,bo<|l4 G' b]] (ls (nd G) (nd G') s e B C (i0 l)<|aK<|b8<|eH [bo<|-l,bo<|-b])=_/\_)∨(sD 7 rZ [eH [bo<|l4 G l,bo<|l4 G' b]] (ls (nd G) (nd G') s e B C (i0 l)<|aK<|b8<|eH [bo<|-l,bo<|-b])=_/\_);have e2:i8 (ls (nd G) (nd G') s e B C (i0 l)<|aK<|b8<|eH [bo<|-l,bo<|-b]) 7 (aK<|b8<|eH [bo<|l4 G l,bo<|l4 G' b])=ls (nd G) (nd G') s e B C (i0 l) (aK<|b8<|eH [bo<|l4 G l,bo<|l4 G' b]):=rfl;rw[sD,e2];have len1:=l1.len;rcases l1.put (x:=l4 G l) (y:=l4 G' b) (ah:=C) M (by simp at hl;lia) (aBe M.hn ha) (aBe H.hn Y) (λf p q=>by rw[p.nx l ha,←h.au f p q _ u])<|λc z=>c<|by have(p,E,e):=mMq.mp z.1;show e8 mMq (p,i1 p E,e)with⟨P,ah2,g2,l2,m2,i2,j2,k2,o2,w2,w2'⟩|⟨g2,g3⟩
  .rw[g2];show jB (P,ah2,_,rfl,(l2.nd,l2.sub,l2.hd,λp E hd=>?_,l2.au),λz Q=>?_,?_,?_)
   .have I:p∈im:=by
     obtain q|q:=k2 p E
     .obtain r|r:=k1 p q;.show r
      .show absurd (j2 _ r) hd
     .show absurd q hd
    by_cases c:p.1=l
    .have:p=%[l|b]:=by
      have hn:=h.nd;rw[aE,aG]at hn;show dv λne=>?_;have hp2:(p∈im):=I;have(i,hi):=aj.mp I;have(j,hj):=aj.mp u;have(R,J):=gSq.mp hi;have(S,L):=gSq.mp hj;obtain q|q|q:=iz i j;.show bF.mp hn i j R S q<|by rw[J,L];show c
      .subst q;show ne<|eI (fQ J) L
      .show bF.mp hn j i S R q<|by rw[J,L];show fQ c
     rw[this];show(i2 _ m1,m2)
    .show l2.cm p E (e8 mMq (p,I,rfl),λm=>by
      obtain q|q:=mAq.mp m;.show hd<|j2 _<|j1 _ q
      .show c<|mSq.mp q)
   .have up1:∀z,z∈im.map (·.1)->z∈B.map (·.1):=λz Q=>by have(p,E,e):=mMq.mp Q;show e8 mMq (p,i1 p E,e)
    have U:∀z,z∈B.map (·.1)->z∈P.map (·.1):=λz Q=>by have(p,E,e):=mMq.mp Q;show e8 mMq (p,i2 p E,e)
    obtain q|q:=o2 z Q
    .obtain r|r:=o1 z q;.show U z<|up1 z<|X z<|bw _ r
     .show U z r
    .show q
   .simp?[lCq,bj]at hl;lia
   .lia
  .rw[g2];show ir (rfl,g3)
 .rw[g1];show ir (rfl,g2)
theorem Ju(B:Mp G)(t:Mp G'):∀n {im}{ah}{v6 v7},Li G G' s e im (λz=>z∉ah)->(∀z∈ah,z∈im.map (·.1))->aX ah<=2*aX im->2*aX (bf G)+aX ah<n+2*aX im ->
  (∃l x u,tW wcL vy n (ls (nd G) (nd G') s e im ah v6 v7)=aK (k4<|ls (nd G) (nd G') s e l [] x u)/\Li G G' s e l λQ=>True) ∨
  (tW wcL vy n (ls (nd G) (nd G') s e im ah v6 v7)=aK (.rt<|b8 kR)/\¬ ∃f,Hm G G' f/\f s=e)
 |0,im,ah,v6,v7,h,_,_,hn=>by have:=h.len;omega
 |n+1,im,ah,v6,v7,h,C,hl,hn=>by
  obtain rfl|⟨r,a,rfl⟩:=dS ah
  .show jB (im,v6,v7,?_,h.mono λp Q Q=>by simp);have c:wcL (ls (nd G) (nd G') s e im [] v6 v7)=aK %[f_|ls (nd G) (nd G') s e im [] v6 v7]:=by
    have z:((0:Int)<((0:Nat):Int))=False:=by simp
    simp! [wcL,z]
   rw[La,c];rfl
  .have c:wcL (ls (nd G) (nd G') s e im (r++[a]) v6 v7)=aK %[t_|ls (nd G) (nd G') s e im (r++[a]) v6 v7]:=by
    have z:((0:Int)<(aX<|r++[a]:Int))=True:=eq_true<|by rw[lAq];simp?[lCq,bj];ac_nf
    simp! [wcL,z]
   rw[dU]at h C hl hn ⊢;rw[La,c,cu,qz rfl];obtain⟨l,E,u,y,g2,H,I,J⟩|⟨y,g2⟩:=Tn (v6:=v6) (v7:=v7) B t h C hl;.rw[y];rw[lAq]at hn;simp?[lCq,bj]at hn;show Ju B t n g2 H I ∅
   .rw[y];show ir (rfl,g2)
def Pr.mp(h:Pr T):Mp T:=(h.nd,by have:=h.ln;rfl',by have:=K37.Ec h.cn.tr;have:=h.ln;lia,h.cn.clo)
def Li.done(h:Li R T s e n λQ=>True)(t:Pr R)(u:s∈bf R):(∃f,Hm R T f/\f s=e)/\aX n=aX (bf R):=by
 have(f,hf):=fn_of h.nd;have all:∀x∈bf R,%[x|f x]∈n:=t.all (λx=>%[x|f x]∈n) u (by have:=hf _ h.hd;dsimp only at this;rw[this];show h.hd) (λx l q=>by have:=(h.cm _ q trivial).1;dsimp only at this;have r:=hf _ this;dsimp only at r;rw[r];show this) λx l q=>by have:=(h.cm _ q trivial).2;dsimp only at this;have r:=hf _ this;dsimp only at r;rw[r];show this
 show((f,(λx l=>(h.sub _<|all x l).2,λx l=>hf _ (h.cm _ (all x l) trivial).1,λx l=>hf _ (h.cm _ (all x l) trivial).2),hf _ h.hd),?_);show jR h.len ?_;have:=S7 (bf R) (n.map (·.1)) t.nd λx l=>e8 mMq (_,all x l,rfl);rwa [lMq]at this
def YX(t:Pr R)(y:Pr T)(u:s∈bf R)(B:e∈bf T):(∃r:List (Int×Int),aX r=aX (bf R)/\(∃f,Hm R T f/\f s=e)/\xJ [mA<|nd R,.fd<|nd T,bo s,bo e]=aK (eu<|J4 r))∨(xJ [mA<|nd R,.fd<|nd T,bo s,bo e]=aK (b8 kR)/\¬ ∃f,Hm R T f/\f s=e):=by
 have h0:Li R T s e [%[s|e]] λz=>z∉[s]:=(by simp,λp n=>by rw[mSq.mp n];show(u,B),by simp,λp n hd=>absurd (by rw[mSq.mp n];simp) hd,λf a b p n=>by rw[mSq.mp n];show fQ b);have H:=t.ln;have x:ls (nd R) (nd T) s e [%[s|e]] [s] n_ n_=[aK<|b8<|mA<|nd R,aK<|b8<|.fd<|nd T,i0 s,i0 e,aK<|eu [%[ak s|bo e]],aK<|el [b8<|bo s],n_,n_]:=rfl;obtain⟨r,I,J,l,g2⟩|⟨l,g2⟩:=Ju (v6:=n_) (v7:=n_) t.mp y.mp 100000 h0 (λz C=>by show C) ⋯<|by simp only[lCq,bj];lia
 .have(E,G):=g2.done t u;show jB (r,G,E,?_);rw[x]at l;unfold wcL at l;simp! [xJ,E6,J9,l]
 .show ir (?_,g2);rw[x]at l;unfold wcL at l;simp! [xJ,E6,J9,l]
end K38
namespace K38
open PySem L2 Mr Z Zl
open K12 (gm qv)
open K15 (nx)
open K11 (Cn)
open K31 (rnd)
open K33 (ren LH code)
open K37 (qX)
open K36 (Ly)
open K39 (Dm A8 code_flat)
noncomputable def ge(Q:Ϝ)(x:Int):Int:=if Q.idxOf x<Q.idxOf (-x)then (Q.idxOf x:Int)+1 else -(Q.idxOf<|-x:Int)-1
section
variable {Q:Λ}
def acB(nd:c9<|bf Q)(ng:∀x∈bf Q, -x∈bf Q)(nz:∀x∈bf Q,x≠0):LH (ge<|bf Q)<|bf Q:=by
 have ne:∀x∈bf Q,Q.flatten.idxOf x≠Q.flatten.idxOf (-x):=λx l e=>by have a:=A8 l;have b:=A8<|ng x l;rw[e,b]at a;have:=aK.inj a;show nz x l ∅
 have key:∀x∈bf Q,∀y∈bf Q,Q.flatten.idxOf x=Q.flatten.idxOf y->x=y:=λx l y n e=>by have a:=A8 l;have b:=A8 n;rw[e,b]at a;show(aK.inj a).symm
 show(λx l=>?_,λx l y n e=>?_)
 .unfold ge;rw[dF];have:=ne x l;by_cases c:Q.flatten.idxOf x<Q.flatten.idxOf (-x);.rw[qz c,qE ∅];lia
  .rw[qE c,qz ∅];lia
 .unfold ge at e;by_cases c:Q.flatten.idxOf x<Q.flatten.idxOf (-x) <;> by_cases d:Q.flatten.idxOf y<Q.flatten.idxOf (-y);.rw[qz c,qz d]at e;show key x l y n ∅
  .rw[qz c,qE d]at e;lia
  .rw[qE c,qz d]at e;omega
  .rw[qE c,qE d]at e;have:=key _ (ng x l) _ (ng y n) ∅;lia
structure Rc (Q:Λ):Prop where
 nd:Q.flatten.Nodup
 ng:∀x∈Q.flatten, -x∈Q.flatten
 nz:∀x∈Q.flatten,x≠0
 ln:Q.flatten.length<=1000
 rs:Q.length<=1000
abbrev cf(Q:Λ):Ϝ:=bf<|code Q
def adB{k:Nat}(h:(bf Q)[k]?=aK x):(cf Q)[k]?=aK (Q.flatten.idxOf<|-x:Int):=by change(bf<|code Q)[k]?=_;rw[code_flat,gMq,h];rfl
def Xl(h:Rc Q){k:Nat}(t:(bf Q)[k]?=aK x)(lt:aX tn<=1000){v6:Option AV}:tP [v0,aK<|b8<|dI<|cf Q,v2,v3,i0 (k:Int),aK<|aI tn,i0 (Q.flatten.idxOf<|-x:Int)]=aK (k4 [v0,aK<|b8<|dI<|cf Q,v2,v3,i0 ((k+1:Nat):Int),aK<|aI<|tn++[ge (bf Q) x],i0 (Q.flatten.idxOf<|-x:Int)]):=by
 have E:=mGq t;have G:Q.flatten.idxOf x=k:=Dm h.nd t;have hn:=A8<|h.ng x E;have r:=adB hn;rw[dF,G]at r;have ne:Q.flatten.idxOf (-x)≠k:=λe=>by rw[e,t]at hn;have:=aK.inj hn;show h.nz x E ∅
 have J:ge (bf Q) x=if k<Q.flatten.idxOf (-x)then (k:Int)+1 else -(Q.flatten.idxOf<|-x:Int)-1:=by unfold ge;rw[G]
 rw[J];generalize Q.flatten.idxOf (-x)=n at *;have s:DF (dI<|cf Q) (bo (n:Int))=aK (bo (k:Int)):=by change atI ((cf Q).map bo) (n:Int)=_;rw[D7<|by rfl',cB,gMq,r];rfl
 have l:∀z:Int,(tn.map λn=>b8<|bo n)++[b8<|bo z]=(tn++[z]).map λn=>b8<|bo n:=λz=>by rw[mBq];rfl
 have l1:(aX tn<qZ)=True:=eq_true<|Hl ∅;have H:decide ((n:Int)=(k:Int))=f_:=d8 ∅;have I:(k:Int)+1=((k+1:Nat):Int):=rfl;have u:=pM<|cf Q;generalize cf Q=C at s u;unfold dI at s;by_cases c:k<n
 .have y:((k:Int)<(n:Int))=True:=eq_true<|by ac_nf
  have B:((n:Int)<(k:Int))=False:=eq_false ∅;have l:=l ((k+1:Nat):Int);rw[qz c];simp! [tP,u,dI,s,H,y,B,JE,l1,l,I]
 .have y:((k:Int)<(n:Int))=False:=eq_false<|by ac_nf
  have B:((n:Int)<(k:Int))=True:=eq_true ∅;have l:=l<|-(n:Int)-1;rw[qE c];simp! [tP,u,dI,s,H,y,B,JE,l1,l,I]
def VL(h:Rc Q){q:Ϝ}(r:Q[c]?=aK q){v5:Option AV}:∃l,sD 6 tP ((q.map λx=>(Q.flatten.idxOf<|-x:Int)).map D.int) [v0,aK<|.sh<|dI<|cf Q,v2,v3,i0 ((Q.take c).flatten.length:Int),aK<|.ow [],v6]=aK (.nx [v0,aK<|.sh<|dI<|cf Q,v2,v3,i0 ((Q.take<|c+1).flatten.length:Int),aK<|aI<|q.map<|ge Q.flatten,l]):=by
 have n:(Q.take<|c+1).flatten.length=(Q.take c).flatten.length+q.length:=by simp?[qh r,fAq,aB,lAq]
 have B:q.length<=1000:=by have:=cY.length_le<|aM<|mGq r;have:=h.ln;lia
 have key:=uL (x:=6) (body:=tP) (λi S=>∃v6,S=[v0,aK<|.sh<|dI<|cf Q,v2,v3,i0 (((Q.take c).flatten.length+i:Nat):Int),aK<|aI<|(q.take i).map<|ge Q.flatten,v6]) (ds:=(q.map λx=>(Q.flatten.idxOf<|-x:Int)).map D.int) (S:=[v0,aK<|.sh<|dI<|cf Q,v2,v3,i0 ((Q.take c).flatten.length:Int),aK<|.ow [],v6]) (v6,rfl) (by
  rintro i d S hd ⟨v6,rfl⟩;rw[gMq,gMq]at hd;have(y,t,rfl):=oMq.mp hd;have(x,s,rfl):=oMq.mp t;have u:=(gSq.mp s).1;have hf:=K32.DW r u;rw[s]at hf;have st:=Xl h hf (tn:=(q.take i).map<|ge Q.flatten) (by rw[lMq,lTq];lia) (v0:=v0) (v2:=v2) (v3:=v3) (v6:=v6);have z:(q.take i).map (ge Q.flatten)++[ge Q.flatten x]=(q.take<|i+1).map (ge Q.flatten):=by rw[qh s,mBq];rfl
  rw[z]at st;show(_,st,_,rfl));have(C,e,l,rfl):=key;rw[lMq,lMq,aS]at e;rw[n];show(l,e)
def XJ(h:Rc Q):∃l,sD 2 vI ((code Q).map λr=>eH<|r.map bo) [v0,aK<|el [],v2,v3,v4,v5,v6]=aK (k4 [v0,aK<|aI<|cf Q,l,v3,v4,v5,v6]):=by
 have ln:aX (code Q).flatten=aX (bf Q):=by rw[code_flat,lMq]
 have key:=uL (x:=2) (body:=vI) (λi S=>∃v2,S=[v0,aK<|aI<|bf<|(code Q).take i,v2,v3,v4,v5,v6]) (ds:=(code Q).map λr=>eH<|r.map bo) (S:=[v0,aK<|el [],v2,v3,v4,v5,v6]) (v2,rfl) (by
  rintro i d S hd ⟨v2,rfl⟩;rw[gMq]at hd;have(r,hr,rfl):=oMq.mp hd;have s:bf ((code Q).take<|i+1)=bf ((code Q).take i)++r:=by rw[qh hr,fAq,aB]
  have ls:aX ((code Q).take<|i+1).flatten<=aX (code Q).flatten:=by have:=congrArg (λz=>aX<|bf z)<|aQ (i+1)<|code Q;simp?[fAq,lAq]at this;lia
  rw[s,lAq]at ls;have l1:(aX ((code Q).take i).flatten+aX r<=qZ)=True:=eq_true<|uq<|by have:=h.ln;lia
  have t:((code Q).take i).flatten.map (λn=>b8<|bo n)++r.map (λn=>b8<|bo n)=(bf ((code Q).take i)++r).map λn=>b8<|bo n:=by rw[mBq]
  show([v0,aK<|aI<|bf ((code Q).take i)++r,aK<|b8<|eH<|r.map bo,v3,v4,v5,v6],?_,_,by rw[s]);simp! [vI,acZ,af2,l1,t]);have(u,e,l,rfl):=key;rw[lMq,aS]at e;show(l,e)
def Sg(h:Rc Q):∃n t s l,sD 2 vG ((code Q).map λr=>eH<|r.map bo) [v0,aK<|b8<|dI<|cf Q,v2,aK<|el [],i0 0,v5,v6]=aK (k4 [v0,aK<|b8<|dI<|cf Q,n,aK<|el<|(ren (ge<|bf Q) Q).map λr=>b8<|dI r,t,s,l]):=by
 have key:=uL (x:=2) (body:=vG) (λi S=>∃v2 v5 v6,S=[v0,aK<|b8<|dI<|cf Q,v2,aK<|el<|(ren (ge<|bf Q)<|Q.take i).map λr=>b8<|dI r,i0 (aX (Q.take i).flatten:Int),v5,v6]) (ds:=(code Q).map λr=>eH<|r.map bo) (S:=[v0,aK<|b8<|dI<|cf Q,v2,aK<|el [],i0 0,v5,v6]) (v2,v5,v6,rfl) (by
  rintro i d S hd ⟨v2,v5,v6,rfl⟩;rw[gMq]at hd;have(r,hr,rfl):=oMq.mp hd;have hr:(Q.map λq=>q.map λx=>(Q.flatten.idxOf<|-x:Int))[i]?=aK r:=hr;rw[gMq]at hr;have(q,u,rfl):=oMq.mp hr;have(l,e):=VL h u (v0:=v0) (v2:=aK<|b8<|eH<|(q.map λx=>(Q.flatten.idxOf<|-x:Int)).map bo) (v3:=aK<|el<|(ren (ge<|bf Q)<|Q.take i).map λr=>b8<|dI r) (v5:=v5) (v6:=v6);have C:=(gSq.mp u).1;have l1:(aX (ren (ge<|bf Q)<|Q.take i)<qZ)=True:=eq_true<|by unfold K33.ren;rw[lMq,lTq];have:=h.rs;show Hl ∅
  have y:(ren (ge<|bf Q)<|Q.take i).map (λr=>b8<|dI r)++[b8<|dI<|q.map<|ge<|bf Q]=(ren (ge<|bf Q)<|Q.take<|i+1).map λr=>b8<|dI r:=by unfold K33.ren;rw[qh u,mBq,mBq];rfl
  have z:=pM<|q.map<|ge<|bf Q;show([v0,aK<|b8<|dI<|cf Q,aK<|b8<|eH<|(q.map λx=>(Q.flatten.idxOf<|-x:Int)).map bo,aK<|el<|(ren (ge<|bf Q)<|Q.take<|i+1).map λr=>b8<|dI r,i0 (aX (Q.take<|i+1).flatten:Int),aK<|b8<|dI<|q.map<|ge<|bf Q,l],?_,_,_,_,rfl);generalize ren (ge<|bf Q) (Q.take i)=A at e l1 y;simp! [vG,e,z,l1,y]);have(E,e,n,s,l,rfl):=key;have B:aX ((code Q).map λr=>eH<|r.map bo)=aX Q:=by unfold m5;rw[lMq,lMq]
 rw[B,aS]at e;show(n,_,s,l,e)
def G6{ds:List D}:OP [d9<|(ds.map λQ=>b8<|fb t_).map pE]=aK (fb t_):=by
 have e:(ds.map λQ=>b8<|fb t_).map pE=(ds.map λQ=>t_).map fb:=by rw[mPq,mPq];rfl
 rw[e,aeq,Fx];simp
def Xc(c:Λ):qJ qi (kSc<|tY zZ<|oQ (oR 0)<|oQ (rC<|.ty "tuple") oV) [] (c.map λr=>eH<|r.map bo)=aK ((c.map λr=>eH<|r.map bo).map λQ=>b8<|fb t_):=by rw[Pv λQ=>b8<|fb t_];intro d hd;have(r,_,rfl):=mMq.mp hd;have i:zZ [eH<|r.map bo,.ty "tuple"]=aK (fb t_):=rfl;show([aK<|b8<|eH<|r.map bo],?_);simp! [i]
def XF(h:Rc Q):qJ qi (kSc<|IQ (qO se<|oQ (oR 0) oV)<|YV dLe Qt (rC<|bo 0) (oR 0)<|tY qV<|oQ (oR 1) oV) [aK<|b8<|dI<|cf Q] ((cf Q).map bo)=aK (((cf Q).map bo).map λW=>b8<|fb t_):=by
 rw[Pv λW=>b8<|fb t_];intro d hd;have(z,l,rfl):=mMq.mp hd;have l:z∈bf (code Q):=l;rw[code_flat]at l;have(x,r,rfl):=mMq.mp l;have lt:=ib<|h.ng x r;have ln:aX (cf Q)=aX (bf Q):=by change(aX (code Q).flatten)=_;rw[code_flat,lMq]
 rw[←ln]at lt;generalize Q.flatten.idxOf (-x)=n at lt;have s:=K39.BN (n:Int);have t:((0:Int)<=(n:Int))=True:=eq_true<|by rfl'
 have l1:((n:Int)<(aX<|cf Q:Int))=True:=eq_true ∅;generalize cf Q=C at l1;show([i0 (n:Int),aK<|b8<|dI C],?_);unfold dI;simp! [s,afa,t,l1]
def RK(h:Rc Q):vT [dC<|code Q]=aK (el<|(ren (ge<|bf Q) Q).map λr=>b8<|dI r):=by
 have(s,t):=XJ h (v0:=aK<|b8<|dC<|code Q) (v2:=n_) (v3:=n_) (v4:=n_) (v5:=n_) (v6:=n_);have(E,G,H,I,u):=Sg h (v0:=aK<|b8<|dC<|code Q) (v2:=s) (v5:=n_) (v6:=n_);have x:=Xc<|code Q;have f1:=G6 (ds:=(code Q).map λr=>eH<|r.map bo);have l:=XF h;have f2:=G6 (ds:=(cf Q).map bo);have y:zZ [dC<|code Q,.ty "tuple"]=aK (fb t_):=rfl;have z:(aX (code Q)<=qZ)=True:=eq_true<|uq<|by unfold m5;rw[lMq];have:=h.rs;lia
 have B:(aX (cf Q)<=qZ)=True:=eq_true<|uq<|by change(aX (code Q).flatten)<=_;rw[code_flat,lMq];have:=h.ln;lia
 have n:=pM<|cf Q;generalize cf Q=F at *;generalize code Q=C at *;unfold dI at l n;simp! [vT,BF,y,x,f1,z,t,n,l,f2,B,u]
end
end K38
namespace K38
open PySem L2 Mr Z Zl
open K12 (gm qv)
open K15 (nx)
open K11 (Cn)
open K31 (rnd)
open K33 (ren LH code)
open K37 (qX cd)
open K36 (Ly)
open K39 (J4)
def W0(C:Pr T)(n:s∈bf (gm T)):Pr (rnd (gm T) s).1/\gm (rnd (gm T) s).1=gm T:=by
 have u:=C.pg;have G:=K32.Ol u.mp n;have pm:=(aBd u.mp u.cn n).2;have nd:=K33.Wh u.mp n;have ng:=aBf u.mp n;have(X,O):=(XY u.mp n).hd;have B:(rnd (gm T) s).1≠[]:=by rw[O];simp
 have pf:=m7 T;generalize (rnd (gm T) s).1=Q at G pm nd ng B;have tr:aAp Q:=λk h0 hk=>by
  have(t,x,ht,E,hh,_):=G.ord k h0 hk;have P:x∈bf (Q.take k):=by have e:=congrArg (λz=>(bf z)[t]?)<|aQ k Q;simp?[fAq]at e;rw[gZq ht,E]at e;show mGq e
  have(r,hr,H):=mFq.mp P;have(j,l):=aj.mp hr;rw[jh]at l;by_cases c:j<k;.rw[qz c]at l;show(j,x,c,?_,mGq hh);rw[gDq,l];show H
  .rw[qE c]at l;cases l
 have pr:Pr Q:=((B,ng,tr),nd,by rw[ef pm,ef pf];show C.ln);have S:bf T≠[]:=gb<|pf.mem_iff.mp n;show(pr,N5 nd (kT (T1 pf)<|T1 pm) (pr.ne<|gb<|e8 (eg pm) n) (C.ne S) λx E=>?_);have I:=pf.mem_iff.mp<|pm.mem_iff.mp E;rw[←C.nx I];have(q,L,J):=mFq.mp E;have(j,l):=aj.mp J;have hl:=(gSq.mp l).1;obtain⟨y,M⟩:∃y,q[(j+1) % aX q]?=aK y:=(_,gEg<|fP _ ∅);rw[FS nd L l M];have(r,o,hr,U,rfl):=G.row q L;show(K32.LC u.mp.hn hr U l M).symm
def OL(l:Pr T)(nz:∀x∈bf T,x≠0):∃R,Pr R/\qX (gm R)=qX (gm T)/\vT [dC<|qX<|gm T]=aK (el<|R.map λr=>b8<|dI r):=by
 have pf:=m7 T;by_cases t:bf (gm T)=[]
 .have b:=(K37.zr t).2;have y:bf T=[]:=by rw[t]at pf;show aA1<|T1 pf
  show(T,l,rfl,?_);have z:T=[[]]:=by have ne:=l.cn.ne;cases T with
   |nil=>show absurd rfl ne
   |cons r T=>show K11.xg l.cn (by rw[(gk.mp y).1];simp) l.nd
  have rc:Rc ([[]]:Λ):=(by simp,by simp,by simp,by simp,by simp);have B:code ([[]]:Λ)=[[]]:=rfl;have C:∀f,ren f ([[]]:Λ)=[[]]:=λQ=>rfl;have:=RK rc;rw[B,C]at this;rw[b,z,this]
 .have(s,E,u,G,_):=K37.yL l.pg.mp t;have(pr,H):=W0 l u;have rc:Rc (rnd (gm T) s).1:=by have pm:=(aBd l.pg.mp l.pg.cn u).2;show(pr.nd,pr.cn.clo,λx I=>nz x<|pf.mem_iff.mp<|pm.mem_iff.mp I,by have:=pr.ln;lia,by have:=pr.mp.hr;lia)
  have rn:=acB rc.nd rc.ng rc.nz;have n:Pr<|ren (ge<|bf (rnd (gm T) s).1) (rnd (gm T) s).1:=(K37.PU pr.cn rn,by rw[tU];show K33.Ey pr.nd rn.inj,by rw[tU,lMq];show pr.ln);show(_,n,?_,?_);.rw[K37.JT pr.pg n.pg rn pr.nd,H]
  .rw[G];show RK rc
def Z9(n:Pr R)(r:Pr T)(t:s∈bf R)(l:aX (bf R)=aX (bf T)):(∃e∈bf T,∃f,Hm R T f/\f s=e)↔qX (gm T)=qX (gm R):=by
 constructor;.rintro⟨e,u,f,h,_⟩;show aa8 n r (h.ly n r l t)<|gb t
 .intro e;have(f,h):=abW n r<|fQ e;show(f s,h.mem s t,f,(h.mem,h.odd,h.nx),rfl)
def Pw T:aX (nd T)=aX (bf T):=by have:=congrArg aX<|aAt T;rw[lMq,lMq]at this;unfold nd kg;rw[lMq,this]
def Z7(r:bf R≠[]):∃s∈bf R,Mb [mA<|nd R]=aK (bo s):=by have:Mb [mA<|nd R]=cc (zX<|nd R) λl=>(DD l).map bo:=rfl;rw[this,K36.Ky];cases t:bf R with
 |nil=>show absurd t r
 |cons n l=>show(_,vP l n,rfl)
open Classical in
def Om(y:Pr R)(B:Pr T){s:Int}(C:s∈R.flatten):∃A:Int->AV,qJ qi (pQ xJ<|oU (pD 1)<|oU (pD 2)<|oU (pD 3)<|oU (pD 0) pJ) [some<|.sh<|.dict<|nd R,some<|.sh<|.fd<|nd T,i0 s] (T.flatten.map D.int)=some (T.flatten.map A)/\qJ qi (kSc<|IQ (pU JH (oR 0)<|rC .non)<|pU Al (tY Bj<|oQ (oR 0) oV)<|tY Bj<|oQ (oR 1) oV) [some<|.sh<|.dict<|nd R] ((T.flatten.map A).map pE)=some ((T.flatten.map λe=>D.bl<|decide<|∃f,Hm R T f/\f s=e).map AV.sh):=by
 have key:∀e,∃a,e∈T.flatten->xJ [.dict<|nd R,.fd<|nd T,.int s,.int e]=some a/\((∃l:List (Int×Int),a = .owd (J4 l)/\l.length=R.flatten.length/\∃f,Hm R T f/\f s=e)∨a = .sh .non/\¬ ∃f,Hm R T f/\f s=e):=λe=>by
  by_cases n:e∈T.flatten
  .rcases YX y B C n with⟨l,h1,h2,r⟩|⟨h1,h2⟩;.exact⟨_,λQ=>⟨r,.inl ⟨l,rfl,h1,h2⟩⟩⟩
   .exact⟨_,λQ=>⟨h1,.inr ⟨rfl,h2⟩⟩⟩
  .exact⟨.sh .non,λz=>absurd z n⟩
 obtain⟨A,u⟩:=Classical.axiomOfChoice key;refine⟨A,?_,?_⟩
 .rw[Z.qN λd=>match d with|.int e=>A e|_=>.sh .non];.rw[mPq];rfl
  .intro d hd;obtain⟨e,n,rfl⟩:=mMq.mp hd;have h:=(u e n).1;refine⟨[i0 e,some<|.sh<|.dict<|nd R,some<|.sh<|.fd<|nd T,i0 s],?_⟩;simp! [h]
 .have st:∀e∈T.flatten,(∃l:List (Int×Int),pE (A e) = .dict (J4 l)/\l.length=R.flatten.length/\∃f,Hm R T f/\f s=e)∨pE (A e) = .non/\¬ ∃f,Hm R T f/\f s=e:=λe n=>by
   rcases(u e n).2 with⟨l,h1,h2,r⟩|⟨h1,h2⟩;.exact .inl ⟨l,by rw[h1];exact CC _,h2,r⟩
   .exact .inr ⟨by rw[h1];exact sA _,h2⟩
  rw[Z.qN λd=>match d with|.non=>.sh<|.bl false|_=>.sh<|.bl true]
  .rw[mPq,mPq,mPq];refine congrArg some<|mCq λe n=>?_;show(match pE (A e)with|.non=>AV.sh<|.bl false|_=>.sh<|.bl true) = .sh (.bl<|decide<|∃f,Hm R T f/\f s=e);rcases st e n with⟨l,h1,_,r⟩|⟨h1,h2⟩;.rw[h1,d7 r]
   .rw[h1,d8 h2]
  .intro d hd;obtain⟨a,ha,rfl⟩:=mMq.mp hd;obtain⟨e,n,rfl⟩:=mMq.mp ha;have E:=Pw R;rcases st e n with⟨l,h1,h2,r⟩|⟨h1,h2⟩
   .rw[h1];have x:JH (.dict<|J4 l) .non=some (.bl true):=rfl;have l1:(J4 l).length=l.length:=lMq ..;have q:decide (((J4 l).length:Int)=((nd R).length:Int))=true:=d7<|by rw[l1,E,h2]
    generalize J4 l=kv at x q;generalize nd R=t at q;refine⟨[some<|.sh<|.dict kv,some<|.sh<|.dict t],?_⟩;simp! [x,q]
   .rw[h1];generalize nd R=t;refine⟨[some<|.sh .non,some<|.sh<|.dict t],?_⟩;simp! []
def DO(h:Pr T):aX (qX<|gm T).flatten=aX (bf T):=by rw[(K37.yv h.pg).ln,ef<|m7 T]
def ZA(l:Pr R)(n:Pr T)(h:aX (bf R)=0):aX (bf R)=aX (bf T)↔qX (gm T)=qX (gm R):=by
 constructor;.intro e;have bare:∀{T:Λ},aX (bf T)=0->qX (gm T)=[[]]:=λ{T} h=>(K37.zr<|aD.mp<|by rw[ef<|m7 T];show h).2;rw[bare h,bare ∅]
 .intro e;rw[←DO l,←DO n,e]
open Classical in
def TJ(u:Pr R)(n:Pr T){m:Nat}{F:AV}(r:pE F = .dict (nd R)){v0 v1 v5 v6 v7:Option AV}:∃J y C E,pE J = .dict (nd R)/\tQ [v0,v1,i0 (m:Int),some F,some<|.sh<|dM T,v5,v6,v7]=some (.nx [v0,v1,i0 ((m+if qX (gm T)=qX (gm R)then 1 else 0:Nat):Int),some J,some<|.sh<|dM T,y,C,E]):=by
 have t:=K15.CH n.mp;have l1:((nd R).length:Int)=(R.flatten.length:Int):=by rw[Pw]
 have l2:((nd T).length:Int)=(T.flatten.length:Int):=by rw[Pw]
 have t:K15.vB [dM T]=some (.owd<|nd T):=t;have so:=CC<|nd T;by_cases M:R.flatten.length=0
 .have x:decide ((R.flatten.length:Int)=0)=true:=d7 ∅;have e:=ZA u n M;have l:Fv [.bl<|decide<|(R.flatten.length:Int)=(T.flatten.length:Int)]=some (.int ((if qX (gm T)=qX (gm R)then 1 else 0:Nat):Int)):=by
   rw[Wo];by_cases z:R.flatten.length=T.flatten.length
   .rw[d7 ∅,qz rfl,qz<|e.mp z];rfl
   .rw[d8 ∅,qE ⋯,qE λw=>z<|e.mpr w];rfl
  have ad:(m:Int)+((if qX (gm T)=qX (gm R)then 1 else 0:Nat):Int)=((m+if qX (gm T)=qX (gm R)then 1 else 0:Nat):Int):=by lia
  refine⟨F,some<|.owd<|nd T,v6,v7,r,?_⟩;generalize (if qX (gm T)=qX (gm R)then 1 else 0:Nat)=b at l ad;generalize nd R=O at *;generalize nd T=P at *;simp! -implicitDefEqProofs [tQ,t,so,r,l1,l2,x,JE,l,ad]
 .have x:decide ((R.flatten.length:Int)=0)=false:=d8 ∅;by_cases Q:R.flatten.length=T.flatten.length
  .have G:decide ((R.flatten.length:Int)=(T.flatten.length:Int))=true:=d7 ∅;obtain⟨s,S,mk⟩:=Z7 (R:=R) λz=>M<|by rw[z];rfl
   obtain⟨A,U,H⟩:=Om u n S;have kk:(nd T).map (λp=>kD p.1)=T.flatten.map D.int:=K15.aai T;have lT:(T.flatten.length<=qZ)=True:=eq_true<|uq<|by have:=n.ln;lia
   have l:Vn [.list<|T.flatten.map λe=>D.bl<|decide<|∃f,Hm R T f/\f s=e]=some (.bl<|decide<|qX (gm T)=qX (gm R)):=by
    rw[aeb];have:(T.flatten.map λe=>D.bl<|decide<|∃f,Hm R T f/\f s=e)=(T.flatten.map λe=>decide<|∃f,Hm R T f/\f s=e).map D.bl:=by rw[mPq];rfl
    rw[this,Fx];refine congrArg (λb=>some<|D.bl b) ?_;rw[bG,decide_eq_true_iff,←Z9 u n S Q,jo,cW];refine exists_congr λe=>and_congr_right λZ=>?_;show decide _=true↔_;rw[decide_eq_true_iff]
   have I:Fv [.bl<|decide<|qX (gm T)=qX (gm R)]=some (.int ((if qX (gm T)=qX (gm R)then 1 else 0:Nat):Int)):=by
    rw[Wo];by_cases z:qX (gm T)=qX (gm R);.rw[d7 z,qz rfl,qz z];rfl
    .rw[d8 z,qE ⋯,qE z];rfl
   have ad:(m:Int)+((if qX (gm T)=qX (gm R)then 1 else 0:Nat):Int)=((m+if qX (gm T)=qX (gm R)then 1 else 0:Nat):Int):=by lia
   generalize decide (qX (gm T)=qX (gm R))=bb at l I;generalize (if qX (gm T)=qX (gm R)then 1 else 0:Nat)=b at I ad;have st:∀L:List D,(L.map AV.sh).map pE=L:=λL=>by
    rw[mPq];have:L.map (pE∘AV.sh)=L.map id:=mCq λd Z=>sA d;rw[this,cZ]
   have X:=st<|T.flatten.map λe=>D.bl<|decide<|∃f,Hm R T f/\f s=e;generalize (T.flatten.map λe=>D.bl<|decide<|∃f,Hm R T f/\f s=e)=B at H l X;have Y:((T.flatten.map A).length<=qZ)=True:=by rw[lMq];exact lT
   generalize T.flatten.map A=AL at U H Y;refine⟨.sh<|.dict<|nd R,some<|.sh<|.fd<|nd T,i0 s,i4<|AL.map pE,sA _,?_⟩;generalize nd R=O at *;generalize nd T=P at *;simp! -implicitDefEqProofs [tQ,t,so,r,l1,l2,x,G,mk,aeu,xO,kk,lT,U,Y,H,X,l,I,JE,ad]
  .have G:decide ((R.flatten.length:Int)=(T.flatten.length:Int))=false:=d8 ∅;have ne:¬ qX (gm T)=qX (gm R):=λz=>Q<|by rw[←DO u,←DO n,z]
   have l:Fv [.bl false]=some (.int 0):=rfl;have ad:(m:Int)+0=(m:Int):=by lia
   rw[qE ne,jq];refine⟨F,some<|.owd<|nd T,v6,v7,r,?_⟩;generalize nd R=O at *;generalize nd T=P at *;simp! -implicitDefEqProofs [tQ,t,so,r,l1,l2,x,G,JE,l,ad]
end K38
namespace K38
open PySem L2 Mr Z Zl
open K12 (gm qv)
open K37 (qX xr Ls BX)
structure Fz (P:List Λ):Prop where
 fam:xr P
 nz:∀x∈P.flatten.flatten,x≠0
 ln:P.flatten.flatten.length<=62
def Fz.pr(h:Fz P)(l:T∈P):Pr T:=(h.fam.cn T l,K11.Ce h.fam.pm l,by
 have n:T.flatten.length<=P.flatten.flatten.length:=by rw[gL];show cY.length_le<|aM<|mMq.mpr (T,l,rfl)
 have:=h.ln;lia)
def Fz.cs(h:Fz P)c:(P.map λT=>qX<|gm T).count c=(cs P).count c:=by rw[← (BX P).count_eq];show((uX _).count_eq _).symm
def Fz.mem(h:Fz P)(l:c∈K38.cs P):∃T∈P,qX (gm T)=c:=by have(T,n,e):=mMq.mp<|(BX P).mem_iff.mp<|(uX _).mem_iff.mp l;show(T,n,e)
def Qs(C:Pr R)(h:Fz P):vS [dM R,d9<|P.map dM]=i0 ((K38.cs P).count<|qX<|gm R:Nat):=by have E:aAm [dM R]=aK (eu<|nd R):=K15.CH C.mp;have key:=uL (x:=4) (body:=tQ) (λi S=>∃F t l r s,pE F = mA (nd R)/\S=[aK<|b8<|dM R,i4<|P.map dM,i0 (((P.take i).map λT=>qX<|gm T).count<|qX<|gm R:Nat),aK F,t,l,r,s]) (ds:=P.map dM) (S:=[aK<|b8<|dM R,i4<|P.map dM,i0 0,aK<|eu<|nd R,n_,n_,n_,n_]) (_,_,_,_,_,CC _,rfl) (by rintro i d S hd ⟨F,t,l,r,s,G,rfl⟩;rw[gMq]at hd;have(T,H,rfl):=oMq.mp hd;have(I,u,y,z,B,e):=TJ C (h.pr<|mGq H) (m:=((P.take i).map λT=>qX<|gm T).count<|qX<|gm R) G (v0:=aK<|b8<|dM R) (v1:=i4<|P.map dM) (v5:=l) (v6:=r) (v7:=s);show(_,e,I,aK<|b8<|dM T,u,y,z,B,?_);simp?[qh H,mBq,cAq,List.map_singleton,gK];simp?[beq_iff_eq]);have(J,e,F,t,l,r,s,G,rfl):=key;rw[lMq,aS,h.cs]at e;generalize (K38.cs P).count (qX<|gm R)=n at e;generalize nd R=L at E e;simp! [vS,BK,E,e]
def Sj(h1:Fz P)(h2:Fz Q)(L:yC (apart (cs P)<|cs Q)=aK c):yH [eH [j5 "unlike", dC c,bo ((cs P).count c:Nat),bo ((cs Q).count c:Nat)],d9<|P.map dM,d9<|Q.map dM,d9<|(cs P).map dC,d9<|(cs Q).map dC]=i5 t_:=by
 have(m,lo):=Bc L;have(m1,m2):=fU.mp m;have ne:¬ (cs P).count c=(cs Q).count c:=of_decide_eq_true m2;obtain⟨T,M,nz,G⟩:∃T,Pr T/\(∀x∈bf T,x≠0)/\qX (gm T)=c:=by
  have sub:∀{P:List Λ},Fz P->∀T∈P,∀x∈bf T,x≠0:=λ{P} h T n x s=>h.nz x (by have(r,hr,y):=mFq.mp s;show e8 mFq (r,e8 mFq (T,n,hr),y));obtain q|q:=mAq.mp m1;.have(T,n,e):=h1.mem q;show(T,h1.pr n,sub h1 T n,e)
  .have(T,n,e):=h2.mem q;show(T,h2.pr n,sub h2 T n,e)
 have(R,H,O,I):=OL M nz;have z:=Qs H h1;have C:=Qs H h2;rw[O,G]at z C;rw[G]at I;have E:∀x∈cs P++cs Q,eP x c=t_->(cs P).count x=(cs Q).count x:=λx s S=>dv λq=>by have:=lo x<|e8 fU (s,d7 q);rw[S]at this;cases this
 have l1:=Ll h1.fam;have l2:=Ll h2.fam;generalize cs P=A at *;generalize cs Q=B at *;have l:qJ (rH<|pU V7 (oR 0)<|pU vE (oR 3)<|rC<|bo 1) (kSc<|pU Al (Oj "list" yV (oR 1)<|oQ (oR 0) oV)<|Oj "list" yV (oR 2)<|oQ (oR 0) oV) [aK<|b8<|d9<|A.map dC,aK<|b8<|d9<|B.map dC,aK<|b8<|eH [j5 "unlike", dC c,bo (A.count c:Nat),bo (B.count c:Nat)]] ((A++B).map dC)=aK ((((A++B).map dC).filter λd=>match xU d with|aK x=>eP x c|n_=>f_).map λV=>b8<|fb t_):=by
  rw[Z.B1 (λd=>match xU d with|aK x=>eP x c|n_=>f_) λV=>b8<|fb t_];intro d hd;have(x,s,rfl):=mMq.mp hd;have J:=Dq A x;have U:=Dq B x;have lt:=abt x c;rw[yl];have X:∀a b:D,vE (eH [j5 "unlike", dC c,a,b]) (bo 1)=aK (dC c):=λV V=>rfl;show([aK<|b8<|dC x,i4<|A.map dC,i4<|B.map dC,aK<|b8<|eH [j5 "unlike", dC c,bo (A.count c:Nat),bo (B.count c:Nat)]],?_,λq=>([aK<|b8<|dC x,i4<|A.map dC,i4<|B.map dC,aK<|b8<|eH [j5 "unlike", dC c,bo (A.count c:Nat),bo (B.count c:Nat)]],?_));.simp! [X,lt]
  .have eq:=E x s q;rw[eq]at J;simp! [J,U,decide_true]
 have fa:=G6 (ds:=((A++B).map dC).filter λd=>match xU d with|aK x=>eP x c|n_=>f_);have ct:A.map dC++B.map dC=(A++B).map dC:=by rw[mBq]
 have Y:(aX A+aX B<=qZ)=True:=eq_true<|uq ∅;have w1:=K39.BN (A.count c:Nat);have w2:=K39.BN (B.count c:Nat);have sR:(R.map λr=>b8<|dI r).map pE=R.map dI:=KF R;have nR:acw (d9<|R.map dI) kR=aK (fb f_):=rfl;have e0:decide ((A.count c:Int)=(B.count c:Int))=f_:=d8 ∅;generalize A.count c=t at *;generalize B.count c=u at *;have i1:atI [j5 "unlike", dC c,bo (t:Int),bo (u:Int)] 1=aK (dC c):=rfl;have i2:vE (eH [j5 "unlike", dC c,bo (t:Int),bo (u:Int)]) (bo 2)=aK (bo (t:Int)):=rfl;have i3:vE (eH [j5 "unlike", dC c,bo (t:Int),bo (u:Int)]) (bo 3)=aK (bo (u:Int)):=rfl;generalize (((A++B).map dC).filter λd=>match xU d with|aK x=>eP x c|n_=>f_)=W at l fa;unfold dM at z C;simp! [yH,FP,K16.aek,i1,I,sR,nR,i2,i3,w1,w2,e0,z,C,ct,Y,l,fa,lAq,decide_true]
end K38
namespace K38
open PySem L2 Mr Z Zl
open K12 (gm qv Oh)
open K31 (wA Nm Of)
open K33 (ren LH Aq Jy)
open K37 (xr AW Bu)
noncomputable def bk(T:Λ):Λ:=T.map hY
theorem Gc:∀T:Λ,dg (bk T).flatten<|bf T
 | []=>yG _
 |r::T=>by change(hY r++bf (bk T)).Perm (r++bf T);show(List.reverse_perm r).append<|Gc T
def adC(h:x2 T):x2<|bk T:=by
 have g:∀k,dk (bk T) k []=hY (dk T k []):=λk=>by unfold bk;rw[gDq,gDq,gMq];cases T[k]? <;> rfl
 show(λe=>h.ne<|eS.mp e,λz l=>e8 (Gc T).mem_iff<|h.clo z<|(Gc T).mem_iff.mp l,λk h0 hk=>?_);have(j,e,n,a,b):=h.tr k h0<|by unfold bk at hk;rwa [lMq]at hk
 show(j,e,n,by rw[g];show e8 jL a,by rw[g];show e8 jL b)
section
variable {P:List Λ}
def Fz.back(h:Fz P):Fz<|P.map bk:=by
 have pf:bf (P.map bk)=bk (bf P):=by unfold bk;rw[eN]
 have pm:dg (P.map bk).flatten.flatten<|bf<|bf P:=by rw[pf];show Gc _
 show(AW (λT l=>?_) (e8 (l8 pm) h.fam.pm.nd) (by rw[ef pm];show h.ln) (by rw[pf];unfold bk;rw[lMq];show h.fam.lt)<|by rw[lMq];show h.fam.lp,λx n=>h.nz x<|pm.mem_iff.mp n,by rw[ef pm];show h.ln);have(U,r,rfl):=mMq.mp l;show adC<|h.fam.cn U r
def Fz.ren(h:Fz P)(rn:LH f P.flatten.flatten):Fz<|P.map<|ren f:=by
 have e:(P.map<|K33.ren f).flatten.flatten=P.flatten.flatten.map f:=by rw[K37.Fh,K33.ue]
 show((K37.Y5 h.fam h.ln rn).f2,λx B=>?_,by rw[e,lMq];show h.ln);rw[e]at B;have(y,l,rfl):=mMq.mp B;intro z;have ng:-y∈P.flatten.flatten:=by have(r,hr,n):=mFq.mp l;have(T,C,s):=mFq.mp hr;have(E,t,u):=mFq.mp<|(h.fam.cn T C).clo y<|mFq.mpr (r,s,n);show mFq.mpr (E,mFq.mpr (T,C,t),u)
 have:=rn.inj _ ng _ l<|by rw[rn.odd y l,z];rfl
 show h.nz y l ∅
def ac7(h:Nm nm)(l:x∈wA nm):x≠0:=by have(y,n,q):=K31.Rq.mp l;have:=h.lo y n;lia
def Fz.of(hn:Nm nm)(h:Bu nm P):Fz P:=(h.fm,λx l=>ac7 hn<|h.sub x l,h.fl)
def X8 r:IL (sX 0) (tX<|Bn vf<|rC<|bo 1) [aK<|b8<|dI r]=aK %[aI<|hY r|[aK<|b8<|dI r]]:=by
 have l:(aK (-1:Int)=aK (-1))=True:=eq_self _;have s:(hY<|r.map bo).map b8=r.reverse.map λn=>b8<|bo n:=by rw[←jM,mPq];rfl
 unfold dI;simp! [aaL,l,s]
def Tc T:qJ qi (IL (sX 0)<|tX<|Bn vf<|rC<|bo 1) [] (T.map dI)=aK ((bk T).map aI):=by
 rw[Pv<|λd=>match d with|d9 l=>aI<|hY<|rh (su l) []|_=>b8 kR];.unfold bk;rw[mPq,mPq];show congrArg aK<|mCq λr Q=>?_;change aI (hY<|rh (su<|r.map bo) [])=_;rw[rP];rfl
 .intro d hd;have(r,_,rfl):=mMq.mp hd;show([aK<|b8<|dI r],?_);change _=aK %[aI<|hY<|rh (su<|r.map bo) []|_];rw[rP,bB];show X8 r
def MH(h:∀T∈P,aX T<=1000):qJ qi (rF (wC<|pD 0) [] qi<|IL (sX 0)<|tX<|Bn vf<|rC<|bo 1) [] (P.map dM)=aK ((P.map bk).map λU=>el<|U.map aI):=by
 rw[Pv<|λd=>match d with|d9 l=>el<|(bk<|rh (uz l) []).map aI|_=>b8 kR];.rw[mPq,mPq];show congrArg aK<|mCq λG Q=>?_;change el ((bk<|rh (uz<|G.map dI) []).map aI)=_;rw[tx];rfl
 .intro d hd;have(T,n,rfl):=mMq.mp hd;have rc:=Tc T;have l1:(aX T<=qZ)=True:=eq_true<|uq<|by have:=h T n;lia
  show([aK<|b8<|dM T],?_);change _=aK %[el<|(bk<|rh (uz<|T.map dI) []).map aI|_];rw[tx,bB];unfold dM;simp! [rc,l1]
def Xa(h:∀k:Nat,Fi [bo<|cell ns i,bo<|cell ns j,bo (k:Int)]=i0 (Oh st sh a b k)):qJ qi (kSc<|qO Fi<|oQ (qO nC<|oQ (oR 1)<|oQ (rC<|bo (i:Int)) oV)<|oQ (qO nC<|oQ (oR 1)<|oQ (rC<|bo (j:Int)) oV)<|oQ (oR 0) oV) [aK<|b8<|ov ns] (qD 0 n)=aK ((Of st sh a b n).map λz=>b8<|bo z):=by
 have l:=B7 ns (k:=(i:Int)) ∅;have r:=B7 ns (k:=(j:Int)) ∅;simp?[cB]at l r;rw[Pv<|λd=>match d with|bo k=>b8<|bo<|Oh st sh a b k|_=>b8 kR];.unfold Of;rw[zG,mPq,mPq];rfl
 .intro d hd;rw[zG]at hd;have(k,_,rfl):=mMq.mp hd;have hk:=h k;show([i0 (k:Int),aK<|b8<|ov ns],?_);simp! [l,r,hk]
def VS(hn:Nm nm)(hl:aX nm<=aX ot)(n:∀T∈P,(∀x∈bf T,x∈wA nm)/\aX (bf T)<=1000/\aX T<=1000):qJ qi (pQ aAn<|oU (pD 0)<|oU (pD 1)<|oU (pD 2)<|oU (kSc<|pU ve (oR 3)<|rC<|bo 90) pJ) [aK<|b8<|dI nm,aK<|b8<|dI ot,i0 kind] (P.map dM)=aK ((P.map<|ren<|Jy<|Aq nm ot (kind / 90)<|aX nm).map λU=>el<|U.map aI):=by
 rw[Pv<|λd=>match d with|d9 r=>el<|(ren (Jy<|Aq nm ot (kind / 90)<|aX nm)<|rh (uz r) []).map aI|_=>b8 kR];.rw[mPq,mPq];show congrArg aK<|mCq λG Q=>?_;change el ((ren _<|rh (uz<|G.map dI) []).map aI)=_;rw[tx];rfl
 .intro d hd;have(T,l,rfl):=mMq.mp hd;have(a,b,c):=n T l;have ok:=K37.Hy (bits:=kind / 90) hn hl a b c;have s:=uR (i:=kind) (j:=90) ⋯ ⋯;show([aK<|b8<|dM T,aK<|b8<|dI nm,aK<|b8<|dI ot,i0 kind],?_);change _=aK %[el<|(ren _<|rh (uz<|T.map dI) []).map aI|_];rw[tx,bB];simp! [s,ok]
def Fz.sizes(h:Fz P)(l:T∈P):aX (bf T)<=1000/\aX T<=1000:=by have a:=h.pr l;have:=a.ln;have:=a.mp.hr;show(by lia,by lia)
def KO(Q:List Λ):(Q.map λU=>el<|U.map aI).map pE=Q.map dM:=by rw[mPq];show mCq λU Z=>?_;change pE (el<|U.map aI)=_;rw[sV,DY]
def XB{cs}(hl:aX cs<=63)kind:∃a r s v5,pE a=dI r/\aX r<=63/\∀m:MS,(oZ (pX 4<|pD 3)
 (oZ (wz (CL (rH<|pU Al (pU rX (pU ve (oR 3)<|rC<|bo 18)<|rC<|bo 5)<|rC<|bo 2)<|rH<|pU Iy (tY qV<|oQ (oR 0) oV)<|rC<|bo 0) (oZ (pX 5<|kSc<|pU rX (pU ve (oR 3)<|rC<|bo 90)<|tY qV<|oQ (oR 0) oV)<|pX 0<|EV (lOf<|EV (lOf<|JZ (sX 0) xT<|tX<|oR 5)<|lOf<|tF<|oU (kSc<|pU yS (pU yS (pU DF (oR 0)<|oR 5)<|rC<|bo 1)<|pU rX (pU ve (oR 3)<|rC<|bo 90)<|rC<|bo 3) pJ)<|lOf<|JZ (sX 0) (tX<|pU yS (oR 5)<|rC<|bo 1) xT) qm)
 (oZ (wz (rH<|pU Al (pU rX (pU ve (oR 3)<|rC<|bo 18)<|rC<|bo 5)<|rC<|bo 3) (pX 0<|IL (sX 0)<|tX<|Bn vf<|rC<|bo 1) qm)
 (oZ (wz (rH<|pU Al (pU rX (pU ve (oR 3)<|rC<|bo 18)<|rC<|bo 5)<|rC<|bo 4) (pX 4<|kSc<|pU yS (pU rX (oR 3)<|rC<|bo 2)<|pU Du (rC<|bo 2)<|pU rX (pU ve (oR 3)<|rC<|bo 90)<|rC<|bo 9) qm) m)))) [aK<|b8<|dI cs,v1,v2,i0 kind,n_,n_,n_,n_]=m [aK a,v1,v2,i0 kind,i0 s,v5,n_,n_]:=by
 have d1:=uR (i:=kind) (j:=18) ⋯ ⋯;have m1:=sG (i:=kind / 18) (j:=5) ⋯;have C:=uR (i:=kind) (j:=90) ⋯ ⋯;have m2:=sG (i:=kind) (j:=2) ⋯;have J:=sG (i:=kind / 90) (j:=3) ⋯;have L:=sG (i:=kind / 90) (j:=9) ⋯;have t:∀(m:MS) (S:AS),Rj (aK<|k4 S) m=m S:=λQ Q=>rfl;generalize kind / 18 % 5=q at m1;have e:∀a b:Int,¬ a=b->decide (a=b)=f_:=λa b h=>d8 h;by_cases E:q=2
 .subst E;have u:=e 2 3 ⋯;have l:=e 2 4 ⋯;by_cases G:cs=[]
  .subst G;have M:decide ((0:Int)<((0:Nat):Int))=f_:=by rfl
   show(b8<|dI [],[],kind,n_,sA _,by simp,λm=>?_);unfold dI;simp! [d1,m1,t,u,l,M]
  .have hp:=e8 cz G;have O:decide ((0:Int)<(aX cs:Int))=t_:=d7 ∅;obtain⟨k,hk,R⟩:∃k:Nat,k<aX cs/\rX (bo<|kind / 90) (bo (aX cs:Int))=aK (bo (k:Int)):=by
    have U:0<=kind / 90 % (aX cs:Int):=bh _<|by ac_nf
    have p1:kind / 90 % (aX cs:Int)<aX cs:=ba _ ∅;show(jz<|kind / 90 % (aX cs:Int),by ac_nf,?_);rw[gZ U];show sG ∅
   have X:Ak cs n_ (aK (k:Int))=cs.take k:=Cp cs k<|by rfl'
   have Y:Ak cs (aK ((k+1:Nat):Int)) n_=cs.drop (k+1):=Ar cs (k+1)<|by rfl'
   have kk:(k:Int)+1=((k+1:Nat):Int):=rfl;have ix:DF (d9<|cs.map bo) (bo (k:Int))=aK (bo cs[k]):=by change atI (cs.map bo) (k:Int)=_;rw[D7<|by rfl',cB,gMq,gEg hk];rfl
   have l1:aX (cs.take k)<=63:=by rw[lTq];lia
   have l2:aX (cs.drop<|k+1)<=63:=by rw[aL];lia
   have l3:aX (cs.take k)+1+aX (cs.drop<|k+1)<=63:=by rw[lTq,aL];lia
   have n1:(aX (cs.take k)+1<=qZ)=True:=eq_true<|uq ∅;have y:(aX (cs.take k)+1+aX (cs.drop<|k+1)<=qZ)=True:=eq_true<|uq ∅;show(aI<|cs.take k++[cs[k]+1+kind / 90 % 3]++cs.drop (k+1),_,kind,i0 (k:Int),pM _,by rw[lAq,lAq];show l3,λm=>?_);generalize cs.take k=A at *;generalize cs.drop (k+1)=B at *;generalize cs[k]=x at *;have ap:(A.map bo++[bo<|x+1+kind / 90 % 3]++B.map bo).map b8=(A++[x+1+kind / 90 % 3]++B).map λn=>b8<|bo n:=by
    have:A.map bo++[bo<|x+1+kind / 90 % 3]++B.map bo=(A++[x+1+kind / 90 % 3]++B).map bo:=by rw[mBq,mBq];rfl
    rw[this,mPq];rfl
   have y:(aX (A.map bo++[bo<|x+1+kind / 90 % 3])+aX B<=qZ)=True:=by rw[lAq,lMq];show y
   unfold dI;simp! [d1,m1,t,u,l,O,C,R,Ac,X,kk,Y,ix,J,n1,y,ap]
 .have z:=e q 2 E;by_cases H:q=3
  .subst H;have l:=e 3 4 ⋯;show(aI<|hY cs,_,kind,n_,pM _,by rw[fL];show hl,λm=>?_);have rv:(aK (-1:Int)=aK (-1))=True:=eq_self _;have er:(hY<|cs.map bo).map b8=cs.reverse.map λn=>b8<|bo n:=by rw[←jM,mPq];rfl
   unfold dI;simp! [d1,m1,t,z,l,aaL,rv,er]
  .have u:=e q 3 H;by_cases I:q=4
   .subst I;have b0:0<=kind / 90 % 9:=bh _ ⋯;have b1:kind / 90 % 9<9:=ba _ ⋯;have ml:=Jc (i:=2) (j:=kind / 90 % 9) (by rfl')<|by rfl'
    show(b8<|dI cs,cs,kind % 2+2*(kind / 90 % 9),n_,sA _,hl,λm=>?_);unfold dI;simp! [d1,m1,t,z,u,m2,C,L,ml]
   .have l:=e q 4 I;show(b8<|dI cs,cs,kind,n_,sA _,hl,λm=>?_);unfold dI;simp! [d1,m1,t,z,u,l]
def tl2:MS:=(oZ (pX 6<|rF (iR1<|oQ (rC<|bo 18) oV) [1] qi<|kSc<|qO Fi<|oQ (qO nC<|oQ (oR 1)<|oQ (rC<|bo 1) oV)<|oQ (qO nC<|oQ (oR 1)<|oQ (rC<|bo 3) oV)<|oQ (oR 0) oV)
 (oZ (pX 7<|rF (wC<|pQ K37.yq<|oU (pD 0)<|oU (pD 2)<|oU (pD 4) pJ) [2,6,3] qi<|pQ aAn<|oU (pD 0)<|oU (pD 1)<|oU (pD 2)<|oU (kSc<|pU ve (oR 3)<|rC<|bo 90) pJ)
 (oZ (wz (rH<|pU Al (pU rX (pU ve (oR 3)<|rC<|bo 18)<|rC<|bo 5)<|rC<|bo 1) (pX 7<|rF (wC<|pD 7) [] qi<|rF (wC<|pD 0) [] qi<|IL (sX 0)<|tX<|Bn vf<|rC<|bo 1) qm)
 (qB<|Bl 7))))
def R5{cs}(l:Nm nm)(L:aX nm=18)(hl:aX cs<=63)kind:∃x Q,yt [dI cs,ov ns,dI nm,bo kind]=aK x/\pE x = d9 (Q.map dM)/\Fz Q:=by
 have(st,sh,a,b,h1,_,h2,_,h3,h4,en):=K31.Qw (cell ns 1)<|cell ns 3;have C:=K31.W3 (b:=b) (n:=18) ⋯ h1 h2 h3 h4;have E:=Xa (i:=1) (j:=3) (n:=18) en;have M:aX (Of st sh a b 18)=18:=by unfold Of;rw[lMq,bq]
 generalize Of st sh a b 18=H at C E M;have(a0,cs',s,v5,Y,l0,hd):=XB hl kind (v1:=aK<|b8<|ov ns) (v2:=aK<|b8<|dI nm);have(xs,P,eb,ex,B):=K37.N6 l L l0 s;have fz:=Fz.of l B;have rn:=K33.ZO (bits:=kind / 90) l C ∅;have rc:=VS (P:=P) (ot:=H) (kind:=kind) l ∅ λT I=>(λx u=>B.sub x<|by have(r,hr,u):=mFq.mp u;show e8 mFq (r,e8 mFq (T,I,hr),u),fz.sizes I);generalize Jy (Aq nm H (kind / 90)<|aX nm)=f at rn rc;have J:=fz.ren (f:=f) (λx u=>rn.odd x<|B.sub x u,λx u y hy e=>rn.inj x (B.sub x u) y (B.sub y hy) e);have O:(aX P<=qZ)=True:=eq_true<|uq<|by have:=B.fm.lp;lia
 have R:(aX (P.map<|ren f)<=qZ)=True:=by rw[lMq];show O
 generalize P.map (ren f)=Q at rc J R;have S:=KO Q;have rv:=MH (P:=Q) λT I=>(J.sizes I).2;have G:ET [bo 18]=aK (qD 0 18):=vX (n:=18) ⋯;have t:aX (qD 0 18)<=qZ:=by rw[qp];change 18<=16777216;decide
 have so:=pM H;have sx:pE (el xs) = d9 (P.map dM):=by rw[sV,ex]
 have d1:=uR (i:=kind) (j:=18) ⋯ ⋯;have m1:=sG (i:=kind / 18) (j:=5) ⋯;have E:qJ qi (kSc<|qO Fi<|oQ (qO nC<|oQ (oR 1)<|oQ (rC<|bo 1) oV)<|oQ (qO nC<|oQ (oR 1)<|oQ (rC<|bo 3) oV)<|oQ (oR 0) oV) [aK<|b8<|ov ns] (qD 0 18)=aK (H.map λz=>b8<|bo z):=E;have run:∀x,tl2 [aK a0,aK<|b8<|ov ns,aK<|b8<|dI nm,i0 kind,i0 s,v5,n_,n_]=aK (.rt x)->yt [dI cs,ov ns,dI nm,bo kind]=aK x:=λx h=>by have hm:FA [aK<|b8<|dI cs,aK<|b8<|ov ns,aK<|b8<|dI nm,i0 kind,n_,n_,n_,n_]=aK (.rt x):=eI (hd tl2) h;simp! [yt,hm]
 by_cases c:kind / 18 % 5=1;.have X:decide (kind / 18 % 5=1)=t_:=d7 c;show(el<|(Q.map bk).map λU=>el<|U.map aI,Q.map bk,run _ ?_,by rw[sV,KO],J.back);generalize Q.map bk=Q' at rv;simp! [tl2,G,t,E,Y,so,dI,eb,sx,O,rc,d1,m1,X,S,R,rv]
 .have X:decide (kind / 18 % 5=1)=f_:=d8 c;show(el<|Q.map λU=>el<|U.map aI,Q,run _ ?_,by rw[sV,S],J);simp! [tl2,G,t,E,Y,so,dI,eb,sx,O,rc,d1,m1,X,S,R]
def Mc ns:∃P Q,Fz P/\Fz Q/\wB [ov ns]=aK (b8<|eH [d9<|P.map dM,d9<|Q.map dM]):=by
 have(st,sh,a,b,h1,_,h2,_,C,E,G):=K31.Qw (cell ns 0)<|cell ns 1;have l:=K31.W3 (b:=b) (n:=18) ⋯ h1 h2 C E;have u:=Xa (i:=0) (j:=1) (n:=18) G;have r:aX (Of st sh a b 18)=18:=by unfold Of;rw[lMq,bq]
 generalize Of st sh a b 18=nm at l u r;have s:Ak ns (aK 4) (aK 67)=(ns.drop 4).take 63:=NZ ns 4 67;have hl:aX ((ns.drop 4).take 63)<=63:=by rw[lTq];show Nat.min_le_left ..
 generalize (ns.drop 4).take 63=cs at s hl;have(H,P,I,ex,J):=K37.N6 l r hl<|cell ns 2;have(x,Q,L,y,M):=R5 (ns:=ns) l r hl<|cell ns 2;show(P,Q,Fz.of l J,M,?_);have B:ET [bo 18]=aK (qD 0 18):=vX (n:=18) ⋯;have t:aX (qD 0 18)<=qZ:=by rw[qp];change 18<=16777216;decide
 have O:=pM nm;have R:=pM cs;have S:pE (el H) = d9 (P.map dM):=by rw[sV,ex]
 have u:qJ qi (kSc<|qO Fi<|oQ (qO nC<|oQ (oR 1)<|oQ (rC<|bo 0) oV)<|oQ (qO nC<|oQ (oR 1)<|oQ (rC<|bo 1) oV)<|oQ (oR 0) oV) [aK<|b8<|ov ns] (qD 0 18)=aK (nm.map λz=>b8<|bo z):=u;simp! [wB,C6,RC,B,t,u,O,dI,s,Ac,R,I,S,L,y]
end
end K38
namespace K38
open PySem L2 Mr Z Zl
open K51 (Ah)
open K12 (cN LY)
open K40 (RJ HG Jg ss tH uj vA xi Ds)
structure Bf (rs:Λ)(dn:Θ)(f:Nat)(mt ah:Θ)(k:Nat):Prop where
 eq:mt=dn++ah
 nd:mt.Nodup
 lt:∀q∈mt,q<rs.length
 h0:ah[0]?=aK f
 tr:∀i,0<i->i<ah.length->∃j q r x,j<i/\ah[j]?=aK q/\rs[q]?=aK r/\x∈r/\ah[i]?=aK (plc rs<|-x)
 cl:∀(j:Nat) (q:Nat) (r:Ϝ) (x:Int),j<k->ah[j]?=aK q->rs[q]?=aK r->x∈r->plc rs (-x)∈mt
 le:k<=ah.length
def Bf.step{mt}(C:Mp rs)(h:Bf rs t f mt ah k){r:Ϝ}(u:ah[k]?=aK q)(hr:rs[q]?=aK r):Bf rs t f (r.foldl (Ah<|plc rs) %[mt|ah]).1 (r.foldl (Ah<|plc rs) %[mt|ah]).2<|k+1:=by
 have(a,e,h1,h2,y):=K51.DL (plc rs) r mt ah;simp?[e];have hk:=(gSq.mp u).1;show(by change mt++a=t++(ah++a);rw[h.eq,bg],y h.nd,λz l=>?_,by change(ah++a)[0]?=_;rw[gZq ∅];show h.h0,λi E hl=>?_,λj z B x J l n s=>?_,by change _<=aX (ah++a);rw[lAq];lia)
 .obtain l|l:=mAq.mp l;.show h.lt z l
  .have(x,s,rfl):=h1 z l;show C.lt<|C.other hr s
 .have hl:i<aX (ah++a):=hl;change ∃j q r x,j<i/\(ah++a)[j]?=aK q/\rs[q]?=aK r/\x∈r/\(ah++a)[i]?=aK (plc rs<|-x);by_cases c:i<aX ah;.have(j,G,B,x,h1,h2,y,H,I):=h.tr i E c;show(j,G,B,x,h1,by rw[gZq ∅];show h2,y,H,by rw[gZq c];show I)
  .rw[lAq]at hl;have l:a[i-aX ah]?=aK a[i-aX ah]:=gEg ∅;have(x,s,e):=h1 _<|mGq l;show(k,q,r,x,by lia,by rw[gZq hk];show u,hr,s,?_);rw[gYq<|by rfl',l,e]
 .have l:(ah++a)[j]?=aK z:=l;change _∈mt++a;rw[gZq ∅]at l;by_cases c:j<k;.show bw _<|h.cl j z B x c l n s
  .have:j=k:=by lia
   subst this;rw[u]at l;cases l;rw[hr]at n;cases n;show h2 x s
def bf_loop(t:Mp rs)(hf:f<aX rs)(H:f∉s)(nd:c9 s)(lt:∀q∈s,q<aX rs):∃l mt ah k,tW (rH<|pU Qt (oR 9)<|tY qV<|oQ (oR 8) oV) uj 100000 (ss rs v2 v3 v4 (s++[f]) sp f [f] 0)=aK (k4<|ss rs v2 v3 l mt sp f ah k)/\Bf rs s f mt ah (aX ah):=by
 have hl:=t.hl;have I:=t.hr;have(C,J,l,mt,ah,k,rfl,x):=yE (c:=rH<|pU Qt (oR 9)<|tY qV<|oQ (oR 8) oV) (body:=uj)
  (λS=>∃v4 mt ah k,S=ss rs v2 v3 v4 mt sp f ah k/\Bf rs s f mt ah k)
  (λS=>match S with|[_,_,_,_,_,_,_,_,_,aK (b8 (bo i))]=>2000-jz i|_=>0)
  (λC=>∃v4 mt ah k,C=ss rs v2 v3 v4 mt sp f ah k/\Bf rs s f mt ah (aX ah)) (by
   rintro S ⟨v4,mt,ah,k,rfl,h⟩;have y:=pM<|cN ah;have cl:=K31.AX ah;have U:=aAq _ _ h.nd h.lt;have X:aX ah<=aX mt:=by rw[h.eq,lAq];rfl'
   have le:=h.le;by_cases L:k<aX ah
   .have z:(k:Int)<(aX ah:Int):=by ac_nf
    obtain⟨q,n⟩:∃q,ah[k]?=aK q:=(_,gEg L);have M:q<aX rs:=h.lt q<|by rw[h.eq];show ay _<|mGq n
    have hr:rs[q]?=aK rs[q]:=gEg M;have O:=t.row hr;have(l,E):=HG t (r:=rs[q]) (λe P=>e8 mFq (_,mGq hr,P)) (mt:=mt) (ah:=ah) ∅ ∅ (v2:=v2) (v3:=v3) (v4:=v4) (sp:=sp) (f:=f) (k:=k);have st:=h.step t n hr;have B:atI ((cN ah).map bo) (k:Int)=aK (bo (q:Int)):=vd (by unfold cN;rw[mPq,gMq,n];rfl);have u:atI (rs.map dI) (q:Int)=aK (dI rs[q]):=vd<|by rw[gMq,hr];rfl
    have Y:((k+1:Nat):Int)=(k:Int)+1:=by rfl'
    have G:(aX rs[q]<=qZ)=True:=eq_true<|by change _<=16777216;lia
    generalize rs[q]=r at hr E u O st G;show(t_,ss rs v2 v3 v4 mt sp f ah k,?_,λZ=>(ss rs v2 v3 l (r.foldl (Ah<|plc rs) %[mt|ah]).1 sp f (r.foldl (Ah<|plc rs) %[mt|ah]).2<|k+1,?_,(_,_,_,_,rfl,st),?_),λq=>(nomatch q));.simp! [y,dI,cl,z]
    .simp! [uj,y,dI,B,dM,u,G];rw[show sD 4 tH (r.map bo) _=_ from E];simp! [];rfl
    .change 2000-jz ((k+1:Nat):Int)<2000-jz (k:Int);lia
   .have z:¬ (k:Int)<(aX ah:Int):=by ac_nf
    have Q:k=aX ah:=by rfl'
    show(f_,ss rs v2 v3 v4 mt sp f ah k,?_,λq=>(nomatch q),λZ=>(v4,mt,ah,k,rfl,by rw[←Q];show h));simp! [y,dI,cl,z]) 100000 (ss rs v2 v3 v4 (s++[f]) sp f [f] 0) (v4,_,[f],0,rfl,rfl,by rw[nAq];show(nd,by simp,λa ha b x e=>H<|by rw[mSq.mp x]at e;show e ▸ ha),λq n=>by
     obtain n|n:=mAq.mp n;.show lt q n
     .rw[mSq.mp n];show hf,rfl,λi h1 h2=>by simp at h2;lia,λj Z Z Z R=>absurd R<|bR _,aH _) (by change 2000-jz (0:Int)<100000;rfl');show(l,mt,ah,k,J,x)
structure Pa (rs:Λ)(ah:Θ):Prop where
 ne:ah≠[]
 tr:∀i,0<i->i<ah.length->∃j q r x,j<i/\ah[j]?=aK q/\rs[q]?=aK r/\x∈r/\ah[i]?=aK (plc rs<|-x)
 cl:∀(q:Nat) (r:Ϝ) (x:Int),q∈ah->rs[q]?=aK r->x∈r->plc rs (-x)∈ah
abbrev Ct(rs:Λ)(ah:Θ):AV:=el<|ah.map λk=>b8<|dI<|dk rs k []
def Pz(B:Mp rs):∃(P:List Θ) (mt:Θ) (s v7 v8 v9:Option AV),sD 7 vA (qD 0<|aX rs) [aK<|b8<|dM rs,aK<|eu<|qt 0 rs,v2,v3,v4,aK<|eu [],aK<|el [],n_,n_,n_]=aK (k4 [aK<|b8<|dM rs,aK<|eu<|qt 0 rs,v2,v3,s,aK<|eu<|kd mt,aK<|el<|P.map<|Ct rs,v7,v8,v9])/\aX P<=aX rs/\dg (bf P) (bD<|aX rs)/\∀p∈P,Pa rs p:=by
 have hrr:=B.hr;have key:=uL (x:=7) (body:=vA) (λi S=>∃(P:List Θ) (mt:Θ) (v4 v7 v8 v9:Option AV),S=[aK<|b8<|dM rs,aK<|eu<|qt 0 rs,v2,v3,v4,aK<|eu<|kd mt,aK<|el<|P.map<|Ct rs,v7,v8,v9]/\aX P<=i/\bf P=mt/\(∀p∈P,Pa rs p)/\c9 mt/\(∀q∈mt,q<aX rs)/\∀j,j<i->j∈mt) (ds:=qD 0<|aX rs) (S:=[aK<|b8<|dM rs,aK<|eu<|qt 0 rs,v2,v3,v4,aK<|eu [],aK<|el [],n_,n_,n_])
  ([],[],v4,n_,n_,n_,rfl,ab _,rfl,by simp,aW,by simp,λj h=>absurd h<|bR _) (by
  rintro i d S hd ⟨P,mt,v4,v7,v8,v9,rfl,hP,J,L,nd,lt,U⟩;rw[zG,gMq]at hd;have(k,hk,rfl):=oMq.mp hd;have(C,E):=gSq.mp hk;rw[bq]at C;rw[jj]at E;subst E;have X:=kd_get mt i;by_cases q:i∈mt
  .have u:j3 (e9 (kd mt)<|ak (i:Int))=t_:=by rw[X];simp[q]
   show(_,?_,P,mt,v4,i0 (i:Int),v8,v9,rfl,by rfl',J,L,nd,lt,λj I=>?_);.simp! [vA,u]
   .by_cases c:j=i;.rw[c];show q
    .show U j ∅
  .have u:j3 (e9 (kd mt)<|ak (i:Int))=f_:=by rw[X];simp[q]
   have kn:=K31.Ot q;have pl:=aAq _ _ nd lt;have kl:(aX (kd mt)<qZ)=True:=eq_true<|by unfold kd;rw[lMq];change _<16777216;lia
   have(s,G,t,k,Y,n):=bf_loop B C q nd lt (v2:=v2) (v3:=v3) (v4:=v4) (sp:=el<|P.map<|Ct rs);have al:∀q∈t,q<aX rs:=λz y=>n.lt z<|by rw[n.eq];show ay _ y
   have pc:=Jg al;have sE:=pM<|cN t;have cl:=K31.AX t;have pl2:=aAq _ _ n.nd n.lt;have la:aX t<=aX G:=by rw[n.eq,lAq];rfl'
   have l1:(aX t<=qZ)=True:=eq_true<|by change _<=16777216;lia
   have l2:(aX P<qZ)=True:=eq_true<|by change _<16777216;lia
   have ap:P.map (Ct rs)++[el<|t.map λk=>b8<|dI<|dk rs k []]=(P++[t]).map (Ct rs):=by rw[mBq];rfl
   have e0:ss rs v2 v3 v4 (mt++[i]) (el<|P.map<|Ct rs) i [i] 0=[aK<|b8<|dM rs,aK<|eu<|qt 0 rs,v2,v3,v4,aK<|eu<|kd<|mt++[i],aK<|el<|P.map<|Ct rs,i0 (i:Int),aK<|el [b8<|bo (i:Int)],i0 0]:=rfl;rw[e0]at Y;have ia:i∈t:=mGq n.h0;have dj:∀z∈mt,z∉t:=λz h1 h2=>by have:=n.nd;rw[n.eq]at this;show(nAq.mp this).2.2 z h1 z h2 rfl
   have dc:∀(z:Nat) (r:Ϝ) (x:Int),z∈mt->rs[z]?=aK r->x∈r->plc rs (-x)∈mt:=λz r x y hr H=>by rw[←J]at y ⊢;have(p,l,M):=mFq.mp y;show e8 mFq (p,l,(L p l).cl z r x M hr H)
   show(_,?_,P++[t],G,s,i0 (i:Int),aK<|b8<|dI<|cN t,i0 (k:Int),rfl,by rw[lAq,lSq];rfl',by rw[fAq,aB,J,n.eq],λp l=>?_,n.nd,n.lt,λj I=>?_);.simp! [vA,u,kn,kl];rw[Y];simp! [sE,dI,cl,l1,pc,l2,ap]
   .obtain l|l:=mAq.mp l;.show L p l
    .rw[mSq.mp l];show(gb ia,n.tr,λz r x y hr H=>?_);have(j,I):=aj.mp y;have m:=n.cl j z r x (gSq.mp I).1 I hr H;rw[n.eq]at m;obtain m|m:=mAq.mp m;.have O:x∈bf rs:=e8 mFq (r,mGq hr,H);have(r',Q,R):=B.at<|B.hneg x O;have b:=dc _ r' (-x) m Q R;rw[dF,plc_eq B.hn hr H]at b;show absurd y<|dj z b
     .show m
   .rw[n.eq];by_cases c:j=i;.rw[c];show ay _ ia
    .show bw _<|U j ∅);have(S',e,P,mt,s,v7,v8,v9,rfl,h1,h2,h3,h4,h5,h6):=key;rw[qp]at h1 h6;show(P,mt,s,v7,v8,v9,e,h1,?_,h3);rw[h2];show(cL h4 gH).mpr λq=>(λh=>e8 bE<|h5 q h,λh=>h6 q<|bE.mp h)
def UD(t:Mp rs):∃(xs:List AV) (P:List Λ),xi [dM rs]=aK (el xs)/\xs.map pE=P.map dM/\aX P<=aX rs/\dg (bf P) rs/\∀T∈P,x2 T:=by
 have hl:=t.hl;have hr:=t.hr;have(H,I,J,L):=RJ t.hn ∅;have(P,mt,M,v7,v8,v9,O,h1,h2,Q):=Pz t (v2:=H) (v3:=I) (v4:=J);have R:ET [bo (aX rs:Int)]=aK (qD 0<|aX rs):=vX (n:=aX rs) ∅;have l1:(aX rs<=qZ)=True:=eq_true<|by change _<=16777216;lia
 show(P.map<|Ct rs,P.map λl=>l.map λk=>dk rs k [],?_,?_,by rw[lMq];show h1,?_,λT S=>?_);.simp! [xi,Ds,l1,L,R,O]
 .rw[mPq,mPq];show mCq λl Z=>?_;change pE (el<|l.map λk=>b8<|dI<|dk rs k []) = d9 ((l.map λk=>dk rs k []).map dI);rw[sV,mPq,mPq];rfl
 .have e:bf (P.map λl=>l.map λk=>dk rs k [])=P.flatten.map λk=>dk rs k []:=by rw[eN]
  rw[e];show(kT<|h2.map _) ?_;have:(bD<|aX rs).map (λk=>dk rs k [])=rs:=by show gA ⋯ λi h1 h2=>?_;simp[gDq,h2]
  rw[this]
 .have(l,B,rfl):=mMq.mp S;have C:=Q l B;have u:∀i q,l[i]?=aK q->dk (l.map λk=>dk rs k []) i []=dk rs q []:=λi q h=>by rw[gDq,gMq,h];rfl
  have row:∀x∈bf rs,x∈dk rs (plc rs x) []:=λx U=>by have(r,h1,h2):=t.at U;rw[gDq,h1];show h2
  show(λe=>C.ne<|eS.mp e,λz X=>?_,λk h0 hk=>?_)
  .have(r,hr,s):=mFq.mp X;have(q,Y,rfl):=mMq.mp hr;have y:rs[q]?=aK (dk rs q []):=by rw[gDq];cases h:rs[q]? with
    |none=>rw[gDq,h]at s;cases s
    |some r=>rfl
   have zf:z∈bf rs:=e8 mFq (_,mGq y,s);show e8 mFq (_,e8 mMq (_,C.cl q _ z Y y s,rfl),row _<|t.hneg z zf)
  .rw[lMq]at hk;have(j,q,r,x,a1,a2,E,G,a5):=C.tr k h0 hk;have xf:x∈bf rs:=e8 mFq (_,mGq E,G);show(j,x,a1,?_,?_);.rw[u j q a2,gDq,E];show G
   .rw[u k _ a5];show row _<|t.hneg x xf
end K38
namespace K38
open PySem L2 Mr Z Zl
open K12 (gm qv)
open K16 (pm)
open K31 (wA Nm)
open K33 (ren LH Aq Jy)
open K37 (AW CD)
def HY c(hl:aX l<=1000):∃d,zB [bo c,dI l]=aK (aI d)/\aX d=aX l/\∀k,k<aX l->dk d k 0=dk l k 0∨dk d k 0 = -(dk l k 0):=by
 have key:=uL (x:=3) (body:=yZ) (λi S=>∃r d s,S=[i0 r,aK<|b8<|dI l,aK<|aI d,s]/\aX d=i/\∀k,k<i->dk d k 0=dk l k 0∨dk d k 0 = -(dk l k 0)) (ds:=l.map bo) (S:=[i0 c,aK<|b8<|dI l,aK<|el [],n_]) (c,[],n_,rfl,rfl,λk hk=>by lia) (by
  rintro i e S hd ⟨r,d,s,rfl,h1,h2⟩;rw[gMq]at hd;have(x,t,rfl):=oMq.mp hd;have G:=(gSq.mp t).1;have m2:=sG (i:=r) (j:=2) ⋯;have B:=uR (i:=r) (j:=2) ⋯ ⋯;have H:0<=r % 2:=bh _ ⋯;have b1:r % 2<2:=ba _ ⋯;have C:=Jc (i:=2) (j:=r % 2) (by lia)<|by lia
  have u:=JA (i:=x) (j:=1-2*(r % 2)) ∅ ∅;have l1:(aX d<qZ)=True:=eq_true<|Hl ∅;have sg:x*(1-2*(r % 2))=x∨x*(1-2*(r % 2)) = -x:=by obtain z|z:=(by lia:r % 2=0∨r % 2=1) <;> rw[z] <;> ac_nf
  generalize x*(1-2*(r % 2))=y at u sg;have E:d.map (λn=>b8<|bo n)++[b8<|bo y]=(d++[y]).map λn=>b8<|bo n:=by rw[mBq];rfl
  show([i0<|r / 2,aK<|b8<|dI l,aK<|aI<|d++[y],i0 x],?_,r / 2,d++[y],i0 x,rfl,by rw[lAq,h1];rfl,λk hk=>?_);.simp! [yZ,m2,B,C,u,l1,E]
  .by_cases z:k<i;.rw[gDq,gZq<|by ac_nf,←gDq];show h2 k z
   .have:k=i:=by lia
    subst this;rw[gDq,gYq<|by lia,h1,eU,gDq,t];show sg);have(I,e,r,d,s,rfl,h1,h2):=key;rw[lMq]at h1 h2;show(d,?_,h1,h2);unfold dI;simp! [dI]at e;simp! [zB,Dz,e]
theorem QN:∀{a b},a.length=b.length->(∀k,k<b.length->a.getD k 0=b.getD k 0∨a.getD k 0 = -(b.getD k 0))->(pm a).Perm (pm b)
 | [],[],_,_=>.refl _
 |x::a,y::b,l,h=>by
  have n:=QN (a:=a) (b:=b) (by simpa using l) λk hk=>h (k+1)<|by simpa using hk
  have h0:x=y∨x = -y:=h 0 ⋯;change([x, -x]++pm a).Perm ([y, -y]++pm b);show dg.append ?_ n;obtain rfl|rfl:=h0;.show .refl _
  .rw[dF];show dg.swap ..
def QJ c(hn:aX nm<=20)(u:c9<|pm nm)(y:∀z∈pm nm,z≠0)(G:b<=3):∃T xs Q,K44.wu [bo c,dI nm]=aK (sj T)/\K40.xi [dM T]=aK (el xs)/\xs.map pE++(aF b<|el [el []]).map pE=Q.map dM/\Fz Q/\(∀x∈bf (bf Q),x∈pm nm)/\aX xs+b<=63:=by
 have(T,B,l,s):=K44.NK c (nm:=nm) ∅ u y;have lT:aX (bf T)<=40:=by rw[ef s,K16.Lx];lia
 have C:=K37.Hb l.ne;have mp:Mp T:=(l.nd,by lia,by lia,l.ng);have(xs,P,e,ex,H,t,cn):=UD mp;have pf:dg (P++aF b [[]]).flatten.flatten<|bf T:=by
  have:bf (P++aF b [([]:Ϝ)]).flatten=bf (bf P):=by
   rw[fAq,fAq];have:∀b:Nat,bf (aF b [([]:Ϝ)]).flatten=[]:=λb=>by induction b with
    |zero=>rfl
    |succ b n=>rw[fJ,fCq,fAq,n];rfl
   rw[this,aNq]
  rw[this];show AN t
 have lr:∀b:Nat,aX (aF b [([]:Ϝ)]).flatten=b:=λb=>by induction b with
  |zero=>rfl
  |succ b n=>rw[fJ,fCq,lAq,n];simp;rfl'
 have I:aX xs=aX P:=by have:=congrArg aX ex;rwa [lMq,lMq]at this
 show(T,xs,P++aF b [[]],B,e,?_,(AW (λU E=>?_) (e8 (l8 pf) l.nd) (by rw[ef pf];lia) (by rw[fAq,lAq,lr,ef t];lia)<|by rw[lAq,bz];lia,λx r=>l.nz x<|pf.mem_iff.mp r,by rw[ef pf];lia),λx r=>s.mem_iff.mp<|pf.mem_iff.mp r,by lia);.rw[mBq,ex,fZ,fZ];rfl
 .obtain q|q:=mAq.mp E;.show cn U q
  .rw[(jk.mp q).2];show K37.QW
def TC{P:List Λ}(hn:Nm nm)(hl:aX nm<=aX ot)(n:∀T∈P,(∀x∈bf T,x∈wA nm)/\aX (bf T)<=1000/\aX T<=1000):qJ qi (pQ aAn<|oU (pD 0)<|oU (pD 1)<|oU (pD 2)<|oU (kSc<|rC<|bo 0) pJ) [aK<|b8<|dI nm,aK<|b8<|dI ot] (P.map dM)=aK ((P.map<|ren<|Jy<|Aq nm ot 0<|aX nm).map λU=>el<|U.map aI):=by
 rw[Pv<|λd=>match d with|d9 r=>el<|(ren (Jy<|Aq nm ot 0<|aX nm)<|rh (uz r) []).map aI|_=>b8 kR];.rw[mPq,mPq];show congrArg aK<|mCq λG Q=>?_;change el ((ren _<|rh (uz<|G.map dI) []).map aI)=_;rw[tx];rfl
 .intro d hd;have(T,l,rfl):=mMq.mp hd;have(a,b,c):=n T l;have ok:=K37.Hy (bits:=0) hn hl a b c;show([aK<|b8<|dM T,aK<|b8<|dI nm,aK<|b8<|dI ot],?_);change _=aK %[el<|(ren _<|rh (uz<|T.map dI) []).map aI|_];rw[tx,bB];simp! [ok]
def em(i)n(hn:0<n)(l:n<=25):∃k:Nat,k<n/\rX (bo i) (bo (n:Int))=aK (bo (k:Int)):=by have r:0<=i % (n:Int):=bh _ ∅;have s:i % (n:Int)<n:=ba _ ∅;show(jz<|i % (n:Int),by ac_nf,?_);rw[gZ r];show sG ∅
def Oo ns:∃P Q,Fz P/\Fz Q/\vx [ov ns]=aK (b8<|eH [d9<|P.map dM,d9<|Q.map dM]):=by
 have(n,hn,M):=em (cell ns 0) 21 ⋯ ⋯;have(b,hb,O):=em (cell ns 0 / 21) 4 ⋯ ⋯;have(w,hw,R):=em (cell ns 0 / 84) 4 ⋯ ⋯;have(n2,hn2,E):=em (cell ns 0 / 336) 21 ⋯ ⋯;have(b2,hb2,G):=em (cell ns 0 / 7056) 4 ⋯ ⋯;have M:rX (bo<|cell ns 0) (bo 21)=aK (bo (n:Int)):=M;have O:rX (bo<|cell ns 0 / 21) (bo 4)=aK (bo (b:Int)):=O;have R:rX (bo<|cell ns 0 / 84) (bo 4)=aK (bo (w:Int)):=R;have E:rX (bo<|cell ns 0 / 336) (bo 21)=aK (bo (n2:Int)):=E;have G:rX (bo<|cell ns 0 / 7056) (bo 4)=aK (bo (b2:Int)):=G;have d1:=uR (i:=cell ns 0) (j:=21) ⋯ ⋯;have d2:=uR (i:=cell ns 0) (j:=84) ⋯ ⋯;have d3:=uR (i:=cell ns 0) (j:=336) ⋯ ⋯;have d4:=uR (i:=cell ns 0) (j:=7056) ⋯ ⋯;have cN:∀(k:Nat),k<10->pK [ov ns,bo (k:Int)]=i0 (cell ns k):=λk hk=>B7 ns ∅;have c3:pK [ov ns,bo 3]=i0 (cell ns 3):=cN 3 ⋯;have c4:pK [ov ns,bo 4]=i0 (cell ns 4):=cN 4 ⋯;have c5:pK [ov ns,bo 5]=i0 (cell ns 5):=cN 5 ⋯;have c6:pK [ov ns,bo 6]=i0 (cell ns 6):=cN 6 ⋯;have zE:∀{l:Ϝ},(∀z∈l,1<=z)->∀z∈pm l,z≠0:=λ{l} lo z S q=>by have(y,hy,c):=bL.mp S;have:=lo y hy;simp at c;lia
 have(nm,g1,ln,nd,lo):=K44.Py (cell ns 1) (n:=n) ∅;have(T,xs,P,a1,X,ct,fz,sub,lx):=QJ (cell ns 2) (nm:=nm) ∅ (K12.BV nd lo) (zE lo) (b:=b) ∅;have(o1,g2,lo1,nd1,Y):=K44.Py (cell ns 3) (n:=aX nm) ∅;have hnm:Nm nm:=(by lia,nd,lo);have H:=CD b;have rk:=vX (n:=b) ∅;have lk:aX (qD 0 b)<=qZ:=by rw[qp];show uq ∅
 have sT:(T.map λr=>b8<|dI r).map pE=T.map dI:=KF T;have oM:∀T:Λ,sj T = el (T.map λr=>b8<|dI r):=λZ=>rfl;rw[oM]at a1;have sn:=pM nm;have I:=pM o1;have l1:(aX xs+b<=qZ)=True:=eq_true<|uq ∅;have st:∀L:List D,(L.map b8).map pE=L:=λL=>by rw[mPq];have:L.map (pE∘b8)=L.map id:=mCq λd Z=>sA d;rw[this,cZ]
 have sP:=st<|P.map dM;have lP:(aX P<=qZ)=True:=eq_true<|uq<|by have:=fz.fam.lp;lia
 by_cases c:1<w
 .have q1:((1:Int)<(w:Int))=True:=eq_true ∅;have(o,g3,lo3,nd3,lo3'):=K44.Py (cell ns 3) (n:=n2) ∅;have(d,e1,J):=K44.GV (cell ns 4) (l:=o) ∅;have ld:=ef J;have(C,f1,lf,sg):=HY (cell ns 5) (l:=d) ∅;have pp:=QN (a:=C) (b:=d) lf sg;have lod:∀z∈d,1<=z:=λz S=>lo3' z<|J.mem_iff.mp S;have(U,ys,Q,a2,s2,ct2,fz2,_,ly):=QJ (cell ns 6) (nm:=C) ∅ (e8 (l8 pp)<|K12.BV (e8 (l8 J) nd3) lod) (λz S=>zE lod z<|pp.mem_iff.mp S) (b:=b2) ∅;show(P,Q,fz,fz2,?_);rw[oM]at a2;have bk2:=CD b2;have rk2:=vX (n:=b2) ∅;have lk2:aX (qD 0 b2)<=qZ:=by rw[qp];show uq ∅
  have sU:(U.map λr=>b8<|dI r).map pE=U.map dI:=KF U;have s02:=pM o;have t:=pM d;have u:=pM C;have l2:(aX ys+b2<=qZ)=True:=eq_true<|uq ∅;have sQ:=st<|Q.map dM;unfold dM at X s2;simp! [vx,xX,XS,XO,RC,c3,c4,c5,c6,M,O,R,E,G,d1,d2,d3,d4,g1,g2,g3,a1,X,ct,H,rk,lk,sT,sn,I,l1,q1,e1,f1,a2,s2,ct2,bk2,rk2,lk2,sU,s02,t,u,l2,sP,sQ,bz]
 .have q1:((1:Int)<(w:Int))=False:=eq_false ∅;have(d,e1,J):=K44.GV (cell ns 4) (l:=o1) ∅;have ld:=ef J;have(C,f1,lf,sg):=HY (cell ns 5) (l:=d) ∅;have hd:Nm d:=(by lia,e8 (l8 J) nd1,λx B=>Y x<|J.mem_iff.mp B);have rn:=K33.NT (ot:=C) (bits:=0) hnm hd ∅ λk hk=>sg k ∅;have s:∀x∈bf (bf P),x∈wA nm:=sub;have rc:=TC (P:=P) (ot:=C) hnm ∅ λT hT=>(λx B=>s x<|by have(r,hr,B):=mFq.mp B;show e8 mFq (r,e8 mFq (T,hT,hr),B),fz.sizes hT);generalize Jy (Aq nm C 0<|aX nm)=f at rn rc;have fq:=fz.ren (f:=f) (λx B=>rn.odd x<|s x B,λx B y hy e=>rn.inj x (s x B) y (s y hy) e);have lQ:(aX (P.map<|ren f)<=qZ)=True:=by rw[lMq];show lP
  generalize P.map (ren f)=Q at rc fq lQ;have sQ:=KO Q;have rv:=MH (P:=Q) λT hT=>(fq.sizes hT).2;have t:=pM d;have u:=pM C;unfold dM at X;by_cases cw:w=1;.have q2:decide ((w:Int)=1)=t_:=d7 ∅;show(P,Q.map bk,fz,fq.back,?_);have sQ':=KO<|Q.map bk;generalize Q.map bk=Q' at rv sQ';simp! [vx,xX,XS,XO,RC,c3,c4,c5,M,O,R,d1,d2,g1,g2,a1,X,ct,H,rk,lk,sT,sn,I,l1,q1,e1,f1,t,u,sP,lP,rc,q2,sQ,lQ,rv,sQ',bz]
  .have q2:decide ((w:Int)=1)=f_:=d8 ∅;show(P,Q,fz,fq,?_);simp! [vx,xX,XS,XO,RC,c3,c4,c5,M,O,R,d1,d2,g1,g2,a1,X,ct,H,rk,lk,sT,sn,I,l1,q1,e1,f1,t,u,sP,lP,rc,q2,sQ,lQ,bz]
end K38
namespace K38
open PySem L2 Mr Z Zl
open K12 (gm qv)
open K37 (qX uA bc BP)
def ac5(h:Pr T):T.countP (λr=>decide<|r=([]:Ϝ))=[qX<|gm T].count [[]]:=by
 by_cases n:aX (bf T)=0
 .have s:=aD.mp n;have t:T=[[]]:=by have ne:=h.cn.ne;cases T with
   |nil=>show absurd rfl ne
   |cons r T=>show K11.xg h.cn (by rw[(gk.mp s).1];simp) h.nd
  have:qX (gm T)=[[]]:=(K37.zr<|aD.mp<|by rw[ef<|m7 T];show n).2;rw[this,t];rfl
 .have ne:=h.ne λz=>n<|by rw[z];rfl
  have l:=DO h;have u:¬ qX (gm T)=[[]]:=λz=>n<|by rw[←l,z];rfl
  rw[e8 List.countP_eq_zero λr hr=>by simpa using ne r hr,gK,qE<|by simpa using u]
theorem UM:∀{P:List Λ},(∀T∈P,Pr T)->P.flatten.countP (λr=>decide<|r=([]:Ϝ))=(P.map λT=>qX<|gm T).count [[]]
 | [],_=>rfl
 |T::P,h=>by rw[fCq,List.countP_append,UM λT l=>h T<|mCo _ l,ac5<|h T<|ai ..,ax,←cAq];rfl
def Uv(h:Fz P):(gm<|bf P).countP (λr=>decide<|r=([]:Ϝ))=(cs P).count [[]]:=by rw[←h.cs,←UM λT l=>h.pr l,(qv _).countP_eq,fV];show jx λr Q=>?_;have:=ef<|tR r;change decide (good r=[])=t_↔decide (r=[])=t_;rw[decide_eq_true_iff,decide_eq_true_iff,←aD,←aD,this]
def tl3:MS:=(oZ (pX 3<|pQ aBa<|oU (pD 1) pJ)
 (oZ (pX 4<|pQ aBa<|oU (pD 2) pJ)
 (oZ (pX 5<|pQ aBb<|oU (pD 3) pJ)
 (oZ (pX 6<|pQ aBb<|oU (pD 4) pJ)
 (oZ (pX 7<|pQ K38.rL<|oU (pD 5)<|oU (pD 6) pJ)
 (oZ (wz (yf (wo<|rH<|tY Sz<|oQ (oR 7)<|oQ (rC<|.ty "tuple") oV)<|yf (rH<|pU zO (oR 5)<|oR 3)<|yf (rH<|pU zO (oR 6)<|oR 4)<|wo<|rH<|qO K38.tj<|oQ (oR 3) oV) (qB<|kSc<|rC<|fb f_) qm)
 (oZ (wz (CL (rH<|pU Al (tY qV<|oQ (oR 7) oV)<|rC<|bo 2)<|rH<|pU Al (pU GP (oR 7)<|rC<|bo 0)<|rC<|j5 "alike") (qB<|kSc<|IQ (pU Al (IX<|oR 3)<|IX<|oR 4)<|qO K40.uW<|oQ (pU GP (oR 7)<|rC<|bo 1)<|oQ (oR 3)<|oQ (oR 4) oV) qm)
 (oZ (wz (yf (rH<|pU Gb (tY qV<|oQ (oR 7) oV)<|rC<|bo 4)<|rH<|pU Gb (pU GP (oR 7)<|rC<|bo 0)<|rC<|j5 "unlike") (qB<|kSc<|rC<|fb f_) qm)
 (qB<|kSc<|qO K38.yH<|oQ (oR 7)<|oQ (oR 1)<|oQ (oR 2)<|oQ (rOf<|pQ sS<|oU (pD 3) pJ)<|oQ (rOf<|pQ sS<|oU (pD 4) pJ) oV)))))))))
def Rv(h1:Fz P)(h2:Fz Q):tl3 [v0,i4<|P.map dM,i4<|Q.map dM,n_,n_,n_,n_,n_]=aK (.rt<|b8<|fb t_):=by
 have l:=K37.Ja h1.fam;have n:=K37.Ja h2.fam;have m1:=K36.xr.mp h1.fam;have m2:=K36.xr.mp h2.fam;have s:=K51.Qx (rs:=gm<|bf P)<|by have:=m1.hr;lia
 have t:=K51.Qx (rs:=gm<|bf Q)<|by have:=m2.hr;lia
 have u:=SU h1.fam;have I:=DY<|gm<|bf P;have g2:=DY<|gm<|bf Q;have y:∀M:Λ,zO (d9<|M.map dI) (d9<|M.map dI)=aK (fb f_):=λM=>by have:=acH M M;rw[d7 rfl]at this;show this
 by_cases c:cs P=cs Q
 .have co:=FJ h1.fam h2.fam c;have J:=QO h1.fam h2.fam c;rw[K36.QA J]at co;have ly:=K36.laying_ok m1 m2<|K36.O9 J;have R:decide (((gm<|bf P).countP<|λr=>decide<|r=([]:Ϝ):Int)=((gm<|bf Q).countP<|λr=>decide<|r=([]:Ϝ):Int))=t_:=d7<|by rw[Uv h1,Uv h2,c]
  generalize (K40.pr (K36.lay P Q)<|bf<|gm<|bf P).map zU=z at co ly;have B:=y<|gm<|bf P;have E:=y<|gm<|bf Q;have S:=tx<|gm<|bf P;have U:=tx<|gm<|bf Q;generalize gm (bf P)=M at *;generalize gm (bf Q)=N at *;have G:Sz [eH [j5 "alike", d9 z],.ty "tuple"]=aK (fb t_):=rfl;have lt:qV [eH [j5 "alike", d9 z]]=aK (bo 2):=rfl;have t0:GP (eH [j5 "alike", d9 z]) (bo 0)=aK (j5 "alike"):=rfl;have X:GP (eH [j5 "alike", d9 z]) (bo 1)=aK (d9 z):=rfl;unfold dM at l n s t co ly u ⊢;simp! [tl3,l,n,I,g2,s,t,co,G,B,E,u,lt,t0,X,S,U,R,ly,decide_true]
 .have(x,Y,co):=BW h1.fam h2.fam c;have un:=Sj h1 h2 Y;have L:=codes_ok h1.fam;have O:=codes_ok h2.fam;have B:=y<|gm<|bf P;have E:=y<|gm<|bf Q;have sC:=Az<|cs P;have H:=Az<|cs Q;generalize (cs P).count x=a at co un;generalize (cs Q).count x=b at co un;generalize cs P=C at *;generalize cs Q=C' at *;generalize gm (bf P)=M at *;generalize gm (bf Q)=N at *;have G:Sz [eH [j5 "unlike", dC x,bo (a:Int),bo (b:Int)],.ty "tuple"]=aK (fb t_):=rfl;have lt:qV [eH [j5 "unlike", dC x,bo (a:Int),bo (b:Int)]]=aK (bo 4):=rfl;have t0:GP (eH [j5 "unlike", dC x,bo (a:Int),bo (b:Int)]) (bo 0)=aK (j5 "unlike"):=rfl;have e2:decide ((4:Int)=2)=f_:=by rfl
  have e4:decide ((4:Int)=4)=t_:=by rfl
  unfold dM at l n s t co u un L O ⊢;simp! [tl3,l,n,I,g2,s,t,co,G,B,E,u,lt,t0,e2,e4,L,O,sC,H,un,decide_true]
def abD(r:aX ns<=63):QV [ov ns]=i5 t_:=by
 have(P,Q,h1,h2,e):=Mc ns;have(x,y,l,n,s):=Oo ns;have t:=Rv h1 h2 (v0:=aK<|b8<|ov ns);have u:=Rv l n (v0:=aK<|b8<|ov ns);have m2:=sG (i:=((aX ns:Nat):Int)) (j:=2) ⋯;have lw:Xp=oZ (IW [1,2]<|pQ K38.wB<|oU (pD 0) pJ) (oZ (wz (rH<|pU Al (pU rX (tY qV<|oQ (oR 0) oV)<|rC<|bo 2)<|rC<|bo 0) (IW [1,2]<|pQ K38.vx<|oU (pD 0) pJ) qm) tl3):=rfl;by_cases c:((aX ns:Nat):Int) % 2=0;.have d:decide (((aX ns:Nat):Int) % 2=0)=t_:=d7 c;simp! [QV,lw,e,s,UW,aaH,QS,Rl,m2,d,u]
 .have d:decide (((aX ns:Nat):Int) % 2=0)=f_:=d8 c;simp! [QV,lw,e,UW,aaH,QS,Rl,m2,d,t]
end K38
namespace K38
open PySem L2 Mr Z
noncomputable def afV(K:Ζ)(c:Addr):Option Addr:=match K.lookup c with
 |aK l=>(match vr l with
  | fT vs=>(match (vs[11]?:Υ)with
   |aK (ao P)=>aK P
   |_=>n_)
  |_=>n_)
 |n_=>n_
def YJ(n:wD K=[%[P|q]])(hn:K.lookup P=n_)(ht:c7 h P=aK (W.tabObj #[]))(r:W.CodeHd h c P):Fl K h:=by intro x l;rw[n]at l ⊢;obtain rfl:=mSq.mp l;show(by simp[List.lookup],hn,ht,c,r)
def abo{l:W.OpenLaw}{w:kM}{K:Ζ}{h:Heap}{mg:Str->Υ}{fa:Addr}(X:K.In h)(G:h.Ns kN mg)(hfa:mg "law" = aK (ao fa))
  (a0:At K "told_ends" zi f0 fd0)
  (a1:At K "ends_of" Cs f1 fd1)
  (a2:At K "places_at" zJ f2 fd2)
  (a3:At K "reached" B6 f3 fd3)
  (a4:At K "pieces" Eg f4 fd4)
  (a5:At K "refuse_not_one_piece" tI f5 fd5)
  (a6:At K "turn_from" zt f6 fd6)
  (a7:At K "round_turns" xB f7 fd7)
  (a8:At K "round_ends" yj f8 fd8)
  (a9:At K "turn_code" zI f9 fd9)
  (E:At K "code_of" Cj f10 fd10)
  (H:At K "round_code" yk f11 fd11)
  (a12:At K "least_round" xw f12 fd12)
  (I:At K "least_code" xV f13 fd13)
  (J:At K "codes" Gn f14 fd14)
  (L:At K "by_codes" A0 f15 fd15)
  (M:At K "laying" DZ f16 fd16)
  (O:At K "least_apart" xp f17 fd17)
  (Q:At K "compared" AD f18 fd18)
  (R:At K "_law_cell" Dy f19 fd19)
  (S:At K "_law_name" DU f20 fd20)
  (U:At K "_law_turns" CB f21 fd21)
  (Y:At K "_law_turned" A7 f22 fd22)
  (a23:At K "_law_good" DK f23 fd23)
  (a24:At K "_law_copy" DE f24 fd24)
  (a25:At K "_law_renamed" zz f25 fd25)
  (a26:At K "_law_whole" CG f26 fd26)
  (a27:At K "_law_follow" AU f27 fd27)
  (a28:At K "_law_pairs" CJ f28 fd28)
  (a29:At K "_law_is_laying" xo f29 fd29)
  (a30:At K "_law_laid" D6 f30 fd30)
  (a31:At K "_law_built" Cc f31 fd31)
  (a32:At K "_law_joined" AH f32 fd32)
  (a33:At K "_law_read_code" xE f33 fd33)
  (a34:At K "_law_many_like" xt f34 fd34)
  (a35:At K "_law_second" A9 f35 fd35)
  (a36:At K "_law_unlike" AC f36 fd36)
  (a37:At K "_law_beside_none" vW f37 fd37)
  (a38:At K "_law_gap_names" xD f38 fd38)
  (a39:At K "_law_dealt" Cq f39 fd39)
  (a40:At K "_law_any_map" zk f40 fd40)
  (a41:At K "_law_flipped" zK f41 fd41)
  (a42:At K "_law_split" Cb f42 fd42)
  (a43:At K "_law_some_two" ym f43 fd43)
  (a44:At K "_law_any_two" zu f44 fd44)
  (a45:md K kN "law" = aK (aK<|ao f45)) (l45:K.lookup f45=aK (oc45,od45,.func<|wh "law" "law" (ye CQ) (vF CQ) (oX CQ) gX kV45 dc45 pm45 an45 cd45 ct45,sl45)) (c45:aAv K cd45 "law" = t_) (k45:aAu K (ao f45)=t_)
  (btu:md K kN "tuple" = aK n_)
  (r:md K kN "any" = aK n_)
  (z0:md K kN "len" = aK n_) (z1:md K kN "min" = aK n_) (z2:md K kN "max" = aK n_) (z3:md K kN "abs" = aK n_) (z4:md K kN "all" = aK n_) (z5:md K kN "sorted" = aK n_) (z6:md K kN "isinstance" = aK n_) (z7:md K kN "list" = aK n_) (z8:md K kN "int" = aK n_) (z9:md K kN "bool" = aK n_) (z10:md K kN "str" = aK n_) (z11:md K kN "dict" = aK n_) (z12:md K kN "zip" = aK n_) (z13:md K kN "enumerate" = aK n_) (z14:md K kN "range" = aK n_) (z15:md K kN "reversed" = aK n_)
  (hC:fd12.code = ao u) (hP:afV K u=aK x) (hT:W.codeHdIn K u x=t_) (hM:wD K=[%[x|(("least_round" : Str) ++ ".<locals>.") ++ "<lambda>"]]) :
  ∃fd:lH,(∀s v,oa s fd ([v],[]) [%["_law_script"|v]])/\∀base:Heap,K.In base->base.Ns kN mg->An l.prog w K mg base XN 12 fa fd ["_law_script"] (Qr K):=by have e:=hfa.symm.trans<|W.mg_of X G a45;cases e;have B:Bt mg:=(W.mg_none_of X G z0,W.mg_none_of X G z1,W.mg_none_of X G z2,W.mg_none_of X G z3,W.mg_none_of X G z4,W.mg_none_of X G z5,W.mg_none_of X G z6,W.mg_none_of X G z7,W.mg_none_of X G z8,W.mg_none_of X G z9,W.mg_none_of X G z10,W.mg_none_of X G z11,W.mg_none_of X G z12,W.mg_none_of X G z13,W.mg_none_of X G z14,W.mg_none_of X G z15);have D45:xP K mg "law" CQ ["_law_script"] _ _:=(PM l45 c45 k45,W.mg_of X G a45,b1 (PM l45 c45 k45) λZ Z Z Z Z Z Z=>rfl);show(W.fnOf "law" "law" (ye CQ) (vF CQ) (oX CQ) .none kV45 dc45 pm45 an45 cd45 ct45,λs v=>.of_eq rfl,λbase kb nb=>?_);have n:=W.mg_none_of X G btu;have t:=W.mg_none_of X G r;have F0:=Lq (P:=l.prog) (w:=w) (base:=base) (ze X G a0<|b1 a0.F) B;have F1:=Pi (ze X G a1<|b1 a1.F) B F0;have F2:=KJ (P:=l.prog) (w:=w) (base:=base) (ze X G a2<|b1 a2.F) B;have F3:=Qj (ze X G a3<|b2 a3.F) B F2;have F4:=Ua (ze X G a4<|b1 a4.F) B F3;have F5:=Ag (ze X G a5<|b1 a5.F) B F4;have F6:=LD (P:=l.prog) (w:=w) (base:=base) (ze X G a6<|b2 a6.F) B;have F7:=HP (ze X G a7<|b2 a7.F) B F2 F6;have F8:=IE (ze X G a8<|b2 a8.F) B F0 F7;have F9:=Km (P:=l.prog) (w:=w) (base:=base) (ze X G a9<|b2 a9.F) B n;have F10:=Oy (ze X G E<|b1 E.F) B n F0 F9;have F11:=IF (ze X G H<|b2 H.F) B F10 F7;have F12:=G7 (ze X G a12<|b1 a12.F) hC hT (by rw[hM];show mSq.mpr rfl) B F1 F8 F11;have F13:=IB (ze X G I<|b1 I.F) B F5 F1 F10 F11;have y:=WT (ze X G J<|b1 J.F) B F13 F4;have F15:=LP (ze X G L<|b1 L.F) B F4 F13;have F16:=Te (ze X G M<|b2 M.F) B F15 F12;have F17:=GC (P:=l.prog) (w:=w) (base:=base) (ze X G O<|b2 O.F) B;have F18:=Nt (ze X G Q<|b2 Q.F) B y F17 F16;have z:=Tb (P:=l.prog) (w:=w) (base:=base) (ze X G R<|b2 R.F) B;have F20:=T9 (P:=l.prog) (w:=w) (base:=base) (ze X G S<|b3 S.F) B;have F21:=Ow (P:=l.prog) (w:=w) (base:=base) (ze X G U<|b3 U.F) B;have F22:=MZ (P:=l.prog) (w:=w) (base:=base) (ze X G Y<|b1 Y.F) B;have F23:=Su (ze X G a23<|b1 a23.F) B F22;have F24:=R9 (P:=l.prog) (w:=w) (base:=base) (ze X G a24<|b1 a24.F) B;have F25:=Ld (P:=l.prog) (w:=w) (base:=base) (ze X G a25<|b4 a25.F) B;have C:=P8 (P:=l.prog) (w:=w) (base:=base) (ze X G a26<|b1 a26.F) B;have F27:=My (P:=l.prog) (w:=w) (base:=base) (ze X G a27<|b1 a27.F) B;have F28:=O8 (ze X G a28<|b1 a28.F) B n C;have F29:=Hd (ze X G a29<|b3 a29.F) B F27 F28;have F30:=Ta (P:=l.prog) (w:=w) (base:=base) (ze X G a30<|b4 a30.F) B;have F31:=PN (ze X G a31<|b3 a31.F) B F21;have F32:=M7 (ze X G a32<|b1 a32.F) B F23;have F33:=G8 (ze X G a33<|b1 a33.F) B n C;have F34:=GN (ze X G a34<|b2 a34.F) B t F27 F30;have F35:=NA (ze X G a35<|b4 a35.F) B F20 F25 z F31;have F36:=MB (ze X G a36<|a36.F.binds λZ Z Z Z Z Z us hl=>match us,hl with|[_,_,_,_,_],_=>rfl) B F33 C F34;have F37:=EX (ze X G a37<|b1 a37.F) B y F18;have F38:=GY (P:=l.prog) (w:=w) (base:=base) (ze X G a38<|b2 a38.F) B;have F39:=P5 (P:=l.prog) (w:=w) (base:=base) (ze X G a39<|b2 a39.F) B;have F40:=JU (ze X G a40<|b2 a40.F) B F39;have F41:=Lg (P:=l.prog) (w:=w) (base:=base) (ze X G a41<|b2 a41.F) B;have F42:=Pe (P:=l.prog) (w:=w) (base:=base) (ze X G a42<|b1 a42.F) B;have F43:=IJ (ze X G a43<|b1 a43.F) B z F31 F20 F35;have F44:=K6 (ze X G a44<|b1 a44.F) B z F38 F41 F42 F39 F25 F40;have F45:=abR D45 B n F43 F32 F24 F18 F36 F44 y F37 F29;show F45.ok.imp<|ZP λns h=>abD h
def afN{l:W.OpenLaw}{y:(Str->Υ)->Heap->Prop}{K:Params->Ζ}(hn:l.most=aK 63)(t:d.params.defaults=[])
  (B:∀w h,r w h->(K w.params).In h) (C:∀w h,r w h->Fl (K w.params) h)
  (F:∀w (mg:Str->Υ) fa h,(K w.params).In h->h.Ns kN mg->mg d.name=aK (.ref fa) ->
   ∃fd:lH,(∀s u,oa s fd ([u],[]) [%["_law_script"|u]])/\∀base:Heap,(K w.params).In base->base.Ns kN mg->An l.prog w (K w.params) mg base XN 12 fa fd ["_law_script"] (Qr<|K w.params)) :
  W.WalkO q loose y r l.row.toRowW d []<|λf vs=>PySem.call f vs:=L2.Zz (n:=63) (k:=12) (x:= "_law_script") (CX:=λQ=>XN) (sp:=λw=>Qr<|K w.params) hn ⋯ t (rfl,by decide,by decide) B C F (λQ Q a E hl Q hS=>(a,E,rfl,hS,hl,λQ=>rfl)) λQ Q Q Q Q z=>z
end K38
structure PySem.W.Fast:Prop where(tw7220965697154033985 tw3100760527951189464 tw13256919132546201169 tw7215495495399238376 tw15517230085720276917 tw3274613672874655321 tw15173699589489978070 tw6221940046443222618 tw6956793998632764854 tw16442071282460276030 tw17564687445477000617 tw14550085874180969938 tw1133132034301680583 tw16810367638774266724 tw10672534585138030771 tw11997784749771652600 tw4560633689971006929 tw4693935769398619577 tw12181247683328724816 tw4238605278645336924 tw15025144896838443338 tw18094828627657067551 tw17958548321571272227 tw2556784961918139507 tw2813850946679971054 tw3388745909451448201 tw16359619302802147116 tw3308867027722365785 tw7971989193854877382 tw13226549181603878230 tw11683444647912437688 tw17187001450559478865 tw11107682708042709816 tw4673512087552527641 tw16368336207080250851 tw13929222886646782494 tw16819168250105594038 tw5697559803584604279 tw3565651360689899617 tw1938845596171051778 tw6857845793622026055 tw12254084347507541470 tw15215002331646433238 tw1836130108530907370 tw7891796120737098106 tw719360453681699371 tw3044903468257331008 tw4999083248992929044 tw5464803109634362611 tw11851710529700139049 tw17164313976861703710 tw5526573216003371439 tw7319506714086012784 tw11934531606541491729 tw4107308716938611697 tw15213285231360980469 tw64858071646243216 tw3296977846497209110 tw2460240426887214169 tw18284858250245239860 tw18242351541328525277 tw135488019562526322 tw17340764418139660940 tw10924840936213598894 tw9472916899802794635 tw13545544035876981218 tw853234895180016937 tw1803395176272306731 tw16955467884670861299 tw14897104254585751586 tw8482975715253032766 tw3941082758680318456 tw16764148260811844588 tw5777843667130091148 tw2316859172754754227 tw18242606556330677282 tw2979883068310585522 tw2336557161533441347 tw7687076627655377739 tw12680830210648572786 tw17441047808606307765 tw5520253490143138411 tw17385521969280772009 tw5897148830126424514 tw6047521917022978486 tw17012214834456200944 tw63093299587349376 tw14326714405967876294 tw16895670683565950259 tw17545450169463135905 tw1866617593114296496 tw4687954975293188812 tw13137503877676103672 tw5437180802944596893 tw7473492318753646485 tw4354831687990996108 tw15182313819782158689 tw15821782454867710278 tw3135856026034982746 tw7152346213213343467 tw6504845771933071305 tw7149620392180256152 tw1136989017941065196 tw7996200952314055912 tw2598473274183698672 tw14103307705879262141 tw11431080183790428991 tw15259951433042403073 tw7636387242638944094 tw4715139559380222317 tw3115823588872112033 tw5755489602737377831 tw9080045535013432257 tw871910969465784544 tw2307131576065300800 tw5229623093190516906 tw11035332666625751311 tw1372065415887971865 tw5008458055192961037 tw3322648610024888710 tw13388763928029174652 tw116928144906692983 tw17671354368750285145 tw9895685080567498948 tw8951569788544920968 tw16735105897209694970 tw17181177998421999329 tw8257753827986817666 tw15547055518747872953 tw2243356047243194348 tw3113749713103246355 tw8354438361791957574 tw9254862902271044498 tw18408561516790361009 tw1684477947471887312 tw7127146043837183997 tw11084264464343911020 tw10474678271505382858 tw18022378747801766510 tw416226989221836459 tw8156107667210533313 tw8571221935545727110 tw12603915282494969867 tw16040620084487171720 tw5444602003398889538 tw10462956573280266536 tw10789555074647928535 tw17527431048719687491 tw12514235101533463705 tw10816476470996638305 tw16884611940630714709 tw13270035995173527493 tw9697566087552405033 tw9325448222247870060 tw542520305481277148 tw16955688765681736368 tw4297648477182702065 tw10238659478955840374 tw14307762206490703175 tw3791684312958305767 tw4082205445339814496 tw11065061089675861745 tw15118316221703642346 tw9072139412609307341 tw2691913236571614808 tw7383152570710946464 tw12132860178892286740 tw11755217514422378409 tw11957315720568962041 tw16743294908026627124 tw16282967180300061994 tw17380727478742806331 tw14383091914499894045 tw5818916124575863774 tw15390017413046364107 tw6359057195612408565 tw7920734761058576048 tw14065769948703605588 tw11235810155268275366 tw16484361459952077783 tw1135690290991492961 tw17399593462235969772 tw8619040785231109778 tw6673308788935119341 tw16631121030964479491 tw13962383656080562651 tw4323858430480453420 tw4155020170094939986 tw15111166509073577006 tw13408945491046700609 tw8567750311199108682 tw17272020822081244093 tw14005984465444431517 tw8789575780754566632 tw8347251084827469872 tw5790197445973230672:True)
open PySem PySem.W PyProof.Rows
set_option tactic.hygienic true
set_option maxRecDepth 100000 in
set_option maxHeartbeats 0 in
theorem PySem.Challenge.cw_mapround_k38_whole_told_apart_holds : PySem.Challenge.rw_mapround_k38_whole_told_apart.Holds := by
 w_on;o_law;k_head;(case hw=>w_witness2);k_fill;refine K38.afN (l:=PySem.Challenge.rw_mapround_k38_whole_told_apart) rfl rfl (λw h Y=>W.km_in_of Y) ?T ?F;case T=>exact λw h Y=>K38.YJ (P:=138) (c:=142) (q:=(("least_round" : Str) ++ ".<locals>.") ++ "<lambda>") (by kernel_rfl) (by kernel_rfl) (W.km_tabs_of Y 138<|by k_mem)<|W.codeHd_of_K (W.km_in_of Y)<|by kernel_rfl
 case F=>
  intro w mg fa h KX G hmg;apply K38.abo KX G hmg;case a12=>exact Mr.aao (by k_is) (by k_is) (by k_is)<|by k_is
  case hC=>first|exact rfl|k_is
  case hP=>first|k_is|exact rfl
  all_goals first|exact Mr.aao (by k_is) (by k_is) (by k_is)<|by k_is|exact Mr.atM_mk (by k_is) (by k_is) (by k_is) (by k_is)<|by k_is|k_is|kernel_rfl

import PyProof.Rows.All
import Wide.All
import OpenK.AllK
import Wide.FinOn
import Lean
import PyProof.EqAt
import PyProof.EqKinds
import PyProof.TupleCall
import KE.KIntText
import PyProof.ConsumeWalk
import KE.KSortTup
import PySem.Challenge.RW_mapround_k48_whole_parts_again
set_option Elab.async false
set_option linter.all false
set_option maxRecDepth 100000
set_option maxHeartbeats 4000000
open Option renaming bind_eq_some_iff->oBq,map_eq_some_iff->oMq
open List renaming getElem?_eq_some_iff->gSq,getElem?_eq_getElem->gEg,getD_eq_getElem?_getD->gDq,length_append->lAq,length_map->lMq,mem_append->mAq,mem_flatten->mFq,mem_map->mMq,getElem?_map->gMq,mem_of_getElem?->mGq,map_congr_left->mCq,getElem_mem->gRq,length_singleton->lSq,mem_singleton->mSq,length_take->lTq,nodup_append->nAq,append_nil->aNq,flatten_append->fAq,getElem?_append_right->gYq,getElem?_append_left->gZq,length_cons->lCq,map_map->mPq,map_append->mBq,mem_cons_of_mem->mCo,length_set->lZq,flatten_cons->fCq,count_append->cAq,mem_cons->ag,mem_cons_self->aj,map_cons->ao,append_assoc->aq,mem_append_right->ar,mem_filter->aw,mem_append_left->az,nodup_cons->aA,size_toArray->aB,sublist_flatten_of_mem->aD,mem_iff_getElem?->aH,replicate->aK,length_drop->aL,take_append_drop->aM,length_eq_zero_iff->aS,nodup_iff_pairwise_ne->aT,pairwise_append->aV,Perm->aW,getElem?_set_ne->aX,getElem?_set_self->aZ,drop_eq_getElem_cons->ba,perm_append_comm->bb,count_cons_of_ne->bc,length_range->bf,nodup_nil->bp,range->bq,take_length->bw,mem_of_mem_drop->bx,pairwise_map->bz,zipWith->bB,exists_mem_of_ne_nil->bC,length->bD,take_of_length_le->bE,mem_of_mem_take->bG,getElem?_set->bI,take_sublist->bK,getElem?_eq_none->bO,mem_eraseIdx_iff_getElem?->bS,count_cons_self->bT,ne_nil_of_mem->bU,filter_append->bV,pairwise_iff_getElem->bW,map_nil->bX,drop_sublist->bY,take_add_one->bZ,Pairwise->cg,foldl_cons->cj,mem_reverse->cv,mem_flatMap->cw,flatten_singleton->cx,length_pos_iff->cz,mem_range->cC,Sublist->cD,count_eq_zero->cF,erase_cons_head->cG,find?_cons->cJ,find?_cons_of_neg->cO,perm_ext_iff_of_nodup->cP,getElem?_zipWith->cQ,any_eq_true->cR,perm_middle->cS,getElem?_drop->cT,getElem?_take_of_lt->cV,mem_iff_getElem->cX,length_eraseIdx->cZ,reduceReplicate->df,length_nil->dh,getElem?_replicate->dq,eraseIdx_cons_succ->du,perm_iff_count->dv,drop_eq_nil_of_le->dA,find?_cons_of_pos->dB,getElem?_concat_length->dD,length_filter_le->dF,any_cons->dN,flatMap_cons->dO,perm_cons_erase->dP,erase_cons_tail->dQ,eq_of_mem_replicate->dR,drop_zero->dS,cons_append->dU,drop_length->dW,not_mem_nil->dX,filter_sublist->ef,filter_cons_of_pos->eB,set_cons_zero->eC,set_cons_succ->eD,nil_append->eF,zipWith_cons_cons->eI,length_replicate->eJ,map_id->eM,set_set->eP,extract_eq_take_drop->eW,getElem?_zip_eq_some->eZ,filter_eq_self->fe,flatMap_append->ff,zip_cons_cons->fu,filter_filter->fw,filter_cons_of_neg->fF,erase_append_right->fG,take_zero->fI,getElem_drop->fL,ext_getElem?->fM,filter_congr->fO,drop_of_length_le->fS,pairwise_lt_range->fU,erase_append_left->fV,filter_eq_nil_iff->fW,findIdx_lt_length_of_exists->fX,eraseIdxIfInBounds_toArray->fY,set_getElem_self->fZ,pairwise_flatten->gk,filter_map->gu,filterMap_cons->gC,getElem?_range->gD,length_zipWith->gG,perm_singleton->gH,countP_eq_zero->gI,pairwise_cons->gJ,getElem_take->gP,mem_or_eq_of_mem_set->gR,foldl_append->gS,findIdx?_eq_none_iff->gU,find?_isSome->gW,countP_congr->gX,idxOf_lt_length_iff->gY,pairwise_mergeSort->ic,getElem?_cons_zero->ik,of_mem_zip->ir,length_pos_of_mem->iu,length_zip->iy,append_eq_nil_iff->iz,filter_nil->iA,count_cons->iB,length_eq_one_iff->iC,getElem?_toArray->iF,eq_nil_or_concat->iI,concat_eq_append->iJ,mem_of_mem_erase->iL,count_nil->iM,reverse_reverse->iN,findIdx_getElem->iP,dropLast_concat->iQ,eraseIdx_set_eq->iR,all_cons->iS,reverse_append->iT,mergeSort_perm->iU,map_take->iV,map_drop->iW,findIdx?->iX,mem_filterMap->iZ,getElem_idxOf->ja,getElem?_take->jb,forIn_toArray->jc,count_pos_iff->je,map_replicate->jf,any_map->jg,getElem_inj->jk,drop_append->jn,countP_cons->ju,forIn_cons->jy,drop_left->jD,take_left->jE,drop_drop->jF,forIn_nil->jH,cons->jM,map_id'->jR,map_set->jS
open And renaming intro->aa
open PySem.Heap renaming get?_push_of_some->ae,lt_size->ak,get?_push_size->aC,SameBut->bL,get?_update_other->cI,get?_update_ne->cL,get?_update_self->dE,size_update->eS,DictOf->fg,size_push->fJ,get?_push_ne->fN,ExtBut->jr,NewExcOf->jN
open Array renaming getElem?_eq_getElem->af,length_toList->au,getElem?_toList->ax,toList_append->aQ,getElem?_eq_some_iff->aY,getElem_mem->bu,toList_push->cA,toList_reverse->cY,toList_extract->eQ,size_extract->ft,getD->fQ,toArray_toList->gq,toList_setIfInBounds->gM,getElem?_extract->iw,mem_toList_iff->iO,Perm->jz,size_map->jG
open Nat renaming le_refl->ai,ne_of_lt->ay,lt_of_lt_of_le->aN,zero_le->bg,le_of_lt->bA,zero_add->bF,ne_of_gt->bM,le_trans->bQ,lt_succ_of_lt->bR,le_succ->cu,not_lt_zero->cK,lt_succ_self->dw,min_eq_left->dJ,reduceEqDiff->dZ,reduceLeDiff->ee,lt_irrefl->eE,le_of_eq->eN,sub_self->eO,mod_eq_of_lt->eV,add_assoc->eX,add_one_sub_one->eY,reduceAdd->fb,reduceSub->fc,lt_succ_iff_lt_or_eq->fk,lt_or_eq_of_le->fm,pos_of_ne_zero->fq,lt_trans->fD,lt_add_right->gf,add_zero->gA,lt_trichotomy->gO,le_of_not_lt->hW,add_sub_cancel_left->hZ,sub_zero->ie,add_sub_cancel->jd,le_of_lt_succ->jh,max_eq_right->jo,min_eq_right->jq,le_add_right->jt,mod_lt->jA,min_self->jQ
open PySem.F renaming plainAttrs_list->aE,slot_list_append->bh,type_list_append->bj,called_set->cE,slot_list_extend->fh,type_list_extend->fj,slot_list_index->fE,slot_list_pop->gh,type_list_pop->gj,slot_dict_setdefault->gF,plain_extend_loop->gV,slot_dict_values->gZ,slot_list_insert->hJ,type_list_insert->hV,plainAttrs_dict->ij,type_list_index->iq,plain_set_new->iE,slot_set_iter->iG
open Bool renaming false_ne_true->aF,eq_iff_iff->cH,false_eq_true->cU,not_eq_true->dY,and_eq_true->eR,not_eq_true'->gQ,or_eq_true->jx,false_and->jC,false_or->jL,or_false->jP,or_true->jT
open Sum renaming inl->aG,inr->gN
open Option renaming some->aJ,map_some->cM,isSome_map->eK,bind_some->eU,toList_some->gK,getD_none->jm,none->jV
open Int renaming emod_lt_of_pos->aO,emod_nonneg->aR,toNat_natCast->br,neg_neg->bJ,le_of_lt->gw,zero_add->gB,fdiv_eq_ediv_of_nonneg->gL,le_refl->iD,toNat->iK,toNat_of_nonneg->iY,emod_eq_of_lt->ji
open PySem.Value renaming ref->bH,type->dG,int->fK,none->fP,isStrOf->jJ,str->jK,builtin->jO,isInt->jU,bool->jW
open PyProof.Rows renaming callWith_type1->bN,boot_abs->bP,boot_sorted->cW,boot_list->dC,callWith_builtin1->gm,boot_min->iH,boot_isinstance->jB,eq_dataH_same->jI,lt_int->jX
open Classical renaming byContradiction->cB,propDecidable->eh
open Or renaming inr->jj
open Prod renaming ext->jw
open PySem renaming wpAny_bind->jY,wpAny_pure->jZ,wpAny->kf,model->ki,sizeLine->ko,Program->kq,World->kr,mainGlobals->ku,starEach->kx,wpAny_holding->kA,rawInt->kC,codeAny_builtin->kE,wpAny_call_entry->kF,FuncData->kG,wpAny_mono->kJ,wpAny_callSpecial?_slot->kK,wpAny_setState_of->kL,sizeLine_eq->kN,plainId_quiet->kP,wpAny_setField_rec->kR,compareOp->kS,pyNext->kT,call_isinstance->kU,sysModules->kY,builtinLookup_eq_fast->kZ,wpAny_passesOwn->lg,isinstance_true->lj,wpAny_newObj_type->ly,unsupported->lz,scanBound->lB,wpAny_isInstance->lD,backTo->lF,wpAny_attempt->lH,valueAt->lJ,intKind->lK,codeAny->lO,wpAny_Call_Name_kw->lQ,wpAny_ite_split->lR,call_meets->lS,wpAny_truthy_bool->mh,wpAny_seqItems->mj,isSubtype_type->mn,wpAny_typeOf->mq,wpAny_rule->mz,cLine->mC,Scope->mD,wpAny_newList->mE,sliceBounds->mF,typeLookup_type->mI,sub_AttributeError->mJ,getattributeRaised->mK,bootBuiltins->mL,binaryOp->mM,wpAny_field->mP,behindInMarks->mR,attributeBase->mS,wpAny_notOrdered_dict->mV,setNext->mW,wpAny_execs_nil->mY,letOwnedTupleGo->mZ,codeAny_mono->ni,typeLookup->nq,setEntries->nt,assignEach->nu,stored->nv,wpAny_fieldsOf->nC,firstArgMember->nD,ZipApart->nF,relabel->nG,tupleKind_room_in1->nH,wpAny_pyIter_list->nJ,foldedSetIterable->nK,fits_of_scanBound->nL,callerA->nO,wpAny_comprehension_free->nP,wpAny_askSetting->nQ,relayAll->nR,assign->nV,IsPair->nX,wpAny_Call_method0_late->nY,tupleKind->og,swapsWith->oh,atKey->oi,wpAny_nextOf_list_item->oj,subscripted->YY,wpAny_isTrue_Compare1->YZ,wpAny_runValue->Y0,wpAny_newTuple->Y1,isSubtype_stop->Y3,entryFor_alias->Y4,getItem->Y6,Keyword->Y7,BindsTo->Y8,Result->Y9,lookup_relabel_local->Za,intKind_is->Zc,entryFor->Ze,wpAny_standAt->Zf,wpAny_dictSet_pairs->Zi,seqIndex_neg->Zj,seqIndex?->Zp,getAttrBy->Zq,holding->Zr,wpAny_of_eq->Zt,seqIndex_of->Zu,keywordEach->Zx
open PyProof.Rows renaming Keyed->kc,wpS_bind->kj,wpS_pure->km,arrOf->kz,seqObj->kB,IntsAre->kH,wpS_forRange->kM,setArr->kO,SortKind->kQ,wpS_mono->kW,elem'->kX,pairsOf->lC,pendingOf->lV,oneType'->lZ,wpS_modify->mv,wpS_get->mG,getElem?_mirror_all->mH,envOfC->mN,sortedHeap->mO,reverseSlice'->mQ,gallopOf->mT,AllBare->mX,pairsOf_size->nh,get?_update_seq->nZ,entry_list_sort->oa,subscriptTail_builtinR->om,slot_list_sort->Y2,args_list_sort->Y5,entry_proto_collect'->Zb,keyKind'->Zd,subscriptTail->Zg,listUpdate_at->Zh,plain_sorted->Zk,keyKind_ints->Zm,entry_sorted->Zn,args_sorted1->Zo,seqEpoch_at->Zv,kind_sorted->Zw
noncomputable section
open Array renaming mem_of_getElem?->aQq
local macro_rules|`(tactic|trivial)=>`(tactic|first|exact Or.inl rfl|exact jj rfl|exact jj (Or.inl rfl)|exact jj (jj rfl)|exact⟨rfl,rfl,rfl,by decide +kernel,rfl,by decide +kernel,by decide +kernel⟩|fail)
theorem pe{c:Prop}{_:Decidable c}(h:c){α}{t e:α}:ite c t e=t:=if_pos h
theorem pD{c:Prop}{_:Decidable c}(h:¬c){α}{t e:α}:ite c t e=e:=if_neg h
namespace L2
open PySem PySem.Spec PyProof.Rows
abbrev oS:=Sum Int Str
def DR:oS->Value->Bool
 | .inl k,v=>jU k v
 | .inr x,v=>jJ x v
def XO(w:kr):oS->Int
 | .inl k=>hashInt k
 | .inr x=>hashStr w x
theorem qK:∀{k:oS}{v:Value},DR k v=true->(∃i t,k=aG i/\v=fK i t)∨(∃x t,k=gN x/\v=jK x t)
 | .inl i,v,h=>by
  obtain⟨t,e⟩:=Value.isInt_shape (k:=i) (v:=v) h;exact .inl ⟨i,t,rfl,e⟩
 | .inr x,v,h=>by
  obtain⟨t,e⟩:=Value.isStrOf_shape (x:=x) (v:=v) h;exact .inr ⟨x,t,rfl,e⟩
theorem BF(i:Int) (t:Tok):DR (.inl i) (.int i t)=true:=by simp[DR,jU]
theorem Lc(x:Str) (t:Tok):DR (.inr x) (.str x t)=true:=by simp[DR,jJ]
theorem Tu(a b:Int):decide ((aG a:oS)=aG b)=(a == b):=by
 by_cases e:a=b
 .subst e;simp
 .have h:¬ (aG a:oS)=aG b:=λq=>e (aG.inj q)
  rw[decide_eq_false h];exact(beq_eq_false_iff_ne.mpr e).symm
theorem T6(a b:Str):decide ((gN a:oS)=gN b)=decide (a=b):=by
 by_cases e:a=b
 .subst e;simp
 .have h:¬ (gN a:oS)=gN b:=λq=>e (gN.inj q)
  rw[decide_eq_false h,decide_eq_false e]
theorem TM(a:Int) (b:Str):decide ((aG a:oS)=gN b)=false:=decide_eq_false (λq=>nomatch q)
theorem Sx(a:Str) (b:Int):decide ((gN a:oS)=aG b)=false:=decide_eq_false (λq=>nomatch q)
def qA(prog:kq) (w:kr):PySem.KeyKind prog w oS where
 is:=DR
 hash:=XO w
 inj:=λv a b ha hb=>by
  rcases qK ha with ⟨i,t,rfl,rfl⟩|⟨x,t,rfl,rfl⟩
  .rcases qK hb with ⟨j,u,rfl,e⟩|⟨y,u,rfl,e⟩
   .injection e with e1 _;rw[e1]
   .exact nomatch e
  .rcases qK hb with ⟨j,u,rfl,e⟩|⟨y,u,rfl,e⟩
   .exact nomatch e
   .injection e with e1 _;rw[e1]
 byValue:=λk v h=>by
  rcases qK h with ⟨i,t,rfl,rfl⟩|⟨x,t,rfl,rfl⟩ <;> rfl
 pyHash:=λhv h=>by
  rcases qK hv with ⟨i,t,rfl,rfl⟩|⟨x,t,rfl,rfl⟩
  .exact wpAny_pyHash_int h
  .exact wpAny_pyHash_str h
 eqBool:=λhu hv h=>by
  rcases qK hu with ⟨i,t,rfl,rfl⟩|⟨x,t,rfl,rfl⟩
  .rcases qK hv with ⟨j,u,rfl,rfl⟩|⟨y,u,rfl,rfl⟩
   .rw [Tu]at h;exact wpAny_eqBool_int h
   .rw [TM]at h;exact SeqAt.EqAt.int_str i t y u _ _ _ _ h
  .rcases qK hv with ⟨j,u,rfl,rfl⟩|⟨y,u,rfl,rfl⟩
   .rw [Sx]at h;exact SeqAt.EqAt.str_int x t j u _ _ _ _ h
   .rw [T6]at h;exact wpAny_eqBool_str h
 «strs»:=λk x t v h=>by
  rcases qK h with ⟨i,u,rfl,e⟩|⟨y,u,rfl,e⟩
  .exact nomatch e
  .injection e with e1 _
   subst e1;cases v <;> rfl
theorem Hy(prog:kq) (w:kr) (i:Int) (t:Tok):(qA prog w).is (.inl i) (.int i t)=true:=BF i t
theorem Hq(prog:kq) (w:kr) (x:Str) (t:Tok):(qA prog w).is (.inr x) (.str x t)=true:=Lc x t
inductive V where
 |non|bl (b:Bool)|int (i:Int)|str (x:Str)|byt (b:Array UInt8)|flt (b:UInt64)|ref (a:Addr)|ty (n:String)
 deriving DecidableEq
def qc:V->Value->Prop
 | .non,u=>u=fP
 | .bl b,u=>u=jW b
 | .int i,u=>∃t,u=fK i t
 | .str x,u=>∃t,u=jK x t
 | .byt b,u=>∃t,u=Value.bytes b t
 | .flt b,u=>∃t,u=Value.float b t
 | .ref a,u=>u=bH a
 | .ty n,u=>u=dG n
abbrev pO:List V->List Value->Prop:=Paired qc
theorem pO.length{xs:List V}{us:List Value}(r:pO xs us):xs.length=us.length:=Paired.length r
theorem pO.get:∀{xs:List V}{us:List Value}{i:Nat}{x:V},pO xs us->xs[i]?=some x->∃u,us[i]?=some u/\qc x u
 |_,_,_,_,.nil,e=>by simp at e
 |_,_,0,_,.cons r _,e=>by simp at e;subst e;exact⟨_,rfl,r⟩
 |_,_,i+1,x,.cons _ t,e=>by
  obtain⟨u,h1,h2⟩:=pO.get (i:=i) (x:=x) t (by simpa using e)
  exact⟨u,by simpa using h1,h2⟩
theorem pO.set{x:V}{u:Value}(r:qc x u):∀{xs:List V}{us:List Value}(i:Nat),pO xs us->pO (xs.set i x) (us.set i u)
 |_,_,_,.nil=>.nil
 |_,_,0,.cons _ t=>.cons r t
 |_,_,i+1,.cons q t=>.cons q (pO.set r i t)
theorem pO.append:∀{xs ys:List V}{us ws:List Value},pO xs us->pO ys ws->pO (xs++ys) (us++ws)
 |_,_,_,_,.nil,s=>s
 |_,_,_,_,.cons r t,s=>.cons r (pO.append t s)
theorem pO.take:∀{xs:List V}{us:List Value}(n:Nat),pO xs us->pO (xs.take n) (us.take n)
 |_,_,0,_=>.nil
 |_,_,_+1,.nil=>.nil
 |_,_,n+1,.cons r t=>.cons r (pO.take n t)
theorem pO.drop:∀{xs:List V}{us:List Value}(n:Nat),pO xs us->pO (xs.drop n) (us.drop n)
 |_,_,0,r=>r
 |_,_,_+1,.nil=>.nil
 |_,_,n+1,.cons _ t=>pO.drop n t
def AA:Option V->Option Value->Prop
 |some v,some u=>qc v u
 |none,none=>True
 |_,_=>False
def KV{κ:Type}:List (κ×V)->List (κ×Value)->Prop:=Paired λ(p:κ×V) (q:κ×Value)=>p.1=q.1/\qc p.2 q.2
def kV:oS->V
 | .inl i=>.int i
 | .inr x=>.str x
inductive HO where
 /-- a list -/
 |lst (xs:List V)
 /-- a tuple (never changes) -/
 |tup (xs:List V)
 /-- a dict whose keys are ints and texts;one whose keys are tuples of ints and texts (the empty one is both) -/
 |dK (kvs:List (oS×V))|dT (kvs:List (List oS×V))
 /-- a set of ints: its members,its size -/
 |set (S:Int->Bool) (n:Nat)
 /-- an instance of the class at C,its dict at dx,its attributes -/
 |ins (C dx:Addr) (fs:List (Str×V))
 /-- the dict of the instance at x -/
 |own (x:Addr)
 /-- the dict of an exception -/
 |xd (fs:List (Str×V))
 /-- a bound method,f of x -/
 |met (f x:Addr)
 /-- a range object lo,lo+1,.. below hi -/
 |rng (lo hi:Int)
 /-- a thing that is known to the object (the script;a dict while a loop walks it): read,never written while it is so -/
 |frz (o:Obj) (u:HO)
 /-- a code object's table -/
 |tbl (ps:Array Value)
 /-- any other thing,by what is true of its one object (a def of one's own: SetO a S n:=HO.ext λh=>..) -/
 |ext (φ:Heap->Prop)
abbrev Hp:=Addr->Option HO
def qH(H:Hp) (a:Addr) (o:HO):Hp:=λb=>if b=a then some o else H b
theorem oW{H:Hp}{a:Addr}{o:HO}:qH H a o a=some o:=by unfold qH;rw[pe rfl]
theorem oQ{H:Hp}{a b:Addr}{o:HO}(h:b≠a):qH H a o b=H b:=by unfold qH;rw[pD h]
theorem VG{H:Hp}{a b:Addr}{o u:HO}(h:H a=some o) (h':H b=some u) (d:o≠u):a≠b:=by
 intro e;subst e;rw[h]at h';exact d (aJ.inj h')
theorem rq{H:Hp}{a b:Addr}{o:HO}(h:H a=some o) (h':H b=none):a≠b:=by
 intro e;subst e;rw[h]at h';cases h'
section
variable (P:kq) (w:kr)
def qW(H:Hp) (h:Heap) (a:Addr):HO->Prop
 | .lst xs=>xs.length<=ko/\∃(its:List Value) (n:Nat),pO xs its/\h.get? a=some { cls:=.type "list", data:=.seq its.toArray n }
 | .tup xs=>xs.length<=ko/\∃its:List Value,pO xs its/\IsTup h a its.toArray
 | .dK kvs=>kvs.length<=ko/\(a == kY)=false/\∃vs,KV kvs vs/\h.DictOf (qA P w) a vs
 | .dT kvs=>kvs.length<=ko/\(a == kY)=false/\∃xs:List (List oS×Addr×Value),
   Paired (λ(p:List oS×V) (q:List oS×Addr×Value)=>p.1=q.1/\H q.2.1=some (.tup (p.1.map kV))/\qc p.2 q.2.2) kvs xs /\
   ∃o es ep,h.get? a=some o/\o.ExactDict/\o.data = .dict es ep/\es.toList=xs.map (entryOfKey (og (qA P w)))/\(xs.map (·.1)).Nodup
 | .set S n=>h.SetOf (lK P w) a S n
 | .ins C dx fs=>H dx=some (.own a)/\fs.length<=1000/\dx≠a/\h.get? a=some (W.instObj C dx) /\
   ∃mA,h.Ns1 dx mA/\(∀f,AA (fs.lookup f) (mA f))/\PySem.Within mA (fs.map (·.1))
 | .own _=>∃o,h.get? a=some o
 | .xd fs=>∃mA,h.Ns1 a mA/\∀f,AA (fs.lookup f) (mA f)
 | .rng lo hi=>∃t u v,h.get? a=some { cls:=.type "range", data:=.fields #[.int lo t,.int hi u,.int 1 v] }
 | .frz o u=>h.get? a=some o/\qW H h a u
 | .tbl ps=>h.get? a=some { cls:=.none,data:=.fields ps }
 | .met f x=>h.get? a=some (W.methodObj (.ref f) (.ref x))
 | .ext φ=>φ h/\(∃o,h.get? a=some o)/\∀h1 h2:Heap,φ h1->(∀o,h1.get? a=some o->h2.get? a=some o)->φ h2
def Aw(H:Hp) (h:Heap):Prop:=∀a o,H a=some o->qW P w H h a o
end
section
variable {P:kq}{w:kr}{H H':Hp}{h h':Heap}{a:Addr}{o:HO}
theorem qW.lt(x:qW P w H h a o):a<h.objs.size:=by
 cases o with
 |lst xs=>obtain⟨_,_,_,_,e⟩:=x;exact ak e
 |tup xs=>obtain⟨_,_,_,p⟩:=x;exact p.lt
 |dK kvs=>obtain⟨_,_,_,_,o,_,_,e,_⟩:=x;exact ak e
 |dT kvs=>obtain⟨_,_,_,_,o,_,_,e,_⟩:=x;exact ak e
 |set S n=>obtain⟨o,_,_,_,e,_⟩:=x;exact ak e
 |ins C dx fs=>obtain⟨_,_,_,e,_⟩:=x;exact ak e
 |own y=>obtain⟨_,e⟩:=x;exact ak e
 |xd fs=>obtain⟨_,⟨_,_,_,e,_⟩,_⟩:=x;exact ak e
 |rng lo hi=>obtain⟨_,_,_,e⟩:=x;exact ak e
 |frz ob u=>obtain⟨e,_⟩:=x;exact ak e
 |tbl ps=>exact ak (show h.get? a=some _ from x)
 |met f y=>exact ak (show h.get? a=some _ from x)
 |ext φ=>obtain⟨_,⟨_,e⟩,_⟩:=x;exact ak e
theorem Paired.mapP{α β:Type}{F G:α->β->Prop}:∀{l₁:List α}{l₂:List β},Paired F l₁ l₂->(∀a b,F a b->G a b)->Paired G l₁ l₂
 |_,_,.nil,_=>.nil
 |_,_,.cons r t,f=>.cons (f _ _ r) (Paired.mapP t f)
theorem qW.stay(x:qW P w H h a o) (k:∀b u,(b=a∨H b=some (.own a))->h.get? b=some u->h'.get? b=some u)
  (ho:∀b,H b=some (.own a)->H' b=some (.own a)) (ht:∀b xs,H b=some (.tup xs)->H' b=some (.tup xs)):qW P w H' h' a o:=by
 induction o with
 |lst xs=>obtain⟨z,its,n,r,e⟩:=x;exact⟨z,its,n,r,k _ _ (.inl rfl) e⟩
 |tup xs=>obtain⟨z,its,r,ob,e,c⟩:=x;exact⟨z,its,r,ob,k _ _ (.inl rfl) e,c⟩
 |dK kvs=>obtain⟨z,y,vs,r,ob,es,ep,e,c⟩:=x;exact⟨z,y,vs,r,ob,es,ep,k _ _ (.inl rfl) e,c⟩
 |dT kvs =>
  obtain⟨z,y,xs,r,ob,es,ep,e,c⟩:=x;exact⟨z,y,xs,Paired.mapP r λp q z=>⟨z.1,ht _ _ z.2.1,z.2.2⟩,ob,es,ep,k _ _ (.inl rfl) e,c⟩
 |set S n=>obtain⟨ob,es,ep,t,e,c⟩:=x;exact⟨ob,es,ep,t,k _ _ (.inl rfl) e,c⟩
 |ins C dx fs =>
  obtain⟨d,z,ne,e,mA,⟨od,es,ep,e2,c⟩,r⟩:=x;exact⟨ho _ d,z,ne,k _ _ (.inl rfl) e,mA,⟨od,es,ep,k _ _ (.inr d) e2,c⟩,r⟩
 |own y=>obtain⟨ob,e⟩:=x;exact⟨ob,k _ _ (.inl rfl) e⟩
 |xd fs=>obtain⟨mA,⟨od,es,ep,e,c⟩,r⟩:=x;exact⟨mA,⟨od,es,ep,k _ _ (.inl rfl) e,c⟩,r⟩
 |rng lo hi=>obtain⟨t,u,v,e⟩:=x;exact⟨t,u,v,k _ _ (.inl rfl) e⟩
 |frz ob u ih=>obtain⟨e,q⟩:=x;exact⟨k _ _ (.inl rfl) e,ih q⟩
 |tbl ps =>
  have e:h.get? a=some { cls:=.none,data:=.fields ps }:=x;show h'.get? a=some { cls:=.none,data:=.fields ps };exact k a _ (.inl rfl) e
 |met f y =>
  have e:h.get? a=some (W.methodObj (.ref f) (.ref y)):=x;show h'.get? a=some (W.methodObj (.ref f) (.ref y));exact k a _ (.inl rfl) e
 |ext φ=>obtain⟨p,⟨o,e⟩,st⟩:=x;exact⟨st _ _ p λo q=>k _ _ (.inl rfl) q,⟨o,k _ _ (.inl rfl) e⟩,st⟩
theorem Aw.lt(x:Aw P w H h) (e:H a=some o):a<h.objs.size:=(x a o e).lt
theorem Aw.fresh(x:Aw P w H h) (e:h.objs.size<=a):H a=none:=by
 cases q:H a with
 |none=>rfl
 |some u=>exact absurd (aN (x.lt q) e) (eE _)
theorem Aw.kept(x:Aw P w H h) (k:∀b u,h.get? b=some u->h'.get? b=some u):Aw P w H h':=λa o e =>
 (x a o e).stay (λb u _ q=>k b u q) (λ_ q=>q) λ_ _ q=>q
theorem Aw.laid(x:Aw P w H h) (k:∀b u,h.get? b=some u->h'.get? b=some u) (hp:h.objs.size<=a) (new:qW P w (qH H a o) h' a o):Aw P w (qH H a o) h':=λb u e=>by
 have hn:=x.fresh hp
 by_cases hb:b=a
 .subst hb;rw[oW]at e;cases e;exact new
 .rw [oQ hb]at e;exact(x b u e).stay (λc v _ q=>k c v q) (λc q=>by rw[oQ (rq q hn)];exact q) λc xs q=>by rw[oQ (rq q hn)];exact q
end
def Rd(H:Hp) (a:Addr) (u:HO):Prop:=H a=some u∨∃o,H a=some (.frz o u)
theorem Rd.ok{P:kq}{w:kr}{H:Hp}{h:Heap}{a:Addr}{u:HO}(r:Rd H a u) (x:Aw P w H h):qW P w H h a u:=by
 rcases r with r|⟨o,r⟩
 .exact x a u r
 .obtain ⟨_,q⟩:=x a _ r;exact q
def WD:Option HO->Prop
 |some (.lst _)=>True
 |some (.dK _)=>True
 |some (.dT _)=>True
 |some (.set _ _)=>True
 |some (.ins _ _ _)=>True
 |some (.ext _)=>True
 |_=>False
section
variable {P:kq}{w:kr}{H:Hp}{h h':Heap}{x e:Addr}{o':HO}
theorem Aw.write(ok:Aw P w H h) (mu:WD (H x)) (he:e=x∨H e=some (.own x)) (k:∀b u,b≠e->h.get? b=some u->h'.get? b=some u) (heo:∃u,h'.get? e=some u)
  (new:qW P w (qH H x o') h' x o'):Aw P w (qH H x o') h':=λb u q=>by
 have nown:∀c y,H c=some (.own y)->c≠x:=λc y r z=>by subst z;rw[r]at mu;exact mu
 have ntup:∀c xs,H c=some (.tup xs)->c≠x:=λc xs r z=>by subst z;rw[r]at mu;exact mu
 by_cases hb:b=x
 .subst hb;rw[oW]at q;cases q;exact new
 .rw [oQ hb]at q
  by_cases hbe:b=e
  .have q':H b=some (.own x):=by
    rcases he with z|z
    .exact absurd (hbe.trans z) hb
    .rw [hbe];exact z
   rw[q]at q';cases q';obtain⟨v,hv⟩:=heo;exact⟨v,by rw[hbe];exact hv⟩
  .refine (ok b u q).stay (λc v hc r=>k c v ?_ r) (λc r=>by rw[oQ (nown c b r)];exact r) λc xs r=>by rw[oQ (ntup c xs r)];exact r
   rcases hc with rfl|hc
   .exact hbe
   .rintro rfl;rcases he with z|z
    .exact nown c b hc z
    .rw [hc]at z;cases z;exact hb rfl
end
structure Un (fs ex:List Addr) (H H':Hp) (h h':Heap):Prop where
 keep:∀b o,h.get? b=some o->H b=none->b∉fs->b∉ex->h'.get? b=some o
 slot:∀b o,h.get? b=some o->H b=none->b∈fs->b∉ex->∃sl,h'.get? b=some { o with slots:=sl }
 free:∀b o,h.get? b=some o->H b=none->b∉ex->H' b=none
 there:∀b o,h.get? b=some o->b∉ex->∃o',h'.get? b=some o'
 tups:∀b xs,H b=some (.tup xs)->H' b=some (.tup xs)
 frzs:∀b o u,H b=some (.frz o u)->H' b=some (.frz o u)
 tbls:∀b ps,H b=some (.tbl ps)->∃more,H' b=some (.tbl (ps++more))
section
variable {fs fs' ex ex':List Addr}{H H1 H2:Hp}{h h1 h2 h':Heap}{a x e:Addr}{o:HO}
theorem Un.any(u:Un fs ex H H1 h h1) {b:Addr}{ob:Obj}(q:h.get? b=some ob) (n:H b=none) (hx:b∉ex):∃sl,h1.get? b=some { ob with slots:=sl }:=by
 by_cases hb:b∈fs
 .exact u.slot b ob q n hb hx
 .exact ⟨ob.slots,u.keep b ob q n hb hx⟩
theorem Un.kept(k:∀b u,h.get? b=some u->h'.get? b=some u):Un fs ex H H h h' :=
 ⟨λb ob q _ _ _=>k b ob q,λb ob q _ _ _=>⟨ob.slots,k b ob q⟩,λ_ _ _ n _=>n,λb ob q _=>⟨ob,k b ob q⟩,λ_ _ q=>q,λ_ _ _ q=>q,λ_ ps q=>⟨#[],by rw[q];simp⟩⟩
theorem Un.refl:Un fs ex H H h h:=Un.kept λ_ _ q=>q
theorem Un.laid(k:∀b u,h.get? b=some u->h'.get? b=some u) (hp:h.objs.size<=a) (hn:H a=none):Un fs ex H (qH H a o) h h' where
 keep:=λb u q _ _ _=>k b u q
 slot:=λb u q _ _ _=>⟨u.slots,k b u q⟩
 free:=λb u q n _=>by rw[oQ (ay (aN (ak q) hp))];exact n
 there:=λb u q _=>⟨u,k b u q⟩
 tups:=λb xs q=>by rw[oQ (rq q hn)];exact q
 frzs:=λb u xs q=>by rw[oQ (rq q hn)];exact q
 tbls:=λb ps q=>⟨#[],by rw[oQ (rq q hn),q];simp⟩
theorem Un.write(mu:WD (H x)) (he:e=x∨H e=some (.own x)) (k:∀b u,b≠e->h.get? b=some u->h'.get? b=some u) (heo:∃u,h'.get? e=some u):Un fs ex H (qH H x o) h h':=by
 have hx:∀b,H b=none->b≠x:=λb n z=>by subst z;rw[n]at mu;exact mu
 have hb:∀b,H b=none->b≠e:=λb n z=>by
  subst z;rcases he with r|r
  .exact hx b n r
  .rw [n]at r;cases r
 have hm:∀b u,H b=some u->¬ WD (some u)->b≠x:=λb u q nm z=>by subst z;rw[q]at mu;exact nm mu
 refine⟨λb u q n _ _=>k b u (hb b n) q,λb u q n _ _=>⟨u.slots,k b u (hb b n) q⟩,λb u q n _=>by rw[oQ (hx b n)];exact n,λb u q _=>?_,
  λb xs q=>by rw[oQ (hm b _ q λz=>z)];exact q,λb u xs q=>by rw[oQ (hm b _ q λz=>z)];exact q,λb ps q=>⟨#[],by rw[oQ (hm b _ q λz=>z),q];simp⟩⟩
 by_cases hbe:b=e
 .subst hbe;exact heo
 .exact ⟨u,k b u hbe q⟩
end
def WI(h:Heap) (H:Hp):List Addr:=(bq h.objs.size).filter λa=>(H a).isSome
def Fk(h:Heap) (H:Hp):Heap:=W.hideAll h (WI h H)
theorem Kv(h:Heap) (H:Hp):(Fk h H).objs.size=h.objs.size:=W.hideAll_size _ _
theorem Nj{h:Heap}{H:Hp}{b:Addr}{o:Obj}(e:h.get? b=some o) (n:H b=none):(Fk h H).get? b=some o :=
 W.hideAll_get _ e λhm=>by
  have q:(H b).isSome=true:=(aw.mp hm).2;rw[n]at q;simp at q
theorem QX{h:Heap}{H:Hp}{b:Addr}{o:Obj}(e:(Fk h H).get? b=some o):h.get? b=some o/\H b=none:=by
 have e':h.get? b=some o:=W.of_hideAll (WI h H) e;refine⟨e',?_⟩;cases q:H b with
 |none=>rfl
 |some x =>
  have hm:b∈WI h H:=aw.mpr ⟨cC.mpr (ak e'),by simp[q]⟩
  have z:(Fk h H).get? b=none:=W.hideAll_none (WI h H) hm;rw[z]at e;cases e
def Rx(g h:Heap) (L:Addr):List (Addr×Obj):=(bq h.objs.size).filterMap λa=>if a=L∨(g.get? a).isSome=true then none else (h.get? a).map λo=>(a,o)
def uJ(g h:Heap) (L d:Addr):List (Addr×Obj):=(Rx g h L).filter λp=>decide (p.1≠d)
structure Mod (K:W.Frag) (mg:Str->Option Value) (base:Heap):Prop where
 kin:K.In base
 glob:base.Ns ku mg
 blt:∃mb,base.Ns builtinsNs mb/\∀x:Str,x ≠ "__name__" -> mb x=mL x
 nolimit:base.NoLimit
structure Cx where
 prog:kq
 w:kr
 K:W.Frag
 mg:Str->Option Value
 base:Heap
 A:Around
 N:List Str
 s₀:Shared
 H₀:Hp
 env:Env
 outer:List Env
 stack:List Env
 ex:List Addr
 fn:Str->Bool
 calm:Bool
 pn:List (Addr×Obj)
 xe:Value->Shared->Prop
def OZ(l:List Env):List Addr:=l.filterMap (·.frame)
abbrev Cx.fs(X:Cx):List Addr:=OZ X.outer
def W3(sc:mD) (x:Str):Prop:=sc.names.lookup x=some .local∨sc.names.lookup x=some .cell∨sc.names.lookup x=some .free
def SV(sc:mD) (x:Str):Prop:=sc.names.lookup x=some .local∨sc.names.lookup x=some .cell
def XJ(env:Env) (h:Heap) (m:Str->Option Value) (x:Str) (u:Value):Prop :=
 (env.kindOf x=some .local/\m x=some u)∨((env.kindOf x=some .cell∨env.kindOf x=some .free)/\∃c,env.cells.lookup x=some c/\h.IsCell c (some u))
structure Cx.Ok (X:Cx):Prop where
 mod:Mod X.K X.mg X.base
 kind:X.env.scope.kind = .function
 glob:X.env.globals=ku
 blt:X.env.builtins=builtinsNs
 above:X.s₀.heap.objs.size<=X.env.locals
 inj:∀x y c,X.env.cells.lookup x=some c->X.env.cells.lookup y=some c->x=y
 has:∀x,(X.env.kindOf x=some .cell∨X.env.kindOf x=some .free)->∃c,X.env.cells.lookup x=some c
 cab:∀x c,X.fn x=true->X.env.cells.lookup x=some c->X.s₀.heap.objs.size<=c
 hd:X.calm=true->X.A.handled=none
 frames:X.A.frames=some X.stack
 stk:X.stack=X.outer∨(X.stack=X.env::X.outer/\X.env.frame=some X.env.locals)
 exf:∀b∈X.ex,b≠X.env.locals/\∀x c,X.env.cells.lookup x=some c->c≠b
 bs:∀b o,X.base.get? b=some o->X.s₀.heap.get? b=some o/\X.H₀ b=none
 bsz:X.base.objs.size<=X.s₀.heap.objs.size
 noex:∀b o,X.base.get? b=some o->b∉X.ex
 exfs:∀b∈X.ex,b∉X.fs
 funs:X.s₀.heap.FunFrames X.base X.outer
 frf:∀b∈X.fs,X.H₀ b=none
structure Inv (X:Cx) (oq:List (Addr×Obj)) (σ:List (Option V)) (H:Hp) (s:Shared):Prop where
 ok:X.Ok
 os:s.os=X.s₀.os
 bare:mX s.gens
 base:Un X.fs X.ex X.H₀ H X.s₀.heap s.heap
 loc:∃m,s.heap.Ns X.env.locals m/\∀(i:Nat) (x:Str) (v:V),X.N[i]?=some x->σ[i]?=some (some v)->W3 X.env.scope x->∃u,qc v u/\XJ X.env s.heap m x u
 cell:∀x c,X.env.cells.lookup x=some c->∃v,s.heap.IsCell c v
 free:H X.env.locals=none
 freeC:∀x c,X.env.cells.lookup x=some c->H c=none
 pin:∀p∈X.pn++oq,s.heap.get? p.1=some p.2/\H p.1=none/\p.1≠X.env.locals/\p.1∉X.fs/\∀v,p.2.data ≠ .cell v
 hok:Aw X.prog X.w H s.heap
 len:σ.length=X.N.length
section
variable {X:Cx}{oq:List (Addr×Obj)}{σ:List (Option V)}{H H':Hp}{s:Shared}{h':Heap}
theorem Cx.Ok.nofr(ok:X.Ok) {b:Addr}{o:Obj}(e:X.base.get? b=some o):b∉X.fs:=λhb=>by
 have:=(ok.funs.mem hb).1;rw[e]at this;cases this
theorem Inv.bs(I:Inv X oq σ H s):∀b o,X.base.get? b=some o->s.heap.get? b=some o/\H b=none:=λb o e =>
 ⟨I.base.keep b o (I.ok.bs b o e).1 (I.ok.bs b o e).2 (I.ok.nofr e) (I.ok.noex b o e),I.base.free b o (I.ok.bs b o e).1 (I.ok.bs b o e).2 (I.ok.noex b o e)⟩
theorem Inv.bk(I:Inv X oq σ H s):∀b o,X.base.get? b=some o->s.heap.get? b=some o:=λb o e=>(I.bs b o e).1
theorem Inv.mod(I:Inv X oq σ H s):Mod X.K X.mg X.base:=I.ok.mod
theorem Inv.kIn(I:Inv X oq σ H s):X.K.In s.heap:=I.ok.mod.kin.keeps I.bk
theorem Inv.lt(I:Inv X oq σ H s):X.env.locals<s.heap.objs.size:=let ⟨_,hn,_⟩:=I.loc;hn.lt
theorem Inv.sz(I:Inv X oq σ H s):X.s₀.heap.objs.size<=s.heap.objs.size:=bQ I.ok.above (bA I.lt)
theorem Inv.nofs(I:Inv X oq σ H s) {a:Addr}(h:s.heap.objs.size<=a):a∉X.fs:=λhb=>by
 obtain⟨_,o,ho,_⟩:=I.ok.funs.mem hb;exact absurd (aN (ak ho) (bQ I.sz h)) (eE _)
theorem Inv.cne(I:Inv X oq σ H s):∀x c,X.env.cells.lookup x=some c->c≠X.env.locals:=λx c e z=>by
 obtain⟨v,o,ho,hd⟩:=I.cell x c e;obtain⟨m,⟨o',es,ep,ho',hd',_⟩,_⟩:=I.loc;rw[z,ho']at ho;cases ho;rw[hd']at hd;cases hd
theorem Inv.funs(I:Inv X oq σ H s):s.heap.FunFrames X.base X.outer:=by
 have all:∀(l:List Env),(∀b∈OZ l,b∈X.fs)->X.s₀.heap.FunFrames X.base l->s.heap.FunFrames X.base l:=by
  intro l
  induction l with
  |nil=>intro _ _;trivial
  |cons env r ih =>
   intro hs hl;obtain⟨hk,⟨L,o,hf,hn,ho,hd⟩,hr⟩:=hl;have hL:L∈X.fs:=hs L (by unfold OZ;rw[gC,hf];exact aj)
   obtain⟨sl,e⟩:=I.base.slot L o ho (I.ok.frf L hL) hL λz=>I.ok.exfs L z hL
   exact⟨hk,⟨L,_,hf,hn,e,hd⟩,ih (λb hb=>hs b (by unfold OZ;rw[gC,hf];exact mCo _ hb)) hr⟩
 exact all X.outer (λ_ hb=>hb) I.ok.funs
theorem Inv.stack(I:Inv X oq σ H s):s.heap.FunFrames X.base X.stack:=by
 rcases I.ok.stk with e|⟨e,hf⟩
 .rw [e];exact I.funs
 .rw [e];obtain⟨m,hn,_⟩:=I.loc;refine .cons (by rw[I.ok.kind];decide) hf hn ?_ I.funs
  exact Heap.get?_none_of_le (bQ I.ok.bsz I.ok.above)
theorem Inv.stkSub(I:Inv X oq σ H s):∀b∈OZ X.stack,b∈X.env.locals::X.fs:=λb hb=>by
 rcases I.ok.stk with e|⟨e,hf⟩
 .rw [e]at hb;exact mCo _ hb
 .rw [e]at hb;unfold OZ at hb;rw[gC,hf]at hb;exact hb
theorem Inv.stkFree(I:Inv X oq σ H s):∀b∈OZ X.stack,H b=none:=λb hb=>by
 rcases ag.mp (I.stkSub b hb) with e|hb
 .rw [e];exact I.free
 .obtain ⟨_,o,ho,_⟩:=I.ok.funs.mem hb;exact I.base.free b o ho (I.ok.frf b hb) λz=>I.ok.exfs b z hb
theorem Inv.step{g':Array GenState}{t':Nat}{d':Drawn}{ch:List Addr}(I:Inv X oq σ H s)
  (hch:∀b∈ch,(b∈X.ex∨X.s₀.heap.objs.size<=b)/\b≠X.env.locals/\(∀x c,X.env.cells.lookup x=some c->c≠b)/\∀p∈X.pn++oq,p.1≠b)
  (keep:∀b o,b≠X.env.locals->b∉X.fs->b∉ch->s.heap.get? b=some o->H b=none->h'.get? b=some o)
  (slot:∀b o,b≠X.env.locals->b∈X.fs->b∉ch->s.heap.get? b=some o->H b=none->∃sl,h'.get? b=some { o with slots:=sl }) (free:∀b o,b∉ch->s.heap.get? b=some o->H b=none->H' b=none)
  (there:∀b o,b∉ch->s.heap.get? b=some o->∃o',h'.get? b=some o')
  (tups:∀b xs,H b=some (.tup xs)->H' b=some (.tup xs)) (frzs:∀b o u,H b=some (.frz o u)->H' b=some (.frz o u)) (tbls:∀b ps,H b=some (.tbl ps)->∃more,H' b=some (.tbl (ps++more)))
  (ns:∀m,s.heap.Ns X.env.locals m->h'.Ns X.env.locals m) (hok:Aw X.prog X.w H' h') (hg:mX g') :
  Inv X oq σ H' { s with heap:=h',gens:=g',drawn:=d',toks:=t' }:=by
 have neL:∀b o,X.s₀.heap.get? b=some o->b≠X.env.locals:=λb o e=>ay (aN (ak e) I.ok.above)
 have neC:∀b o,X.s₀.heap.get? b=some o->b∉X.ex->b∉ch:=λb o e hx hb=>by
  rcases (hch b hb).1 with z|z
  .exact hx z
  .exact absurd (aN (ak e) z) (eE _)
 have cellK:∀x c,X.env.cells.lookup x=some c->∀v,s.heap.IsCell c v->h'.IsCell c v:=λx c e v ⟨o,ho,hd⟩=>by
  have nch:c∉ch:=λz=>(hch c z).2.2.1 x c e rfl
  by_cases hc:c∈X.fs
  .obtain ⟨sl,q⟩:=slot c o (I.cne x c e) hc nch ho (I.freeC x c e);exact⟨_,q,hd⟩
  .exact ⟨o,keep c o (I.cne x c e) hc nch ho (I.freeC x c e),hd⟩
 refine⟨I.ok,I.os,hg,⟨λb o e n hb hx=>?_,λb o e n hb hx=>?_,λb o e n hx=>?_,λb o e hx=>?_,λb xs e=>tups b xs (I.base.tups b xs e),λb o xs e=>frzs b o xs (I.base.frzs b o xs e),λb ps e=>?_⟩,?_,λx c e=>?_,?_,λx c e=>?_,λp hp=>?_,hok,I.len⟩
 .exact keep b o (neL b o e) hb (neC b o e hx) (I.base.keep b o e n hb hx) (I.base.free b o e n hx)
 .obtain ⟨sl,e1⟩:=I.base.slot b o e n hb hx;obtain⟨sl',e2⟩:=slot b _ (neL b o e) hb (neC b o e hx) e1 (I.base.free b o e n hx);exact⟨sl',e2⟩
 .obtain ⟨o',e1⟩:=I.base.there b o e hx;exact free b o' (neC b o e hx) e1 (I.base.free b o e n hx)
 .obtain ⟨o',e1⟩:=I.base.there b o e hx;exact there b o' (neC b o e hx) e1
 .obtain ⟨m1,e1⟩:=I.base.tbls b ps e;obtain⟨m2,e2⟩:=tbls b _ e1;exact⟨m1++m2,by rw[e2,Array.append_assoc]⟩
 .obtain ⟨m,hn,hl⟩:=I.loc;refine⟨m,ns m hn,λi x v e1 e2 e3=>?_⟩
  obtain⟨u,r,l⟩:=hl i x v e1 e2 e3;refine⟨u,r,?_⟩;rcases l with l|⟨k,c,e,z⟩
  .exact .inl l
  .exact .inr ⟨k,c,e,cellK x c e _ z⟩
 .obtain ⟨v,z⟩:=I.cell x c e;exact⟨v,cellK x c e v z⟩
 .obtain ⟨m,⟨o,_,_,ho,_⟩,_⟩:=I.loc;exact free _ o (λz=>(hch _ z).2.1 rfl) ho I.free
 .obtain ⟨v,o,ho,hd⟩:=I.cell x c e;exact free c o (λz=>(hch c z).2.2.1 x c e rfl) ho (I.freeC x c e)
 .obtain ⟨e,n,ne,nf,d⟩:=I.pin p hp;have nch:p.1∉ch:=λz=>(hch p.1 z).2.2.2 p hp rfl
  exact⟨keep p.1 p.2 ne nf nch e n,free p.1 p.2 nch e n,ne,nf,d⟩
theorem Inv.un{t':Nat}(I:Inv X oq σ H s) (u:Un X.fs [] H H' s.heap h') (hok:Aw X.prog X.w H' h'):Inv X oq σ H' { s with heap:=h',toks:=t' }:=by
 obtain⟨m,⟨o,es,ep,ho,r⟩,_⟩:=id I.loc;obtain⟨sl,hL⟩:=u.any ho I.free (by simp)
 exact I.step (g':=s.gens) (d':=s.drawn) (ch:=[]) (λ_ z=>nomatch z) (λb o _ hb _ e n=>u.keep b o e n hb (by simp)) (λb o _ hb _ e n=>u.slot b o e n hb (by simp)) (λb o _ e n=>u.free b o e n (by simp)) (λb o _ e=>u.there b o e (by simp)) u.tups u.frzs u.tbls (λm' hm=>by
  obtain⟨o',es',ep',ho',r'⟩:=hm;rw[ho]at ho';cases ho';exact⟨_,es',ep',hL,r'⟩) hok I.bare
theorem Inv.call{g':Array GenState}{t':Nat}{d':Drawn}{ch:List Addr}(I:Inv X oq σ H s) (u:Un (OZ X.stack) ch H H' s.heap h') (hok:Aw X.prog X.w H' h') (hg:mX g')
  (hch:∀b∈ch,(b∈X.ex∨X.s₀.heap.objs.size<=b)/\b≠X.env.locals/\(∀x c,X.env.cells.lookup x=some c->c≠b)/\∀p∈X.pn++oq,p.1≠b) :
  Inv X oq σ H' { s with heap:=h',gens:=g',drawn:=d',toks:=t' }:=by
 obtain⟨m,⟨o,es,ep,ho,r⟩,_⟩:=id I.loc;obtain⟨sl,hL⟩:=u.any ho I.free λz=>(hch _ z).2.1 rfl
 exact I.step (ch:=ch) hch (λb o hL hb hc e n=>u.keep b o e n (λz=>(ag.mp (I.stkSub b z)).elim hL hb) hc) (λb o _ _ hc e n=>u.any e n hc) (λb o hc e n=>u.free b o e n hc) (λb o hc e=>u.there b o e hc) u.tups u.frzs u.tbls (λm' hm=>by
  obtain⟨o',es',ep',ho',r'⟩:=hm;rw[ho]at ho';cases ho';exact⟨_,es',ep',hL,r'⟩) hok hg
theorem Inv.turned{t':Nat}{it:Addr}(I:Inv X oq σ H s) (k:∀b o,b≠it->s.heap.get? b=some o->h'.get? b=some o) (hn:H it=none) (hL:it≠X.env.locals)
  (h1:it∈X.ex∨X.s₀.heap.objs.size<=it) (h2:∀x c,X.env.cells.lookup x=some c->c≠it) (h3:∀p∈X.pn++oq,p.1≠it):Inv X oq σ H { s with heap:=h',toks:=t' }:=by
 have nit:∀b u,H b=some u->b≠it:=λb u e z=>by rw[z,hn]at e;cases e
 refine I.step (g':=s.gens) (d':=s.drawn) (ch:=[it]) (λb hb=>?_) (λb o _ _ hc e _=>k b o (λz=>hc (by simp[z])) e) (λb o _ _ hc e _=>⟨o.slots,k b o (λz=>hc (by simp[z])) e⟩) (λ_ _ _ _ n=>n)
  (λb o hc e=>⟨o,k b o (λz=>hc (by simp[z])) e⟩) (λ_ _ e=>e) (λ_ _ _ e=>e) (λb ps e=>⟨#[],by rw[e];simp⟩) (λm hm=>?_) (λb u e=>?_) I.bare
 .have e:b=it:=by simpa using hb
  subst e;exact⟨h1,hL,h2,h3⟩
 .obtain ⟨o,es,ep,ho,r⟩:=hm;exact⟨o,es,ep,k _ o (Ne.symm hL) ho,r⟩
 .refine (I.hok b u e).stay (λc v hc q=>k c v ?_ q) (λ_ q=>q) λ_ _ q=>q
  rcases hc with z|z
  .rw [z];exact nit b u e
  .exact nit c _ z
theorem Inv.tok(I:Inv X oq σ H s) (t:Nat):Inv X oq σ H { s with toks:=t }:=I.un (h':=s.heap) (t':=t) Un.refl I.hok
theorem Inv.kept{t':Nat}(I:Inv X oq σ H s) (k:∀b u,s.heap.get? b=some u->h'.get? b=some u):Inv X oq σ H { s with heap:=h',toks:=t' }:=I.un (Un.kept k) (I.hok.kept k)
theorem Inv.laid{a:Addr}{o:HO}{t':Nat}(I:Inv X oq σ H s) (k:∀b u,s.heap.get? b=some u->h'.get? b=some u) (hp:s.heap.objs.size<=a) (new:qW X.prog X.w (qH H a o) h' a o) :
  Inv X oq σ (qH H a o) { s with heap:=h',toks:=t' }:=I.un (Un.laid k hp (I.hok.fresh hp)) (I.hok.laid k hp new)
theorem Inv.write{x e:Addr}{o:HO}{t':Nat}(I:Inv X oq σ H s) (mu:WD (H x)) (he:e=x∨H e=some (.own x)) (k:∀b u,b≠e->s.heap.get? b=some u->h'.get? b=some u) (heo:∃u,h'.get? e=some u)
  (new:qW X.prog X.w (qH H x o) h' x o):Inv X oq σ (qH H x o) { s with heap:=h',toks:=t' }:=I.un (Un.write mu he k heo) (I.hok.write mu he k heo new)
theorem Inv.pins_of{pins':List (Addr×Obj)}(I:Inv X oq σ H s) (h:∀p∈pins',s.heap.get? p.1=some p.2/\H p.1=none/\p.1≠X.env.locals/\p.1∉X.fs/\∀v,p.2.data ≠ .cell v):Inv X pins' σ H s :=
 ⟨I.ok,I.os,I.bare,I.base,I.loc,I.cell,I.free,I.freeC,λp hp=>(mAq.mp hp).elim (λz=>I.pin p (az _ z)) (h p),I.hok,I.len⟩
theorem GA{N:List Str}(hN:N.Nodup) {i j:Nat}{x:Str}(a:N[i]?=some x) (b:N[j]?=some x):i=j:=by
 obtain⟨h1,e1⟩:=gSq.mp a;obtain⟨h2,e2⟩:=gSq.mp b;exact(jk hN).mp (e1.trans e2.symm)
theorem LS{M:Model}{A:Around}{E:Value->Shared->Prop}{i:Nat}{x:Str}{v:V}{u:Value}{Q:Unit->Shared->Prop}(I:Inv X oq σ H s) (hN:X.N.Nodup) (hi:X.N[i]?=some x) (hx:SV X.env.scope x) (r:qc v u)
  (h:∀s',Inv X oq (σ.set i (some v)) H s'->(∃a,bL a s.heap s'.heap/\(a=X.env.locals∨X.env.cells.lookup x=some a))->Q () s') (hf:X.fn x=true∨X.env.scope.names.lookup x=some .local:=by trivial):kf M A (storeName X.env x u) Q E s:=by
 obtain⟨m,hn,hl⟩:=id I.loc;have hcls:(X.env.scope.kind == .class || (X.env.scope.kind == .module && X.env.locals != X.env.globals))=false:=by rw[I.ok.kind];rfl
 have hiσ:i<σ.length:=by rw[I.len];exact(gSq.mp hi).1
 have cne:=I.cne;have tracked:∀{a:Addr}{h':Heap},(∃o,s.heap.get? a=some o/\H a=none)->bL a s.heap h'->Aw X.prog X.w H h':=λ{a h'} ha hs b ob e=>by
  obtain⟨_,_,hfree⟩:=ha;refine(I.hok b ob e).stay (λc w' hc q=>(hs.2 c ?_).trans q) (λ_ q=>q) λ_ _ q=>q
  rintro rfl;rcases hc with rfl|hc
  .rw [hfree]at e;cases e
  .rw [hfree]at hc;cases hc
 rcases hx with hk|hk
 .refine wpAny_storeName_local hk hn (λh' hn' hs=>?_) hcls
  obtain⟨oL,_,_,hoL,_⟩:=id hn;refine h _ ⟨I.ok,I.os,I.bare,⟨λb o e n hb hx=>?_,λb o e n hb hx=>?_,I.base.free,λb o e hx=>?_,I.base.tups,I.base.frzs,I.base.tbls⟩,⟨_,hn',λj y v' e1 e2 e3=>?_⟩,λy c e=>?_,I.free,I.freeC,λp hp=>?_,tracked ⟨oL,hoL,I.free⟩ hs,by simpa using I.len⟩ ⟨_,hs,.inl rfl⟩
  .exact (hs.2 b (ay (aN (ak e) I.ok.above))).trans (I.base.keep b o e n hb hx)
  .obtain ⟨sl,e1⟩:=I.base.slot b o e n hb hx;exact⟨sl,(hs.2 b (ay (aN (ak e) I.ok.above))).trans e1⟩
  .obtain ⟨o',e1⟩:=I.base.there b o e hx;exact⟨o',(hs.2 b (ay (aN (ak e) I.ok.above))).trans e1⟩
  .by_cases hj:j=i
   .subst hj;rw[hi]at e1;cases e1;rw[aZ hiσ]at e2;cases e2;exact⟨u,r,.inl ⟨hk,by simp⟩⟩
   .rw [aX (Ne.symm hj)]at e2;obtain⟨u',r',q⟩:=hl j y v' e1 e2 e3;refine⟨u',r',?_⟩;rcases q with ⟨k,e⟩|⟨k,c,e,z⟩
    .refine .inl ⟨k,?_⟩;have:y≠x:=λe=>hj (GA hN e1 (e ▸ hi))
     simp[this,e]
    .exact .inr ⟨k,c,e,z.sameBut hs (cne y c e)⟩
  .obtain ⟨w',z⟩:=I.cell y c e;exact⟨w',z.sameBut hs (cne y c e)⟩
  .obtain ⟨e,n,ne,nf,d⟩:=I.pin p hp;exact⟨(hs.2 p.1 ne).trans e,n,ne,nf,d⟩
 .have hfn:X.fn x=true:=by
   rcases hf with z|z
   .exact z
   .rw [z]at hk;cases hk
  obtain⟨c,hc⟩:=I.ok.has x (.inl hk);obtain⟨w',z⟩:=I.cell x c hc;refine wpAny_storeName_cell I.ok.kind hk hc z (λh' hc' hs=>?_)
  obtain⟨oc,hoc,hocd⟩:=id z;refine h { s with heap:=h' } ⟨I.ok,I.os,I.bare,⟨λb o e n hb hx=>?_,λb o e n hb hx=>?_,I.base.free,λb o e hx=>?_,I.base.tups,I.base.frzs,I.base.tbls⟩,⟨m,hn.sameBut hs (Ne.symm (cne x c hc)),λj y v' e1 e2 e3=>?_⟩,λy c' e=>?_,I.free,I.freeC,λp hp=>?_,tracked ⟨oc,hoc,I.freeC x c hc⟩ hs,by simpa using I.len⟩ ⟨c,hs,.inr hc⟩
  .exact (hs.2 b (ay (aN (ak e) (I.ok.cab x c hfn hc)))).trans (I.base.keep b o e n hb hx)
  .obtain ⟨sl,e1⟩:=I.base.slot b o e n hb hx;exact⟨sl,(hs.2 b (ay (aN (ak e) (I.ok.cab x c hfn hc)))).trans e1⟩
  .obtain ⟨o',e1⟩:=I.base.there b o e hx;exact⟨o',(hs.2 b (ay (aN (ak e) (I.ok.cab x c hfn hc)))).trans e1⟩
  .by_cases hj:j=i
   .subst hj;rw[hi]at e1;cases e1;rw[aZ hiσ]at e2;cases e2;exact⟨u,r,.inr ⟨.inl hk,c,hc,hc'⟩⟩
   .rw [aX (Ne.symm hj)]at e2;obtain⟨u',r',q⟩:=hl j y v' e1 e2 e3;refine⟨u',r',?_⟩;rcases q with q|⟨k,c',e,z'⟩
    .exact .inl q
    .refine .inr ⟨k,c',e,z'.sameBut hs ?_⟩;rintro rfl;exact hj (GA hN e1 (I.ok.inj _ _ _ e hc ▸ hi))
  .by_cases hcc:c'=c
   .subst hcc;exact⟨_,hc'⟩
   .obtain ⟨w2,z2⟩:=I.cell y c' e;exact⟨w2,z2.sameBut hs hcc⟩
  .obtain ⟨e,n,ne,nf,d⟩:=I.pin p hp;refine⟨(hs.2 p.1 ?_).trans e,n,ne,nf,d⟩;intro q;rw[q,hoc]at e;have q':oc=p.2:=aJ.inj e;exact d w' (by rw[←q'];exact hocd)
theorem Gv{M:Model}{A:Around}{E:Value->Shared->Prop}{i:Nat}{x:Str}{v:V}{u:Value}{Q:Unit->Shared->Prop}(I:Inv X oq σ H s) (hN:X.N.Nodup) (hi:X.N[i]?=some x) (hx:SV X.env.scope x) (r:qc v u)
  (h:∀s',Inv X oq (σ.set i (some v)) H s'->Q () s') (hf:X.fn x=true∨X.env.scope.names.lookup x=some .local:=by trivial):kf M A (storeName X.env x u) Q E s :=
 LS I hN hi hx r (λs' I' _=>h s' I') hf
theorem Inv.call'{s':Shared}{ch:List Addr}(I:Inv X oq σ H s) (ho:s'.os=s.os) (u:Un (OZ X.stack) ch H H' s.heap s'.heap) (hok:Aw X.prog X.w H' s'.heap) (hg:mX s'.gens)
  (hch:∀b∈ch,(b∈X.ex∨X.s₀.heap.objs.size<=b)/\b≠X.env.locals/\(∀x c,X.env.cells.lookup x=some c->c≠b)/\∀p∈X.pn++oq,p.1≠b):Inv X oq σ H' s':=by
 obtain⟨h',g',d',t',o'⟩:=s';have e:o'=s.os:=ho;subst e;exact I.call (g':=g') (t':=t') (d':=d') u hok hg hch
end
abbrev XK:=Value->Option Addr->Hp->Prop
abbrev St:=List (Option V)
abbrev VK:=V->Hp->Prop
abbrev TE:=St->Hp->VK->Prop
abbrev TT:=St->Hp->(Bool->Hp->Prop)->Prop
abbrev TA:=St->Hp->(List V->Hp->Prop)->Prop
structure Bw where
 nx:St->Hp->Prop
 rt:VK
 bk:St->Hp->Prop:=λ_ _=>False
 ct:St->Hp->Prop:=λ_ _=>False
abbrev TS:=Bw->St->Hp->Prop
def EP(X:Cx) (oq:List (Addr×Obj)) (σ:St) (Q:VK) (u:Value) (s':Shared):Prop:=∃v H',Inv X oq σ H' s'/\qc v u/\Q v H'
def TP(X:Cx) (oq:List (Addr×Obj)) (σ:St) (Q:Bool->Hp->Prop) (b:Bool) (s':Shared):Prop:=∃H',Inv X oq σ H' s'/\Q b H'
def AP(X:Cx) (oq:List (Addr×Obj)) (σ:St) (Q:List V->Hp->Prop) (us:List Value) (s':Shared):Prop:=∃vs H',Inv X oq σ H' s'/\pO vs us/\Q vs H'
def SP(X:Cx) (oq:List (Addr×Obj)) (D:Bw) (f:Flow) (s':Shared):Prop :=
 match f with
 | .next=>∃σ' H',Inv X oq σ' H' s'/\D.nx σ' H'
 | .brk=>∃σ' H',Inv X oq σ' H' s'/\D.bk σ' H'
 | .cont=>∃σ' H',Inv X oq σ' H' s'/\D.ct σ' H'
 | .ret u=>∃v σ' H',Inv X oq σ' H' s'/\qc v u/\D.rt v H'
def PE(X:Cx) (e:Expr) (t:TE):Prop :=
 ∀(oq:List (Addr×Obj)) (s:Shared) (σ:St) (H:Hp) (Q:VK),Inv X oq σ H s->t σ H Q->kf (ki X.prog X.w) X.A (eval e X.env) (EP X oq σ Q) X.xe s
def PT(X:Cx) (e:Expr) (t:TT):Prop :=
 ∀(oq:List (Addr×Obj)) (s:Shared) (σ:St) (H:Hp) (Q:Bool->Hp->Prop),Inv X oq σ H s->t σ H Q->kf (ki X.prog X.w) X.A (isTrue e X.env (eval e X.env)) (TP X oq σ Q) X.xe s
def PW(X:Cx) (e:Expr) (t:TT):Prop :=
 ∀(whole:Sem Value) (oq:List (Addr×Obj)) (s:Shared) (σ:St) (H:Hp) (Q:Bool->Hp->Prop),Inv X oq σ H s->t σ H Q->kf (ki X.prog X.w) X.A (isTrue e X.env whole) (TP X oq σ Q) X.xe s
theorem PW.pt{X:Cx}{e:Expr}{t:TT}(h:PW X e t):PT X e t:=h _
def PA(X:Cx) (es:List Expr) (t:TA):Prop :=
 ∀(pos:Pos) (oq:List (Addr×Obj)) (s:Shared) (σ:St) (H:Hp) (Q:List V->Hp->Prop),Inv X oq σ H s->t σ H Q->kf (ki X.prog X.w) X.A (spliced (lF pos (kx es X.env))) (AP X oq σ Q) X.xe s
def PS(X:Cx) (st:Stmt) (t:TS):Prop :=
 ∀(oq:List (Addr×Obj)) (s:Shared) (σ:St) (H:Hp) (D:Bw),Inv X oq σ H s->t D σ H->kf (ki X.prog X.w) X.A (exec st X.env) (SP X oq D) X.xe s
def Jm(X:Cx) (st:List Stmt) (t:TS):Prop :=
 ∀(oq:List (Addr×Obj)) (s:Shared) (σ:St) (H:Hp) (D:Bw),Inv X oq σ H s->t D σ H->kf (ki X.prog X.w) X.A (execs st X.env) (SP X oq D) X.xe s
theorem thn{α:Type}{t:Sem α}{Q Q':α->Shared->Prop}{M:Model}{A:Around}{E:Value->Shared->Prop}{s:Shared}(h:kf M A t Q E s) (hQ:∀a s,Q a s->Q' a s):kf M A t Q' E s:=kJ h hQ λ_ _ x=>x
section
variable {X:Cx}
def xq(i:Nat):TE:=λσ H Q=>∃v,σ[i]?=some (some v)/\Q v H
def tC(v:V):TE:=λ_ H Q=>Q v H
theorem Tn{i:Nat}{x:Str}{pos:Pos}(hN:X.N[i]?=some x) (hv:W3 X.env.scope x) (hd:(x == ("__debug__" : Str))=false:=by decide) (hcd:(x == ("__classdict__" : Str))=false:=by decide):PE X (.Name x pos) (xq i):=by
 intro oq s σ H Q I h;obtain⟨v,e,h⟩:=h;obtain⟨m,hn,hl⟩:=I.loc;obtain⟨u,r,l⟩:=hl i x v hN e hv;have fin:EP X oq σ Q u s:=⟨v,H,I,r,h⟩;rcases l with ⟨hk,hm⟩|⟨hk,c,hc,hcell⟩
 .exact wpAny_Name (wpAny_loadName_local I.ok.kind hk hn hm fin) hd
 .rcases hk with hk|hk
  .exact wpAny_Name (wpAny_loadName_cell I.ok.kind hk hc hcell fin) hd
  .exact wpAny_Name (wpAny_loadName_free I.ok.kind hk hc hcell fin hcd) hd
theorem oC{i j pos}:PE X (.Constant (.int i) j pos) (tC (.int i)):=λ_ _ _ H _ I h=>wpAny_Constant_int ⟨.int i,H,I.tok _,⟨_,rfl⟩,h⟩
theorem O6{b j pos}:PE X (.Constant (.bool b) j pos) (tC (.bl b)):=λ_ _ _ H _ I h=>Constant_bool ⟨.bl b,H,I,rfl,h⟩
def Gl(X:Cx) (x:Str):Prop:=X.env.kindOf x=some .globalImplicit
theorem P1{E:Value->Shared->Prop}{oq:List (Addr×Obj)}{s:Shared}{σ:St}{H:Hp}{x:Str}{u:Value}{pos:Pos}{Q:Value->Shared->Prop}(I:Inv X oq σ H s) (hg:Gl X x) (hm:X.mg x=some u) (h:Q u s)
  (hd:(x == ("__debug__" : Str))=false:=by decide):kf (ki X.prog X.w) X.A (eval (.Name x pos) X.env) Q E s :=
 Calls.Name_function_global I.ok.kind hg (Calls.loadGlobal_global (by rw[I.ok.glob];exact I.mod.glob.keeps I.bk) hm h) hd
theorem xk{E:Value->Shared->Prop}{oq:List (Addr×Obj)}{s:Shared}{σ:St}{H:Hp}{x:Str}{u:Value}{pos:Pos}{Q:Value->Shared->Prop}(I:Inv X oq σ H s) (hg:Gl X x) (hm:X.mg x=none) (hv:mL x=some u) (h:Q u s)
  (hn:x ≠ "__name__" := by decide) (hd:(x == ("__debug__" : Str))=false:=by decide):kf (ki X.prog X.w) X.A (eval (.Name x pos) X.env) Q E s:=by
 obtain⟨mb,h1,h2⟩:=I.mod.blt;exact Calls.Name_function_global I.ok.kind hg (Calls.loadGlobal_builtin (by rw[I.ok.glob];exact I.mod.glob.keeps I.bk) hm (by rw[I.ok.blt];exact h1.keeps I.bk) ((h2 x hn).trans hv) h) hd
theorem Qn{x:Str}{v:V}{u:Value}{pos:Pos}(hg:Gl X x) (hm:X.mg x=none) (hv:mL x=some u) (r:qc v u) (hn:x ≠ "__name__" := by decide) (hd:(x == ("__debug__" : Str))=false:=by decide):PE X (.Name x pos) (tC v) :=
 λ_ _ _ H _ I h=>xk I hg hm hv ⟨v,H,I,r,h⟩ hn hd
variable {a b:Expr}{ta tb:TE}{pos:Pos}
def PC(X:Cx) (op:CmpOp) (a b:Expr) (t:TE):Prop :=
 ∀(oq:List (Addr×Obj)) (s:Shared) (σ:St) (H:Hp) (Q:VK),Inv X oq σ H s->t σ H Q ->
  kf (ki X.prog X.w) X.A (eval a X.env) (λv s₁=>kf (ki X.prog X.w) X.A (eval b X.env) (λu s₂=>kf (ki X.prog X.w) X.A (kS op v u) (EP X oq σ Q) X.xe s₂) X.xe s₁) X.xe s
def tB(t:TE):TT:=λσ H Q=>t σ H λx H1=>∃c,x = .bl c/\Q c H1
theorem FA{op:CmpOp}{t:TE}(h:PC X op a b t) (h1:mR op b=false:=by first|exact nobehind _ (by decide) (by decide)|rfl):PT X (.Compare a [op] [b] pos) (tB t):=by
 intro oq s σ H Q I hw;refine YZ (thn (h oq s σ H _ I hw) λv s1 h1=>thn h1 λu s2 h2=>thn h2 λc s3 ⟨x,H1,I1,r1,q1⟩=>?_) h1
 obtain⟨d,rfl,q⟩:=q1;cases r1;exact mh ⟨H1,I1,q⟩
theorem TB{e:Expr}{t:TE}(h:PE X e t) (he:∀whole,isTrue e X.env whole=(do let v ←whole;standAt e.pos;Zr [v] (truthy v)):=by intro _;rfl):PT X e (tB t):=by
 intro oq s σ H Q I hw;refine isTrue_plain (thn (h oq s σ H _ I hw) λv s1 ⟨x,H1,I1,r1,q1⟩=>?_) (he _)
 obtain⟨d,rfl,q⟩:=q1;cases r1;exact mh ⟨H1,I1,q⟩
variable {tA tB':TT}{uJ:List Expr}
def U9(t u:TT):TT:=λσ H Q=>t σ H λc H1=>if c=true then u σ H1 Q else Q false H1
def X3(t u:TT):TT:=λσ H Q=>t σ H λc H1=>if c=true then Q true H1 else u σ H1 Q
def Vf(t:TT):TT:=λσ H Q=>t σ H λc H1=>Q (!c) H1
theorem FG(ha:PT X a tA):PW X (.BoolOp .And [a] pos) tA:=by
 intro wh oq s σ H Q I h;refine isTrue_and (thn (ha oq s σ H Q I h) λc s1 e=>?_)
 cases c with
 |true=>exact isTrue_and_nil e
 |false=>exact e
theorem Ud(ha:PT X a tA):PW X (.BoolOp .Or [a] pos) tA:=by
 intro wh oq s σ H Q I h;refine isTrue_or (thn (ha oq s σ H Q I h) λc s1 e=>?_)
 cases c with
 |false=>exact isTrue_or_nil e
 |true=>exact e
theorem FD(ha:PT X a tA) (hb:PW X (.BoolOp .And (b::uJ) pos) tB'):PW X (.BoolOp .And (a::b::uJ) pos) (U9 tA tB'):=by
 intro wh oq s σ H Q I h;refine isTrue_and (thn (ha oq s σ H _ I h) λc s1 ⟨H1,I1,q1⟩=>?_)
 cases c with
 |true=>exact hb wh oq s1 σ H1 Q I1 q1
 |false=>exact⟨H1,I1,q1⟩
theorem Vn(ha:PT X a tA) (hb:PW X (.BoolOp .Or (b::uJ) pos) tB'):PW X (.BoolOp .Or (a::b::uJ) pos) (X3 tA tB'):=by
 intro wh oq s σ H Q I h;refine isTrue_or (thn (ha oq s σ H _ I h) λc s1 ⟨H1,I1,q1⟩=>?_)
 cases c with
 |true=>exact⟨H1,I1,q1⟩
 |false=>exact hb wh oq s1 σ H1 Q I1 q1
theorem UM(ha:PT X a tA):PT X (.UnaryOp .Not a pos) (Vf tA):=by
 intro oq s σ H Q I h;exact isTrue_not (ha oq s σ H (λc H1=>Q (!c) H1) I h)
def RV(ta tb:TE):TE:=λσ H Q=>ta σ H λx H1=>∃c,x = .bl c/\if c=true then tb σ H1 Q else Q (.bl false) H1
theorem UA{op} {t:TE}(h:PE X a t):PE X (.BoolOp op [a] pos) t:=λoq s σ H Q I hw=>BoolOp_one (h oq s σ H Q I hw)
theorem Tg(ha:PE X a ta) (hb:PE X (.BoolOp .And (b::uJ) pos) tb):PE X (.BoolOp .And (a::b::uJ) pos) (RV ta tb):=by
 intro oq s σ H Q I h;refine BoolOp_and (thn (ha oq s σ H _ I h) λv s1 ⟨x,H1,I1,r1,q1⟩=>?_)
 obtain⟨c,rfl,q1⟩:=q1;cases r1;refine mh ?_;cases c with
 |true=>exact hb oq s1 σ H1 Q I1 q1
 |false=>exact⟨.bl false,H1,I1,rfl,q1⟩
def X7(t:TT) (ta tb:TE):TE:=λσ H Q=>t σ H λc H1=>if c=true then ta σ H1 Q else tb σ H1 Q
theorem Ho{c:Expr}(hc:PT X c tA) (ha:PE X a ta) (hb:PE X b tb):PE X (.IfExp c a b pos) (X7 tA ta tb):=by
 intro oq s σ H Q I h;refine wpAny_IfExp (thn (hc oq s σ H _ I h) λd s1 ⟨H1,I1,q1⟩=>?_)
 cases d with
 |true=>exact ha oq s1 σ H1 Q I1 q1
 |false=>exact hb oq s1 σ H1 Q I1 q1
end
def tu(K:W.Frag) (H:Hp) (a:Addr) (xs:List V):Prop :=
 Rd H a (.lst xs) ∨
  ∃(o:Obj) (its:Array Value) (n:Nat),K.lookup a=some o/\o.cls = .type "list" /\ o.dict=none/\o.data = .seq its n/\its.size<=ko/\pO xs its.toList
def DP(K:W.Frag) (H:Hp) (a:Addr) (xs:List V):Prop :=
 Rd H a (.tup xs) ∨
  ∃(o:Obj) (its:Array Value) (n:Nat),K.lookup a=some o/\o.cls = .type "tuple" /\ o.data = .seq its n/\its.size<=ko/\pO xs its.toList
def XF:Value->Option V
 | .none=>some .non
 | .bool b=>some (.bl b)
 | .int i _=>some (.int i)
 | .str x _=>some (.str x)
 | .bytes b _=>some (.byt b)
 | .float b _=>some (.flt b)
 | .ref a=>some (.ref a)
 | .type n=>some (.ty n)
 |_=>none
theorem qc.abs{x:V}{u:Value}(r:qc x u):XF u=some x:=by
 cases x with
 |non=>cases r;rfl
 |bl _=>cases r;rfl
 |int _=>obtain⟨t,rfl⟩:=r;rfl
 |str _=>obtain⟨t,rfl⟩:=r;rfl
 |byt _=>obtain⟨t,rfl⟩:=r;rfl
 |flt _=>obtain⟨t,rfl⟩:=r;rfl
 |ref _=>cases r;rfl
 |ty _=>cases r;rfl
theorem qc.inj{x y:V}{u:Value}(r:qc x u) (q:qc y u):x=y:=aJ.inj (r.abs.symm.trans q.abs)
theorem pO.inj:∀{xs ys:List V}{us:List Value},pO xs us->pO ys us->xs=ys
 |_,_,_,.nil,.nil=>rfl
 |_,_,_,.cons r t,.cons r' t'=>by rw[r.inj r',pO.inj t t']
section
variable {X:Cx}{oq:List (Addr×Obj)}{σ:St}{H:Hp}{s:Shared}{a:Addr}{xs ys:List V}
theorem tu.of{K:W.Frag}(h:H a=some (.lst xs)):tu K H a xs:=.inl (.inl h)
theorem DP.of{K:W.Frag}(h:H a=some (.tup xs)):DP K H a xs:=.inl (.inl h)
theorem Inv.list(I:Inv X oq σ H s) (h:tu X.K H a xs):∃its:List Value,pO xs its/\PlainL s.heap a its.toArray/\xs.length<=ko:=by
 rcases h with h|⟨o,its,n,hk,hc,hd,hs,hz,r⟩
 .obtain ⟨z,its,n,r,e⟩:=h.ok I.hok;exact⟨its,r,⟨_,n,e,rfl,rfl,rfl⟩,z⟩
 .refine ⟨its.toList,r,⟨o,n,I.kIn a o hk,hc,hd,by simpa using hs⟩,?_⟩
  have e:=r.length;simp only[au]at e;lia
theorem Inv.tuple(I:Inv X oq σ H s) (h:DP X.K H a xs):∃its:List Value,pO xs its/\IsTup s.heap a its.toArray/\xs.length<=ko:=by
 rcases h with h|⟨o,its,n,hk,hc,hs,hz,r⟩
 .obtain ⟨z,its,r,p⟩:=h.ok I.hok;exact⟨its,r,p,z⟩
 .refine ⟨its.toList,r,⟨o,I.kIn a o hk,hc,n,by simpa using hs⟩,?_⟩
  have e:=r.length;simp only[au]at e;lia
theorem Inv.list_inj(I:Inv X oq σ H s) (h:tu X.K H a xs) (h':tu X.K H a ys):xs=ys:=by
 obtain⟨its,r,⟨o,n,e,_,_,d⟩,_⟩:=I.list h;obtain⟨its',r',⟨o',n',e',_,_,d'⟩,_⟩:=I.list h';rw[e]at e';cases e';rw[d]at d';injection d' with d1 _
 have:its=its':=by simpa using congrArg Array.toList d1
 subst this;exact r.inj r'
end
abbrev Cx.wish(X:Cx) (E:Value->Shared->Prop):Cx:={ X with xe:=E }
abbrev Cx.nox(X:Cx):Cx:=X.wish λ_ _=>False
theorem Cx.Ok.wish{X:Cx}(ok:X.Ok) (E:Value->Shared->Prop):(X.wish E).Ok :=
 ⟨ok.mod,ok.kind,ok.glob,ok.blt,ok.above,ok.inj,ok.has,ok.cab,ok.hd,ok.frames,ok.stk,ok.exf,ok.bs,ok.bsz,ok.noex,ok.exfs,ok.funs,ok.frf⟩
theorem Cx.Ok.unwish{X:Cx}{E:Value->Shared->Prop}(ok:(X.wish E).Ok):X.Ok :=
 ⟨ok.mod,ok.kind,ok.glob,ok.blt,ok.above,ok.inj,ok.has,ok.cab,ok.hd,ok.frames,ok.stk,ok.exf,ok.bs,ok.bsz,ok.noex,ok.exfs,ok.funs,ok.frf⟩
section
variable {X:Cx}{oq:List (Addr×Obj)}{σ:St}{H:Hp}{s:Shared}{E:Value->Shared->Prop}
theorem Inv.wish(I:Inv X oq σ H s) (E:Value->Shared->Prop):Inv (X.wish E) oq σ H s:=⟨I.ok.wish E,I.os,I.bare,I.base,I.loc,I.cell,I.free,I.freeC,I.pin,I.hok,I.len⟩
theorem Inv.unwish(I:Inv (X.wish E) oq σ H s):Inv X oq σ H s:=⟨I.ok.unwish,I.os,I.bare,I.base,I.loc,I.cell,I.free,I.freeC,I.pin,I.hok,I.len⟩
theorem SP.unwish{D:Bw}{f:Flow}{s':Shared}(h:SP (X.wish E) oq D f s'):SP X oq D f s':=by
 cases f with
 |next=>obtain⟨σ',H',I,q⟩:=h;exact⟨σ',H',I.unwish,q⟩
 |brk=>obtain⟨σ',H',I,q⟩:=h;exact⟨σ',H',I.unwish,q⟩
 |cont=>obtain⟨σ',H',I,q⟩:=h;exact⟨σ',H',I.unwish,q⟩
 |ret u=>obtain⟨v,σ',H',I,r,q⟩:=h;exact⟨v,σ',H',I.unwish,r,q⟩
theorem Jm.nox{st:List Stmt}{t:TS}(h:Jm X.nox st t):Jm X st t:=λoq s σ H D I hw =>
 kJ (h oq s σ H D (I.wish _) hw) (λ_ _ q=>q.unwish) λ_ _ z=>False.elim z
end
section
variable {X:Cx}{st:Stmt}{uJ:List Stmt}{t u:TS}{e:Expr}{te:TE}{pos:Pos}
def RW:TS:=λD σ H=>D.nx σ H
def Va(t u:TS):TS:=λD σ H=>t { D with nx:=u D } σ H
theorem qT:Jm X [] RW:=λ_ _ σ H _ I h=>mY ⟨σ,H,I,h⟩
theorem ox(h1:PS X st t) (h2:Jm X uJ u):Jm X (st::uJ) (Va t u):=by
 intro oq s σ H D I h;refine wpAny_execs_cons (thn (h1 oq s σ H { D with nx:=u D } I h) λf s1 q=>?_)
 cases f with
 |next =>
  obtain⟨σ',H',I',q⟩:=q;exact h2 oq s1 σ' H' D I' q
 |ret v=>exact q
 |brk=>exact q
 |cont=>exact q
theorem oG(h1:PS X st t):Jm X [st] t:=by
 intro oq s σ H D I h;refine wpAny_execs_cons (thn (h1 oq s σ H D I h) λf s1 q=>?_)
 cases f with
 |next=>exact mY q
 |ret v=>exact q
 |brk=>exact q
 |cont=>exact q
def OP:TS:=λD σ H=>D.bk σ H
theorem Of:PS X (.Break pos) OP:=λ_ _ σ H _ I h=>wpAny_Break ⟨σ,H,I,h⟩
theorem Inv.quiet{oq:List (Addr×Obj)}{σ:St}{H:Hp}{s:Shared}(I:Inv X oq σ H s):interactive X.env=false:=by simp[interactive,I.ok.kind]
def Ef(te:TE):TS:=λD σ H=>te σ H λ_ H1=>D.nx σ H1
theorem rZ(he:PE X e te) (hs:oh e none pos.line X.env=pure false:=by rfl):PS X (.Expr e pos) (Ef te):=by
 intro oq s σ H D I h;exact wpAny_Expr_any (thn (he oq s σ H _ I h) λv s1 ⟨x,H1,I1,r1,q1⟩=>⟨σ,H1,I1,q1⟩) I.quiet hs
def S5(te:TE):TS:=λD σ H=>te σ H D.rt
theorem qe(he:PE X e te):PS X (.Return (some e) pos) (S5 te):=by
 intro oq s σ H D I h;exact wpAny_Return_some (thn (he oq s σ H _ I h) λv s1 ⟨x,H1,I1,r1,q1⟩=>⟨x,σ,H1,I1,r1,q1⟩)
def Wh(c:TT) (t u:TS):TS:=λD σ H=>c σ H λb H1=>if b=true then t D σ H1 else u D σ H1
theorem uA{c:Expr}{a b:List Stmt}{tc:TT}(hc:PT X c tc) (ha:Jm X a t) (hb:Jm X b u):PS X (.If c a b pos) (Wh tc t u):=by
 intro oq s σ H D I h;refine wpAny_If (thn (hc oq s σ H _ I h) λd s1 ⟨H1,I1,q1⟩=>?_)
 cases d with
 |true=>exact ha oq s1 σ H1 D I1 q1
 |false=>exact hb oq s1 σ H1 D I1 q1
end
abbrev TG:=V->St->Hp->(St->Hp->Prop)->Prop
abbrev S7:=List V->St->Hp->(St->Hp->Prop)->Prop
def PG(X:Cx) (target:Expr) (t:TG):Prop :=
 ∀(oq:List (Addr×Obj)) (s:Shared) (σ:St) (H:Hp) (v:V) (u:Value) (Q:St->Hp->Prop),Inv X oq σ H s->qc v u->t v σ H Q ->
  kf (ki X.prog X.w) X.A (nV target X.env u) (λ_ s'=>∃σ' H',Inv X oq σ' H' s'/\Q σ' H') X.xe s
def WY(X:Cx) (ts:List Expr) (t:S7):Prop :=
 ∀(oq:List (Addr×Obj)) (s:Shared) (σ:St) (H:Hp) (vs:List V) (us:List Value) (Q:St->Hp->Prop),Inv X oq σ H s->pO vs us->t vs σ H Q ->
  kf (ki X.prog X.w) X.A (assignInOrder ((nu ts X.env).map (·.2)) us) (λ_ s'=>∃σ' H',Inv X oq σ' H' s'/\Q σ' H') X.xe s
abbrev SN:=V->V->V->Hp->(Hp->Prop)->Prop
def Vt(X:Cx) (t:SN):Prop :=
 ∀(oq:List (Addr×Obj)) (s:Shared) (σ:St) (H:Hp) (o i v:V) (ov iv u:Value) (Q:Hp->Prop),Inv X oq σ H s->qc o ov->qc i iv->qc v u->t o i v H Q ->
  kf (ki X.prog X.w) X.A (setItem ov iv u) (λ_ s'=>∃H',Inv X oq σ H' s'/\Q H') X.xe s
section
variable {X:Cx}{pos:Pos}
def tX(i:Nat):TG:=λv σ H Q=>Q (σ.set i (some v)) H
theorem EE{i:Nat}{x:Str}(hN:X.N.Nodup) (hi:X.N[i]?=some x) (hx:SV X.env.scope x) (hf:X.fn x=true∨X.env.scope.names.lookup x=some .local:=by trivial):PG X (.Name x pos) (tX i):=by
 intro oq s σ H v u Q I r h;exact wpAny_assign_Name (Gv I hN hi hx r (λs' I'=>⟨_,H,I',h⟩) hf)
def L9:S7:=λvs σ H Q=>vs=[]/\Q σ H
def Bf(t:TG) (u:S7):S7:=λvs σ H Q=>∃v r,vs=v::r/\t v σ H λσ' H'=>u r σ' H' Q
theorem Az:WY X [] L9:=by
 intro oq s σ H vs us Q I r h;obtain⟨e,h⟩:=h;subst e;cases r;exact assignInOrder_nil ⟨σ,H,I,h⟩
theorem uc{e:Expr}{es:List Expr}{t:TG}{u:S7}(h1:PG X e t) (h2:WY X es u)
  (hs:(nu (e::es) X.env).map (·.2)=nV e X.env::(nu es X.env).map (·.2):=by rfl):WY X (e::es) (Bf t u):=by
 intro oq s σ H vs us Q I r h;obtain⟨v,vr,e1,h⟩:=h;subst e1;cases r with
 |cons r rr =>
  rw[hs];refine assignInOrder_cons (thn (h1 oq s σ H _ _ _ I r h) λ_ s1 ⟨σ1,H1,I1,q1⟩=>?_)
  exact h2 oq s1 σ1 H1 _ _ Q I1 rr q1
def Me(K:W.Frag) (n:Nat) (t:S7):TG:=λv σ H Q=>∃a xs,v = .ref a/\DP K H a xs/\xs.length=n/\t xs σ H Q
theorem CG{es:List Expr}{k:Nat}{t:S7}{n:Nat}(hc:X.calm=true) (h:WY X es t)
  (hn:(nu es X.env).length=n:=by rfl) (hst:(nu es X.env).findIdx? (·.1)=none:=by rfl):PG X (.Tuple es k pos) (Me X.K n t):=by
 intro oq s σ H v u Q I r hw;obtain⟨a,xs,e1,hq,hl,hw⟩:=hw;subst e1;cases r;obtain⟨its,rv,ht,hz⟩:=I.tuple hq;refine assign_Tuple_tuple (I.ok.hd hc) ht (by simp[hn,←hl,rv.length]) hst λh' hx=>?_
 have I1:Inv X oq σ H { s with heap:=h' }:=I.kept (t':=s.toks) λb o e=>hx b o (ay (ak e)) e
 exact h oq _ σ H xs _ Q I1 (by simpa using rv) hw
def Vr(to ti:TE) (t:SN):TG:=λv σ H Q=>to σ H λo H1=>ti σ H1 λi H2=>t o i v H2 λH3=>Q σ H3
theorem TK{o i:Expr}{to ti:TE}{t:SN}(ho:PE X o to) (hi:PE X i ti) (hs:Vt X t)
  (ha:∀v,nV (.Subscript o i pos) X.env v=(do
   let ov ←Zr [v] (eval o X.env)
   let iv ←Zr [v,ov] (eval i X.env)
   standAt pos
   Zr [v,ov,iv] (setItem ov iv v)
   release [v,ov,iv] []):=by intro _;rfl):PG X (.Subscript o i pos) (Vr to ti t):=by
 intro oq s σ H v u Q I r h;rw[ha];refine jY (kA (thn (ho oq s σ H _ I h) λov s1 ⟨x,H1,I1,r1,q1⟩=>?_))
 refine jY (kA (thn (hi oq s1 σ H1 _ I1 q1) λiv s2 ⟨y,H2,I2,r2,q2⟩=>?_))
 refine jY (Zf (jY (kA (thn (hs oq s2 σ H2 x y v ov iv u _ I2 r1 r2 r q2) λ_ s3 ⟨H3,I3,q3⟩=>?_))))
 exact wpAny_release ⟨σ,H3,I3,q3⟩
def Fg(te:TE) (g:TG):TS:=λD σ H=>te σ H λx H1=>g x σ H1 D.nx
theorem HQ{tg e:Expr}{te:TE}{g:TG}(he:PE X e te) (hg:PG X tg g) (hs:swapsWithSole [tg] e pos.line X.env=pure false:=by rfl) (hw:swappedStores [tg] e X.env=pure none:=by rfl)
  (h1:(nu [tg] X.env).map (·.2)=[nV tg X.env]:=by rfl):PS X (.Assign [tg] e pos) (Fg te g):=by
 intro oq s σ H D I h;refine wpAny_Assign_stores (thn (he oq s σ H _ I h) λv s1 ⟨x,H1,I1,r1,q1⟩=>?_) hs hw
 rw[h1];exact thn (hg oq s1 σ H1 x v _ I1 r1 q1) λ_ s2 q=>q
theorem Sz{i:Nat}{x:Str}{e:Expr}{te:TE}{pos':Pos}(hN:X.N.Nodup) (hi:X.N[i]?=some x) (hx:SV X.env.scope x) (he:PE X e te) (hs:oh e (some (.Name x pos')) pos.line X.env=pure false:=by rfl) (hf:X.fn x=true∨X.env.scope.names.lookup x=some .local:=by trivial) :
  PS X (.Assign [.Name x pos'] e pos) (Fg te (tX i)):=by
 intro oq s σ H D I h;refine wpAny_Assign_Name (thn (he oq s σ H _ I h) λv s1 ⟨y,H1,I1,r1,q1⟩=>?_) hs
 exact Gv I1 hN hi hx r1 (λs2 I2=>⟨_,H1,I2,q1⟩) hf
end
section
variable {X:Cx}{pos:Pos}
def NB(c:TT) (tb:TS):TS:=λD σ H=>∃W:Nat->St->Hp->Prop,(∃m,W m σ H)/\∀m σ H,W m σ H ->
 c σ H λb H1=>if b=true then ∃N:St->Hp->Prop,(∀σ' H',N σ' H'->∃m',m'<m/\W m' σ' H')/\tb { D with nx:=N,ct:=N,bk:=D.nx } σ H1 else D.nx σ H1
theorem CQ{c:Expr}{body:List Stmt}{tc:TT}{tb:TS}(hp:PassesOwn (ki X.prog X.w) X.A X.env X.xe) (hc:PT X c tc) (hb:Jm X body tb):PS X (.While c body [] pos) (NB tc tb):=by
 intro oq s σ H D I h;obtain⟨W,⟨m0,w0⟩,turn⟩:=h;refine wpAny_While (codeAny_whileLoop (λn s'=>∃σ' H',Inv X oq σ' H' s'/\W n σ' H') ?_ m0 ⟨σ,H,I,w0⟩)
 rintro n s1 ⟨σ1,H1,I1,w1⟩;refine lg hp (thn (hc oq s1 σ1 H1 _ I1 (turn n σ1 H1 w1)) λb s2 ⟨H2,I2,q2⟩=>?_)
 cases b with
 |true =>
  obtain⟨N,hN,q2⟩:=q2;rw[pe rfl];refine lg hp (thn (hb oq s2 σ1 H2 _ I2 q2) λf s3 q3=>?_)
  cases f with
  |next =>
   obtain⟨σ3,H3,I3,n3⟩:=q3;obtain⟨m',hm,w3⟩:=hN σ3 H3 n3;exact⟨m',hm,σ3,H3,I3,w3⟩
  |cont =>
   obtain⟨σ3,H3,I3,n3⟩:=q3;obtain⟨m',hm,w3⟩:=hN σ3 H3 n3;exact⟨m',hm,σ3,H3,I3,w3⟩
  |brk=>exact q3
  |ret v=>exact q3
 |false =>
  rw[pD aF];exact mY ⟨σ1,H2,I2,q2⟩
end
structure It where
 go:Nat->Hp->Prop
 yld:Nat->Hp->V->Hp->Prop
 stop:Nat->Hp->Prop
def CJ(X:Cx) (oq:List (Addr×Obj)) (H:Hp) (b:Addr):Prop :=
 H b=none/\b≠X.env.locals/\b∉X.fs/\(b∈X.ex∨X.s₀.heap.objs.size<=b)/\(∀x c,X.env.cells.lookup x=some c->c≠b)/\∀p∈X.pn++oq,p.1≠b
theorem Inv.fpOk{X:Cx}{oq:List (Addr×Obj)}{σ:St}{H H':Hp}{s:Shared}{b:Addr}(I:Inv X oq σ H s) (hb:s.heap.objs.size<=b) (hn:H' b=none):CJ X oq H' b:=by
 refine⟨hn,bM (aN I.lt hb),I.nofs hb,.inr (bQ I.sz hb),λx c e z=>?_,λp hp z=>?_⟩
 .obtain ⟨v,q⟩:=I.cell x c e;exact absurd (aN q.lt (by rw[z];exact hb)) (eE _)
 .exact absurd (aN (ak (I.pin p hp).1) (by rw[z];exact hb)) (eE _)
structure HP (P:kq) (w:kr) (K:W.Frag) (tg:Expr) (J:It) (fp:List Addr) (it:Addr) (tn:Nat->Heap->Prop):Prop where
 mem:it∈fp
 obj:∀i h,tn i h->∀b∈fp,∃o,h.get? b=some o/\∀v,o.data ≠ .cell v
 keep:∀i h h',tn i h->(∀b∈fp,∀o,h.get? b=some o->h'.get? b=some o)->tn i h'
 item:∀(X:Cx),X.prog=P->X.w=w->X.K=K->X.calm=true->∀(i:Nat) (oq:List (Addr×Obj)) (s:Shared) (σ:St) (H:Hp) (E:Value->Shared->Prop),Inv X oq σ H s->(∀b∈fp,CJ X oq H b)->tn i s.heap->J.go i H ->
  kf (ki P w) X.A (kT (.ref it)) (λr s1=>∃u,r=some u /\
   kf (ki P w) X.A (mZ tg (.ref it) u) (λ_ s2=>∃x H',Inv X oq σ H' s2/\qc x u/\J.yld i H x H'/\tn (i+1) s2.heap/\∀b∈fp,H' b=none) E s1) E s
 done:∀(X:Cx),X.prog=P->X.w=w->X.K=K->X.calm=true->∀(i:Nat) (oq:List (Addr×Obj)) (s:Shared) (σ:St) (H:Hp) (E:Value->Shared->Prop),Inv X oq σ H s->(∀b∈fp,CJ X oq H b)->tn i s.heap->J.stop i H ->
  kf (ki P w) X.A (kT (.ref it)) (λr s1=>r=none/\Inv X oq σ H s1) E s
 self:∀(A:Around) (i:Nat) (s:Shared) (Q:Value->Shared->Prop) (E:Value->Shared->Prop),tn i s.heap->Q (.ref it) s->kf (ki P w) A (pyIter (.ref it)) Q E s
abbrev TI:=St->Hp->(It->Hp->Prop)->Prop
def X5(X:Cx) (oq:List (Addr×Obj)) (σ:St) (tg:Expr) (R:It->Hp->Prop) (itv:Value) (s2:Shared):Prop :=
 ∃(it:Addr) (fp:List Addr) (tn:Nat->Heap->Prop) (J:It) (H':Hp),itv = .ref it/\Inv X oq σ H' s2/\HP X.prog X.w X.K tg J fp it tn/\tn 0 s2.heap/\(∀b∈fp,CJ X oq H' b)/\R J H'
def PI(X:Cx) (tg iter:Expr) (wi:TI):Prop :=
 ∀(oq:List (Addr×Obj)) (s:Shared) (σ:St) (H:Hp) (R:It->Hp->Prop),Inv X oq σ H s->wi σ H R ->
  kf (ki X.prog X.w) X.A (eval iter X.env) (λv s1=>kf (ki X.prog X.w) X.A (pyIter v) (X5 X oq σ tg R) X.xe s1) X.xe s
theorem J9{M:Model}{A:Around}{E:Value->Shared->Prop}{s:Shared}{tg:Expr}{it:Addr}{u:Value}{o:Obj}{n:String}{vs:Array Value}{Q:Unit->Shared->Prop}(ho:s.heap.get? it=some o) (hc:o.cls = .type n) (hd:o.data = .fields vs)
    (hn:["enumerate", "zip", "dict_itemiterator", "dict_reverseitemiterator", "odict_iterator", "itertools.zip_longest", "itertools.pairwise"].contains n=false) (hQ:Q () s):kf M A (mZ tg (.ref it) u) Q E s:=by
  unfold mZ;cases tg <;> first
    |exact jZ hQ
    | (cases u <;> first
        |exact jZ hQ
        | (refine jY (wpAny_load ho ?_)
           rw[hc,hd];show kf M A (if (["enumerate", "zip", "dict_itemiterator", "dict_reverseitemiterator", "odict_iterator", "itertools.zip_longest", "itertools.pairwise"].contains n && vs[0]? == some (kC _))=true then _ else _) Q E s
           rw[pD (by intro h;rw[hn,jC]at h;cases h)]
           exact jZ hQ))
def Vb(K:W.Frag) (a:Addr):It :=
 ⟨λi H=>∃xs x,tu K H a xs/\xs[i]?=some x,λi H x H'=>H'=H/\∀xs,tu K H a xs->xs[i]?=some x,λi H=>∃xs,tu K H a xs/\xs.length<=i⟩
def PQ(lo:Int) (n:Nat):It:=⟨λi _=>i<n,λi H x H'=>H'=H/\x = .int (lo+i),λi _=>n<=i⟩
theorem Lh{P:kq}{w:kr}{K:W.Frag}{tg:Expr}(a it:Addr):HP P w K tg (Vb K a) [it] it (λi h=>h.IsListIter it a i) where
 mem:=by simp
 obj:=λi h st b hb=>by
  have e:b=it:=by simpa using hb
  subst e;obtain⟨o,e,c,d⟩:=st;exact⟨o,e,λv z=>by rw[d]at z;cases z⟩
 keep:=λi h h' st k=>st.at λo e=>k it (by simp) o e
 item:=by
  intro X hP hw hK hc i oq s σ H E I hf st hg;subst hP hw hK;obtain⟨xs,x,hq,hx⟩:=hg;obtain⟨its,rv,p,hz⟩:=I.list hq;obtain⟨u,hu,ru⟩:=rv.get hx;obtain⟨f0,f1,f2,f3,f4,f5⟩:=hf it (by simp)
  refine wpAny_pyNext_list_item st p.isList (x:=u) (by simpa using hu) λh' st' sb=>?_
  have I1:Inv X oq σ H { s with heap:=h' }:=I.turned (t':=s.toks) (λb o hb e=>(sb.2 b hb).trans e) f0 f1 f3 f4 f5
  obtain⟨o,e,c,d⟩:=id st';exact⟨u,rfl,J9 (s:={ s with heap:=h' }) e c d (by decide) ⟨x,H,I1,ru,⟨rfl,λys hy=>by rw[I.list_inj hy hq];exact hx⟩,st',λb hb=>(hf b hb).1⟩⟩
 done:=by
  intro X hP hw hK hc i oq s σ H E I hf st hg;subst hP hw hK;obtain⟨xs,hq,hx⟩:=hg;obtain⟨its,rv,p,hz⟩:=I.list hq;obtain⟨f0,f1,f2,f3,f4,f5⟩:=hf it (by simp)
  have hl:=rv.length;exact wpAny_pyNext_list_end (I.ok.hd hc) st p.isList (by simp;lia) λh' eb=>⟨rfl,I.turned (t':=s.toks) (λb o hb e=>eb b o hb e) f0 f1 f3 f4 f5⟩
 self:=λ_ _ _ _ _ st h=>wpAny_pyIter_listiter st h
theorem IW{P:kq}{w:kr}{K:W.Frag}{tg:Expr}(it:Addr) (lo:Int) (n:Nat):HP P w K tg (PQ lo n) [it] it (λi h=>IsRangeIter h it (lo+(i:Nat)*1) ((n:Int)-(i:Nat)) 1) where
 mem:=by simp
 obj:=λi h st b hb=>by
  have e:b=it:=by simpa using hb
  subst e;exact⟨_,st,λv z=>by
   have z':Data.fields _=Data.cell v:=z;cases z'⟩
 keep:=λi h h' st k=>k it (by simp) _ st
 item:=by
  intro X hP hw hK hc i oq s σ H E I hf st hg;subst hP hw hK;obtain⟨f0,f1,f2,f3,f4,f5⟩:=hf it (by simp)
  have W:=Walks.range (prog:=X.prog) (w:=X.w) (I.ok.hd hc) it lo 1 n;refine W.item i s _ _ hg st λv h' tk hv st' kk=>?_
  obtain⟨t,rfl⟩:=hv;have I1:Inv X oq σ H { s with heap:=h',toks:=tk }:=I.turned (λb o hb e=>kk b o (by simpa using hb) e) f0 f1 f3 f4 f5
  refine⟨_,rfl,J9 (s:={ s with heap:=h',toks:=tk }) (n := "range_iterator") st' rfl rfl (by decide) ⟨.int (lo+i),H,I1,⟨t,?_⟩,⟨rfl,rfl⟩,st',λb hb=>(hf b hb).1⟩⟩
  rw[Int.mul_one]
 done:=by
  intro X hP hw hK hc i oq s σ H E I hf st hg;subst hP hw hK;obtain⟨f0,f1,f2,f3,f4,f5⟩:=hf it (by simp)
  exact wpAny_pyNext_range_end (I.ok.hd hc) st (by have:n<=i:=hg;lia) λh' eb=>⟨rfl,I.turned (t':=s.toks) (λb o hb e=>eb b o hb e) f0 f1 f3 f4 f5⟩
 self:=λ_ _ _ _ _ st h=>wpAny_pyIter_rangeiter st h
section
variable {X:Cx}{tg:Expr}
def JQ(K:W.Frag) (tl:TE):TI:=λσ H R=>tl σ H λx H1=>∃a,x = .ref a/\(∃xs,tu K H1 a xs)/\R (Vb K a) H1
theorem qp{l:Expr}{tl:TE}(hl:PE X l tl):PI X tg l (JQ X.K tl):=by
 intro oq s σ H R I h;refine thn (hl oq s σ H _ I h) λv s1 ⟨x,H1,I1,r1,q1⟩=>?_
 obtain⟨a,e,⟨xs,hq⟩,q⟩:=q1;subst e;cases r1;obtain⟨its,rv,p,hz⟩:=I1.list hq;refine nJ p.isList ?_;refine⟨s1.heap.objs.size,[s1.heap.objs.size],_,_,H1,rfl,I1.kept (t':=s1.toks) λb o e=>ae _ e,Lh a _,⟨_,aC _ rfl,rfl,rfl⟩,λb hb=>?_,q⟩
 have e:b=s1.heap.objs.size:=by simpa using hb
 subst e;exact I1.fpOk (ai _) (I1.hok.fresh (ai _))
theorem Mq{oq:List (Addr×Obj)}{σ:St}{H:Hp}{s:Shared}{R:It->Hp->Prop}{E:Value->Shared->Prop}{lo hi:Int}{t u v:Tok}{tk:Nat}(I:Inv X oq σ H s) (h1:-(2 ^ 62)<=lo) (h2:lo<2 ^ 62) (h3:-(2 ^ 62)<=hi) (h4:hi<2 ^ 62)
  (q:R (PQ lo (hi-lo).toNat) H):kf (ki X.prog X.w) X.A (pyIter (.ref s.heap.objs.size)) (X5 X oq σ tg R) E { s with heap:=s.heap.push { cls:=.type "range", data:=.fields #[.int lo t,.int hi u,.int 1 v] },toks:=tk }:=by
 refine wpAny_pyIter_range (IsRange.new ..) (small_one h1 h2 h3 h4) ?_;have I1:Inv X oq σ H { s with heap:=s.heap.push { cls:=.type "range", data:=.fields #[.int lo t,.int hi u,.int 1 v] },toks:=tk }:=I.kept λb o e=>ae _ e
 refine⟨(s.heap.push { cls:=.type "range", data:=.fields #[.int lo t,.int hi u,.int 1 v] }).objs.size,[(s.heap.push { cls:=.type "range", data:=.fields #[.int lo t,.int hi u,.int 1 v] }).objs.size],_,_,H,rfl,
  I1.kept (t':=tk) λb o e=>ae _ e,IW _ lo (hi-lo).toNat,?_,λb hb=>?_,q⟩
 .have e1:lo+((0:Nat):Int)*1=lo:=by simp
  have e2:(((hi-lo).toNat:Nat):Int)-((0:Nat):Int)=Builtin.Range.rangeSize lo hi 1:=by rw[rangeSize_one];split <;> lia
  show IsRangeIter _ _ (lo+((0:Nat):Int)*1) ((((hi-lo).toNat:Nat):Int)-((0:Nat):Int)) 1;rw[e1,e2];exact aC _ rfl
 .have e:b=(s.heap.push { cls:=.type "range", data:=.fields #[.int lo t,.int hi u,.int 1 v] }).objs.size:=by simpa using hb
  subst e;exact I1.fpOk (ai _) (I1.hok.fresh (ai _))
def Pr(ta:TA):TI:=λσ H R=>ta σ H λvs H1=>∃j:Int,vs=[.int j]/\-(2 ^ 62)<=j/\j<2 ^ 62/\R (PQ 0 j.toNat) H1
theorem tP{a:Expr}{ta:TA}{p pos:Pos}(hg:Gl X "range") (hm:X.mg "range" = none) (ha:PA X [a] ta) (hs:kx [a] X.env=[(false,eval a X.env)]:=by rfl):PI X tg (.Call (.Name "range" p) [a] [] pos) (Pr ta):=by
 intro oq s σ H R I h;refine Call_ (xk I hg hm boot_range (bN (thn (ha pos oq s σ H _ I h) λus s1 ⟨vs,H1,I1,r1,q1⟩=>?_) hs rfl))
 obtain⟨j,e,q1,q2,q⟩:=q1;subst e;cases r1 with
 |cons r rr =>
  cases rr;obtain⟨t,rfl⟩:=r;exact call_range_1 (Mq I1 (by lia) (by lia) q1 q2 (by simpa using q))
def O9(wi:TI) (g:TG) (tb:TS):TS:=λD σ H=>wi σ H λJ H1=>∃W:Nat->Nat->St->Hp->Prop,(∃m,W 0 m σ H1)/\∀i m σ H,W i m σ H ->
 (J.stop i H/\D.nx σ H)∨(J.go i H/\∃N:St->Hp->Prop,(∀σ' H',N σ' H'->∃m',m'<m/\W (i+1) m' σ' H')/\∀x H',J.yld i H x H'->g x σ H' λσ2 H2=>tb { D with nx:=N,ct:=N,bk:=D.nx } σ2 H2)
def C3(fp:List Addr) (h:Heap):List (Addr×Obj):=fp.filterMap λb=>(h.get? b).map λo=>(b,o)
theorem yC{fp:List Addr}{h:Heap}{b:Addr}{o:Obj}(hb:b∈fp) (e:h.get? b=some o):(b,o)∈C3 fp h:=iZ.mpr ⟨b,hb,by rw[e];rfl⟩
theorem LJ{fp:List Addr}{h:Heap}{p:Addr×Obj}(hp:p∈C3 fp h):p.1∈fp/\h.get? p.1=some p.2:=by
 obtain⟨b,hb,e⟩:=iZ.mp hp;cases q:h.get? b with
 |none=>rw[q]at e;cases e
 |some o =>
  rw[q]at e;have e':(b,o)=p:=aJ.inj e;subst e';exact⟨hb,q⟩
theorem Inv.pinned{oq:List (Addr×Obj)}{σ:St}{H:Hp}{s:Shared}{fp:List Addr}(I:Inv X oq σ H s) (hf:∀b∈fp,CJ X oq H b) (ho:∀b∈fp,∃o,s.heap.get? b=some o/\∀v,o.data ≠ .cell v):Inv X (oq++C3 fp s.heap) σ H s :=
 I.pins_of λp hp=>(mAq.mp hp).elim (λz=>I.pin p (ar _ z)) λz=>by
  obtain⟨hb,e⟩:=LJ z;obtain⟨f0,f1,f2,_⟩:=hf p.1 hb;obtain⟨o,e',d⟩:=ho p.1 hb;rw[e]at e';cases e';exact⟨e,f0,f1,f2,d⟩
theorem Inv.unpinned{oq pl:List (Addr×Obj)}{σ:St}{H:Hp}{s:Shared}(I:Inv X (oq++pl) σ H s):Inv X oq σ H s:=I.pins_of λp hp=>I.pin p (ar _ (az _ hp))
theorem rN{iter:Expr}{body:List Stmt}{wi:TI}{g:TG}{tb:TS}{pos:Pos}(hp:PassesOwn (ki X.prog X.w) X.A X.env X.xe) (hc:X.calm=true) (hi:PI X tg iter wi) (hg:PG X tg g) (hb:Jm X body tb)
  (hs:∀x,nK iter X.env x=pure x:=by intro _;rfl):PS X (.For tg iter body [] pos) (O9 wi g tb):=by
 intro oq s σ H D I h;refine wpAny_For (thn (hi oq s σ H _ I h) λv s1 h1=>thn h1 λitv s2 h2=>?_) hs
 obtain⟨it,fp,tn,J,H2,e,I2,T,DI,f2,W,⟨m0,w0⟩,turn⟩:=h2;subst e;have stat:∀{H':Hp},(∀b∈fp,H' b=none)->∀b∈fp,CJ X oq H' b:=λhn b hb=>⟨hn b hb,(f2 b hb).2⟩
 refine codeAny_forLoop_any (λn s'=>∃i σ' H',Inv X oq σ' H' s'/\tn i s'.heap/\(∀b∈fp,H' b=none)/\W i n σ' H') ?_ m0 ⟨0,σ,H2,I2,DI,λb hb=>(f2 b hb).1,w0⟩
 rintro n s3 ⟨i,σ3,H3,I3,WO,fr3,w3⟩;rcases turn i n σ3 H3 w3 with ⟨stop,qn⟩|⟨go,N,hN,step⟩
 .refine lg hp (thn (T.done X rfl rfl rfl hc i oq s3 σ3 H3 X.xe I3 (stat fr3) WO stop) λr s4 ⟨hr,I4⟩=>?_)
  subst hr;exact mY ⟨σ3,H3,I4,qn⟩
 .refine lg hp (thn (T.item X rfl rfl rfl hc i oq s3 σ3 H3 X.xe I3 (stat fr3) WO go) λr s4 ⟨u,hr,h4⟩=>?_)
  subst hr;refine lg hp (thn h4 λ_ s5 ⟨x,H5,I5,r5,y5,st5,fr5⟩=>?_)
  have I5':=I5.pinned (stat fr5) (T.obj _ _ st5);refine lg hp (thn (hg _ s5 σ3 H5 x u _ I5' r5 (step x H5 y5)) λ_ s6 ⟨σ6,H6,I6,q6⟩=>?_)
  refine lg hp (thn (hb _ s6 σ6 H6 _ I6 q6) λf s7 q7=>?_)
  have again:∀{σ7:St}{H7:Hp},Inv X (oq++C3 fp s5.heap) σ7 H7 s7->N σ7 H7->∃m,m<n/\∃i σ' H',Inv X oq σ' H' s7/\tn i s7.heap/\(∀b∈fp,H' b=none)/\W i m σ' H':=λ{σ7 H7} I7 n7=>by
   obtain⟨m',hm,w7⟩:=hN σ7 H7 n7;refine⟨m',hm,i+1,σ7,H7,I7.unpinned,T.keep _ _ _ st5 λb hb o e=>(I7.pin (b,o) (ar _ (ar _ (yC hb e)))).1,λb hb=>?_,w7⟩
   obtain⟨o,e,d⟩:=T.obj _ _ st5 b hb;exact(I7.pin (b,o) (ar _ (ar _ (yC hb e)))).2.1
  cases f with
  |next=>obtain⟨σ7,H7,I7,n7⟩:=q7;exact again I7 n7
  |cont=>obtain⟨σ7,H7,I7,n7⟩:=q7;exact again I7 n7
  |brk=>obtain⟨σ7,H7,I7,q7⟩:=q7;exact⟨σ7,H7,I7.unpinned,q7⟩
  |ret v=>obtain⟨x7,σ7,H7,I7,r7,q7⟩:=q7;exact⟨x7,σ7,H7,I7.unpinned,r7,q7⟩
end
theorem Hs{K:W.Frag}{a:Addr}{xs:List V}{g:TG}{tb:TS}{D:Bw}{σ:St}{H:Hp}(Pv:Nat->St->Hp->Prop) (h0:Pv 0 σ H) (hl:∀i σ H,i<=xs.length->Pv i σ H->tu K H a xs)
  (hs:∀i x σ H,xs[i]?=some x->Pv i σ H->g x σ H λσ2 H2=>tb { D with nx:=Pv (i+1),ct:=Pv (i+1),bk:=D.nx } σ2 H2) (hd:∀σ H,Pv xs.length σ H->D.nx σ H) :
  ∃W:Nat->Nat->St->Hp->Prop,(∃m,W 0 m σ H)/\∀i m σ H,W i m σ H ->
   ((Vb K a).stop i H/\D.nx σ H)∨((Vb K a).go i H/\∃N:St->Hp->Prop,(∀σ' H',N σ' H'->∃m',m'<m/\W (i+1) m' σ' H')/\∀x H',(Vb K a).yld i H x H'->g x σ H' λσ2 H2=>tb { D with nx:=N,ct:=N,bk:=D.nx } σ2 H2):=by
 refine⟨λi m σ H=>m=xs.length-i/\i<=xs.length/\Pv i σ H,⟨xs.length,by simp,bg _,h0⟩,?_⟩
 rintro i m σ H ⟨rfl,hi,p⟩;have q:=hl i σ H hi p
 by_cases hlt:i<xs.length
 .refine .inr ⟨⟨xs,xs[i],q,by simp[hlt]⟩,Pv (i+1),λσ' H' p'=>⟨xs.length-(i+1),by lia,rfl,hlt,p'⟩,λx H' y=>?_⟩
  obtain⟨e,y⟩:=y;subst e;exact hs i x σ _ (y xs q) p
 .have e:i=xs.length:=by lia
  subst e;exact .inl ⟨⟨xs,q,ai _⟩,hd σ H p⟩
theorem KG{lo:Int}{n:Nat}{g:TG}{tb:TS}{D:Bw}{σ:St}{H:Hp}(Pv:Nat->St->Hp->Prop) (h0:Pv 0 σ H)
  (hs:∀i σ H,i<n->Pv i σ H->g (.int (lo+i)) σ H λσ2 H2=>tb { D with nx:=Pv (i+1),ct:=Pv (i+1),bk:=D.nx } σ2 H2) (hd:∀σ H,Pv n σ H->D.nx σ H) :
  ∃W:Nat->Nat->St->Hp->Prop,(∃m,W 0 m σ H)/\∀i m σ H,W i m σ H ->
   ((PQ lo n).stop i H/\D.nx σ H)∨((PQ lo n).go i H/\∃N:St->Hp->Prop,(∀σ' H',N σ' H'->∃m',m'<m/\W (i+1) m' σ' H')/\∀x H',(PQ lo n).yld i H x H'->g x σ H' λσ2 H2=>tb { D with nx:=N,ct:=N,bk:=D.nx } σ2 H2):=by
 refine⟨λi m σ H=>m=n-i/\i<=n/\Pv i σ H,⟨n,by simp,bg _,h0⟩,?_⟩
 rintro i m σ H ⟨rfl,hi,p⟩
 by_cases hlt:i<n
 .refine .inr ⟨hlt,Pv (i+1),λσ' H' p'=>⟨n-(i+1),by lia,rfl,hlt,p'⟩,λx H' y=>?_⟩
  obtain⟨e,y⟩:=y;subst e y;exact hs i σ _ hlt p
 .have e:i=n:=by lia
  subst e;exact .inl ⟨ai _,hd σ H p⟩
abbrev R2:=V->V->Hp->VK->Prop
def Dd(X:Cx) (f:Value->Value->Sem Value) (r:R2):Prop :=
 ∀(oq:List (Addr×Obj)) (s:Shared) (σ:St) (H:Hp) (x y:V) (v u:Value) (Q:VK),Inv X oq σ H s->qc x v->qc y u->r x y H Q ->
  kf (ki X.prog X.w) X.A (f v u) (EP X oq σ Q) X.xe s
def Xp(X:Cx) (f:Value->Sem Value) (r:V->Hp->VK->Prop):Prop :=
 ∀(oq:List (Addr×Obj)) (s:Shared) (σ:St) (H:Hp) (x:V) (v:Value) (Q:VK),Inv X oq σ H s->qc x v->r x H Q ->
  kf (ki X.prog X.w) X.A (f v) (EP X oq σ Q) X.xe s
def zV(X:Cx) (f:Value) (r:List V->Hp->VK->Prop):Prop :=
 ∀(oq:List (Addr×Obj)) (s:Shared) (σ:St) (H:Hp) (xs:List V) (us:List Value) (Q:VK),Inv X oq σ H s->pO xs us->r xs H Q ->
  kf (ki X.prog X.w) X.A (call f us) (EP X oq σ Q) X.xe s
def PD(r:R2) (ta tb:TE):TE:=λσ H Q=>ta σ H λx H1=>tb σ H1 λy H2=>r x y H2 Q
def Ye(r:V->Hp->VK->Prop) (ta:TE):TE:=λσ H Q=>ta σ H λx H1=>r x H1 Q
def rI(C:Int->Int->Prop) (g:Int->Int->V):R2:=λx y H Q=>∃i j,x = .int i/\y = .int j/\C i j/\Q (g i j) H
def Il(g:Int->Int->V):R2:=λx y H Q=>∃i j,x = .int i/\y = .int j/\Q (g i j) H
def rU(g:Int->V):V->Hp->VK->Prop:=λx H Q=>∃i,x = .int i/\Q (g i) H
section
variable {X:Cx}{a b c:Expr}{ta tb tc:TE}{pos:Pos}
theorem Uw(ha:PE X a ta) (hb:PE X b tb) {oq:List (Addr×Obj)}{s:Shared}{σ:St}{H:Hp}{R:V->V->Hp->Prop}(I:Inv X oq σ H s)
  (h:ta σ H λx H1=>tb σ H1 λy H2=>R x y H2) {Q:Value->Shared->Prop}{f:Value->Value->Sem Value}
  (hf:∀v u s2 x y H2,Inv X oq σ H2 s2->qc x v->qc y u->R x y H2->kf (ki X.prog X.w) X.A (f v u) Q X.xe s2) :
  kf (ki X.prog X.w) X.A (eval a X.env) (λv s₁=>kf (ki X.prog X.w) X.A (eval b X.env) (λu s₂=>kf (ki X.prog X.w) X.A (f v u) Q X.xe s₂) X.xe s₁) X.xe s:=by
 refine thn (ha oq s σ H _ I h) λv s1 ⟨x,H1,I1,r1,q1⟩=>?_
 refine thn (hb oq s1 σ H1 _ I1 q1) λu s2 ⟨y,H2,I2,r2,q2⟩=>?_
 exact hf v u s2 x y H2 I2 r1 r2 q2
theorem oR{op:Operator}{r:R2}(ho:Dd X (mM op) r) (ha:PE X a ta) (hb:PE X b tb):PE X (.BinOp a op b pos) (PD r ta tb):=by
 intro oq s σ H Q I h;exact wpAny_BinOp (Uw ha hb I h λv u s2 x y H2 I2 rx ry q=>ho oq s2 σ H2 x y v u Q I2 rx ry q)
theorem wH{op:UnaryOp}{r:V->Hp->VK->Prop}(ho:Xp X (unaryOp op) r) (ha:PE X a ta):PE X (.UnaryOp op a pos) (Ye r ta):=by
 intro oq s σ H Q I h;exact UnaryOp_ (thn (ha oq s σ H _ I h) λv s1 ⟨x,H1,I1,r1,q1⟩=>ho oq s1 σ H1 x v Q I1 r1 q1)
theorem Vh{f:Value->Value->Sem Value}{C:Int->Int->Prop}{g:Int->Int->Int}
  (rule:∀(i j:Int) (t u:Tok) (s:Shared) (Q:Value->Shared->Prop) (E:Value->Shared->Prop),C i j->Q (.int (g i j) s.toks) { s with toks:=s.toks+1 }->kf (ki X.prog X.w) X.A (f (.int i t) (.int j u)) Q E s) :
  Dd X f (rI C λi j=>.int (g i j)):=by
 intro oq s σ H x y v u Q I rx ry h;obtain⟨i,j,rfl,rfl,hc,q⟩:=h;obtain⟨t,rfl⟩:=rx;obtain⟨t',rfl⟩:=ry;exact rule i j t t' s _ _ hc ⟨.int (g i j),H,I.tok _,⟨_,rfl⟩,q⟩
theorem VA{f:Value->Value->Sem Value}{g:Int->Int->Int}
  (rule:∀(i j:Int) (t u:Tok) (s:Shared) (Q:Value->Shared->Prop) (E:Value->Shared->Prop),Q (.int (g i j) s.toks) { s with toks:=s.toks+1 }->kf (ki X.prog X.w) X.A (f (.int i t) (.int j u)) Q E s) :
  Dd X f (Il λi j=>.int (g i j)):=by
 intro oq s σ H x y v u Q I rx ry h;obtain⟨i,j,rfl,rfl,q⟩:=h;obtain⟨t,rfl⟩:=rx;obtain⟨t',rfl⟩:=ry;exact rule i j t t' s _ _ ⟨.int (g i j),H,I.tok _,⟨_,rfl⟩,q⟩
theorem PU{f:Value->Value->Sem Value}{g:Int->Int->Bool}
  (rule:∀(i j:Int) (t u:Tok) (s:Shared) (Q:Value->Shared->Prop) (E:Value->Shared->Prop),Q (.bool (g i j)) s->kf (ki X.prog X.w) X.A (f (.int i t) (.int j u)) Q E s) :
  Dd X f (Il λi j=>.bl (g i j)):=by
 intro oq s σ H x y v u Q I rx ry h;obtain⟨i,j,rfl,rfl,q⟩:=h;obtain⟨t,rfl⟩:=rx;obtain⟨t',rfl⟩:=ry;exact rule i j t t' s _ _ ⟨.bl (g i j),H,I,rfl,q⟩
def Tz(i j:Int):Prop:=0<j/\j<1073741824
def TZ(i j:Int):Prop:=0<=j/\j<=1000000/\i.natAbs<2 ^ 64
def O2(i j:Int):Prop:=(-(2 ^ 64)<i/\i<2 ^ 64)∨(-(2 ^ 64)<j/\j<2 ^ 64)
theorem O2.ok{i j:Int}(h:O2 i j):IntMulOk i j:=by
 rcases h with ⟨h1,h2⟩|⟨h1,h2⟩
 .exact .of_left (intBits_le_64 h1 h2)
 .exact .of_right (intBits_le_64 h1 h2)
theorem rL:Dd X (mM .Add) (Il λi j=>.int (i+j)):=VA λ_ _ _ _ _ _ _ q=>add_int q
theorem Fz:Dd X (mM .Sub) (Il λi j=>.int (i-j)):=VA λ_ _ _ _ _ _ _ q=>sub_int q
theorem FC:Dd X (mM .Mult) (rI O2 λi j=>.int (i*j)):=Vh λ_ _ _ _ _ _ _ hc q=>mul_int q hc.ok
theorem sX:Dd X (mM .FloorDiv) (rI Tz λi j=>.int (i / j)):=Vh λi j _ _ _ _ _ hc q=>by
 have h1:(0:Int)<j:=hc.1;have h2:j<1073741824:=hc.2;exact floordiv_int (by lia) (by rw[gL i (by lia)];exact q) (.inl (PyProof.noPylong_small (by lia)))
theorem qJ:Dd X (mM .Mod) (rI (λ_ j=>0<j) λi j=>.int (i % j)):=Vh λi j _ _ _ _ _ hc q=>by
 have h1:(0:Int)<j:=hc;exact mod_int' (by lia) (by rw[Int.fmod_eq_emod_of_nonneg i (by lia)];exact q)
theorem Fi:Dd X (mM .Pow) (rI TZ λi j=>.int (i ^ j.toNat)):=Vh λ_ _ _ _ _ _ _ hc q=>pow_int_small hc.1 hc.2.1 hc.2.2 q
theorem YA{f:Value->Sem Value}{g:Int->Int}
  (rule:∀(i:Int) (t:Tok) (s:Shared) (Q:Value->Shared->Prop) (E:Value->Shared->Prop),Q (.int (g i) s.toks) { s with toks:=s.toks+1 }->kf (ki X.prog X.w) X.A (f (.int i t)) Q E s) :
  Xp X f (rU λi=>.int (g i)):=by
 intro oq s σ H x v Q I rx h;obtain⟨i,rfl,q⟩:=h;obtain⟨t,rfl⟩:=rx;exact rule i t s _ _ ⟨.int (g i),H,I.tok _,⟨_,rfl⟩,q⟩
theorem uu:Xp X (unaryOp .USub) (rU λi=>.int (-i)):=YA λ_ _ _ _ _ q=>neg_int q
end
def scal:V->V->Bool
 | .non,.non=>true|.non,.int _=>true|.int _,.non=>true|.non,.bl _=>true|.bl _,.non=>true|.non,.str _=>true|.str _,.non=>true
 | .int _,.int _=>true|.bl _,.bl _=>true|.str _,.str _=>true|.byt _,.byt _=>true
 | .int _,.str _=>true|.str _,.int _=>true|.bl _,.str _=>true|.str _,.bl _=>true
 |_,_=>false
def Yt:R2:=λx y H Q=>scal x y=true/\Q (.bl (decide (x=y))) H
def Yu:R2:=λx y H Q=>scal x y=true/\Q (.bl (!decide (x=y))) H
theorem Jq{i j:Int}:decide (V.int i=V.int j)=(i == j):=by
 rw[cH];simp
theorem OA{i j:Bool}:decide (V.bl i=V.bl j)=(i == j):=by
 rw[cH];simp
theorem Jt{i j:Str}:decide (V.str i=V.str j)=(i == j):=by
 rw[cH];simp
theorem JD{i j:Array UInt8}:decide (V.byt i=V.byt j)=(i.toList == j.toList):=by
 rw[cH];cases i;cases j;simp
section
variable {X:Cx}{a b c:Expr}{ta tb tc:TE}{pos:Pos}
theorem qr{oq:List (Addr×Obj)}{σ:St}{H:Hp}{s:Shared}{Q:VK}{k k':Bool}(I:Inv X oq σ H s) (q:Q (.bl k) H) (e:k=k'):EP X oq σ Q (.bool k') s:=by
 subst e;exact⟨.bl k,H,I,rfl,q⟩
theorem yR:Dd X (kS .Eq) Yt:=by
 intro oq s σ H x y v u Q I rx ry h;obtain⟨hs,q⟩:=h;cases x with
 |non =>
  cases rx;cases y with
  |non=>cases ry;exact PySem.EqNone.eq_none_none (qr I q (by simp))
  |bl j=>cases ry;exact PySem.EqNone.eq_none_bool (qr I q (by simp))
  |int j=>obtain⟨t',rfl⟩:=ry;exact PySem.EqNone.eq_none_int (qr I q (by simp))
  |str j=>obtain⟨t',rfl⟩:=ry;exact PySem.EqNone.eq_none_str (qr I q (by simp))
  |_=>exact absurd (show false=true from hs) aF
 |bl i =>
  cases rx;cases y with
  |non=>cases ry;exact PySem.EqNone.eq_bool_none (qr I q (by simp))
  |bl j=>cases ry;exact eq_bool (qr I q OA)
  |str j=>obtain⟨t',rfl⟩:=ry;exact PySem.EqMixed.eq_bool_str (qr I q (by simp))
  |_=>exact absurd (show false=true from hs) aF
 |int i =>
  obtain⟨t,rfl⟩:=rx;cases y with
  |non=>cases ry;exact PySem.EqNone.eq_int_none (qr I q (by simp))
  |int j=>obtain⟨t',rfl⟩:=ry;exact eq_int (qr I q Jq)
  |str j=>obtain⟨t',rfl⟩:=ry;exact PySem.EqMixed.eq_int_str (qr I q (by simp))
  |_=>exact absurd (show false=true from hs) aF
 |str i =>
  obtain⟨t,rfl⟩:=rx;cases y with
  |non=>cases ry;exact PySem.EqNone.eq_str_none (qr I q (by simp))
  |bl j=>cases ry;exact PySem.EqMixed.eq_str_bool (qr I q (by simp))
  |int j=>obtain⟨t',rfl⟩:=ry;exact PySem.EqMixed.eq_str_int (qr I q (by simp))
  |str j=>obtain⟨t',rfl⟩:=ry;exact eq_str (qr I q Jt)
  |_=>exact absurd (show false=true from hs) aF
 |byt i =>
  obtain⟨t,rfl⟩:=rx;cases y with
  |byt j=>obtain⟨t',rfl⟩:=ry;exact W.eq_bytes (qr I q JD)
  |_=>exact absurd (show false=true from hs) aF
 |_=>cases y <;> exact absurd (show false=true from hs) aF
theorem Et:Dd X (kS .NotEq) Yu:=by
 intro oq s σ H x y v u Q I rx ry h;obtain⟨hs,q⟩:=h;cases x with
 |non =>
  cases rx;cases y with
  |non=>cases ry;exact PySem.EqNone.ne_none_none (qr I q (by simp))
  |bl j=>cases ry;exact PySem.EqNone.ne_none_bool (qr I q (by simp))
  |int j=>obtain⟨t',rfl⟩:=ry;exact PySem.EqNone.ne_none_int (qr I q (by simp))
  |str j=>obtain⟨t',rfl⟩:=ry;exact PySem.EqNone.ne_none_str (qr I q (by simp))
  |_=>exact absurd (show false=true from hs) aF
 |bl i =>
  cases rx;cases y with
  |non=>cases ry;exact PySem.EqNone.ne_bool_none (qr I q (by simp))
  |bl j=>cases ry;exact ne_bool (qr I q (congrArg not OA))
  |str j=>obtain⟨t',rfl⟩:=ry;exact PySem.EqMixed.ne_bool_str (qr I q (by simp))
  |_=>exact absurd (show false=true from hs) aF
 |int i =>
  obtain⟨t,rfl⟩:=rx;cases y with
  |non=>cases ry;exact PySem.EqNone.ne_int_none (qr I q (by simp))
  |int j=>obtain⟨t',rfl⟩:=ry;exact ne_int (qr I q (congrArg not Jq))
  |str j=>obtain⟨t',rfl⟩:=ry;exact PySem.EqMixed.ne_int_str (qr I q (by simp))
  |_=>exact absurd (show false=true from hs) aF
 |str i =>
  obtain⟨t,rfl⟩:=rx;cases y with
  |non=>cases ry;exact PySem.EqNone.ne_str_none (qr I q (by simp))
  |bl j=>cases ry;exact PySem.EqMixed.ne_str_bool (qr I q (by simp))
  |int j=>obtain⟨t',rfl⟩:=ry;exact PySem.EqMixed.ne_str_int (qr I q (by simp))
  |str j=>obtain⟨t',rfl⟩:=ry;exact ne_str (qr I q (congrArg not Jt))
  |_=>exact absurd (show false=true from hs) aF
 |byt i =>
  obtain⟨t,rfl⟩:=rx;cases y with
  |byt j=>obtain⟨t',rfl⟩:=ry;exact W.ne_bytes (qr I q (congrArg not JD))
  |_=>exact absurd (show false=true from hs) aF
 |_=>cases y <;> exact absurd (show false=true from hs) aF
theorem RM:Dd X (kS .Lt) (Il λi j=>.bl (decide (i<j))):=PU λ_ _ _ _ _ _ _ q=>lt_int q
theorem VJ:Dd X (kS .LtE) (Il λi j=>.bl (decide (i<=j))):=PU λ_ _ _ _ _ _ _ q=>le_int q
theorem GP:Dd X (kS .Gt) (Il λi j=>.bl (decide (j<i))):=PU λ_ _ _ _ _ _ _ q=>gt_int q
theorem VT:Dd X (kS .GtE) (Il λi j=>.bl (decide (j<=i))):=PU λ_ _ _ _ _ _ _ q=>ge_int q
theorem qD(b:Expr) {op:CmpOp}(h:op ≠ .In:=by decide) (h2:op ≠ .NotIn:=by decide):mR op b=false:=by
 have e1:(op == CmpOp.In)=false:=by cases op <;> first|rfl|exact absurd rfl h
 have e2:(op == CmpOp.NotIn)=false:=by cases op <;> first|rfl|exact absurd rfl h2
 cases b <;> simp[mR,e1,e2]
theorem JT{op:CmpOp}{r:R2}(ho:Dd X (kS op) r) (ha:PE X a ta) (hb:PE X b tb) (hm:mR op b=false):PE X (.Compare a [op] [b] pos) (PD r ta tb):=by
 intro oq s σ H Q I h;exact wpAny_Compare1 (Uw ha hb I h λv u s2 x y H2 I2 rx ry q=>ho oq s2 σ H2 x y v u Q I2 rx ry q) hm
def Sh(t:TE):TT:=λσ H Q=>t σ H λx H'=>∃k,x = .bl k/\Q k H'
theorem pQ{op:CmpOp}{r:R2}(ho:Dd X (kS op) r) (ha:PE X a ta) (hb:PE X b tb) (hm:mR op b=false):PT X (.Compare a [op] [b] pos) (Sh (PD r ta tb)):=by
 intro oq s σ H Q I h;refine YZ (thn (ha oq s σ H _ I h) λv s1 ⟨x,H1,I1,r1,q1⟩=>thn (hb oq s1 σ H1 _ I1 q1) λu s2 ⟨y,H2,I2,r2,q2⟩ =>
  thn (ho oq s2 σ H2 x y v u _ I2 r1 r2 q2) λc s3 ⟨z,H3,I3,r3,k,e,q3⟩=>?_) hm
 subst e;cases r3;exact mh ⟨H3,I3,q3⟩
theorem EF:(ko:Nat)<2 ^ 63:=by rw[kN];decide
theorem zh{x:V}{us:List Value}(r:pO [x] us):∃u,us=[u]/\qc x u:=by
 cases r with
 |cons r1 r2=>cases r2;exact⟨_,rfl,r1⟩
theorem Sb{x y:V}{us:List Value}(r:pO [x,y] us):∃u w',us=[u,w']/\qc x u/\qc y w':=by
 cases r with
 |cons r1 r2 =>
  cases r2 with
  |cons r3 r4=>cases r4;exact⟨_,_,rfl,r1,r3⟩
theorem vg:zV X (.builtin "abs") (λxs H Q=>∃i,xs=[.int i]/\Q (.int (if i<0 then -i else i)) H):=by
 intro oq s σ H xs us Q I r h;obtain⟨i,rfl,q⟩:=h;obtain⟨u,rfl,t,rfl⟩:=zh r;exact call_abs_int λu tk=>⟨.int (if i<0 then -i else i),H,I.tok _,⟨_,rfl⟩,q⟩
def Vz(K:W.Frag) (x:V) (H:Hp) (n:Nat):Prop :=
 match x with
 | .str y=>y.length<=ko/\n=y.length
 | .byt y=>y.size<=ko/\n=y.size
 | .ref p=>(∃xs,tu K H p xs/\n=xs.length)∨∃xs,DP K H p xs/\n=xs.length
 |_=>False
theorem qo:zV X (.builtin "len") (λxs H Q=>∃x n,xs=[x]/\Vz X.K x H n/\Q (.int n) H):=by
 intro oq s σ H xs us Q I r h;obtain⟨x,n,rfl,e,q⟩:=h;obtain⟨u,rfl,rx⟩:=zh r;have hl:=EF;have hs:ko=16777216:=kN;cases x with
 |str y =>
  obtain⟨t,rfl⟩:=rx;obtain⟨hy,e'⟩:y.length<=ko/\n=y.length:=e;subst e';exact len_str (by lia) ⟨.int _,H,I.tok _,⟨_,rfl⟩,q⟩
 |byt y =>
  obtain⟨t,rfl⟩:=rx;obtain⟨hy,e'⟩:y.size<=ko/\n=y.size:=e;subst e';exact W.len_bytes (by lia) ⟨.int _,H,I.tok _,⟨_,rfl⟩,q⟩
 |ref p =>
  cases rx;have e':(∃xs,tu X.K H p xs/\n=xs.length)∨∃xs,DP X.K H p xs/\n=xs.length:=e;rcases e' with ⟨xs,hx,e'⟩|⟨xs,hx,e'⟩
  .subst e';obtain⟨its,r',pl,hz⟩:=I.list hx;have hlen:=r'.length;exact Calls.call_len_list pl.isList (by simp only[aB];lia) ⟨.int xs.length,H,I.tok _,⟨_,by simp only[aB];rw[hlen]⟩,q⟩
  .subst e';obtain⟨its,r',pl,hz⟩:=I.tuple hx;have hlen:=r'.length;exact len_tuple pl (by simp only[aB];lia) ⟨.int xs.length,H,I.tok _,⟨_,by simp only[aB];rw[hlen]⟩,q⟩
 |_=>exact(show False from e).elim
end
theorem AA.some_of{v:V}{o:Option Value}(r:AA (some v) o):∃u,o=some u/\qc v u:=by
 cases o with
 |none=>exact(show False from r).elim
 |some u=>exact⟨u,rfl,r⟩
theorem AA.none_of{o:Option Value}(r:AA none o):o=none:=by
 cases o with
 |none=>rfl
 |some u=>exact(show False from r).elim
structure vP (k:Nat) (A:Around):Prop where
 hd:A.handled=none
 dp:A.depth+3*k+5<recursionLimit
 un:A.units+16*k+200<mC
theorem vP.mono{j k:Nat}{A:Around}(r:vP k A) (h:j<=k):vP j A:=⟨r.hd,by have:=r.dp;lia,by have:=r.un;lia⟩
theorem vP.deeper{k:Nat}{A:Around}(r:vP (k+1) A) (env:Env):vP k (A.deeper env) :=
 ⟨r.hd,by have:=r.dp;show A.depth+1+3*k+5<_;lia,by have:=r.un;show A.units+3+16*k+200<_;lia⟩
theorem vP.depth{k:Nat}{A:Around}(r:vP k A):A.depth<recursionLimit:=by have:=r.dp;lia
theorem vP.units{k:Nat}{A:Around}(r:vP k A):A.units+64<mC:=by have:=r.un;lia
def xQ:TA:=λ_ H Q=>Q [] H
def uM(ta:TE) (tr:TA):TA:=λσ H Q=>ta σ H λx H1=>tr σ H1 λxs H2=>Q (x::xs) H2
section
variable {X:Cx}{e:Expr}{es:List Expr}{te:TE}{t:TA}{pos:Pos}
theorem oy:PA X [] xQ:=λ_ _ _ _ H Q I h=>Calls.spliced_nil ⟨[],H,I,.nil,h⟩
theorem ot(ha:PE X e te) (hr:PA X es t) (hs:kx (e::es) X.env=(false,eval e X.env)::kx es X.env:=by rfl):PA X (e::es) (uM te t):=by
 intro pos oq s σ H Q I h;rw[hs];show kf _ _ (spliced ((false,eval e X.env)::lF pos (kx es X.env))) _ _ s;refine Calls.spliced_cons (thn (ha oq s σ H _ I h) λu s1 ⟨x,H1,I1,r1,q1⟩=>?_)
 exact thn (hr pos oq s1 σ H1 _ I1 q1) λus s2 ⟨xs,H2,I2,r2,q2⟩=>⟨x::xs,H2,I2,.cons r1 r2,q2⟩
def Ve(t:TA):TE:=λσ H Q=>t σ H λxs H1=>xs.length<=ko/\∀p,H1 p=none->Q (.ref p) (qH H1 p (.tup xs))
def Ul(t:TA):TE:=λσ H Q=>t σ H λxs H1=>xs.length<=ko/\∀p,H1 p=none->Q (.ref p) (qH H1 p (.lst xs))
theorem FO{x1} (h:PA X es t):PE X (.Tuple es x1 pos) (Ve t):=by
 intro oq s σ H Q I hq;refine wpAny_Tuple_spliced (thn (h pos oq s σ H _ I hq) λus s1 ⟨xs,H1,I1,r,z,q⟩=>⟨by rw[←r.length];exact z,?_⟩)
 have hf:H1 s1.heap.objs.size=none:=I1.hok.fresh (ai _);refine⟨.ref s1.heap.objs.size,qH H1 s1.heap.objs.size (.tup xs),I1.laid (t':=s1.toks) (λb u e=>ae _ e) (ai _) ?_,rfl,q _ hf⟩
 exact⟨z,us,r,⟨_,aC _ rfl,rfl,_,rfl⟩⟩
theorem qC(h:PA X es t):PE X (.List es pos) (Ul t):=by
 intro oq s σ H Q I hq;refine wpAny_List_spliced (thn (h pos oq s σ H _ I hq) λus s1 ⟨xs,H1,I1,r,z,q⟩=>⟨by rw[←r.length];exact z,?_⟩)
 have hf:H1 s1.heap.objs.size=none:=I1.hok.fresh (ai _);refine⟨.ref s1.heap.objs.size,qH H1 s1.heap.objs.size (.lst xs),I1.laid (t':=s1.toks) (λb u e=>ae _ e) (ai _) ?_,rfl,q _ hf⟩
 exact⟨z,us,0,r,aC _ rfl⟩
end
abbrev Sp:=List V->Hp->VK->XK->Prop
abbrev Od:=List Env->Hp->Shared->XK->Value->Shared->Prop
structure Rn (P:kq) (w:kr) (K:W.Frag) (mg:Str->Option Value) (base:Heap) (A:Around) (outer:List Env) (s:Shared) (H:Hp):Prop where
 frames:A.frames=some outer
 mod:Mod K mg base
 bs:∀b o,base.get? b=some o->s.heap.get? b=some o/\H b=none
 bsz:base.objs.size<=s.heap.objs.size
 funs:s.heap.FunFrames base outer
 frf:∀b∈OZ outer,H b=none
 hok:Aw P w H s.heap
 bare:mX s.gens
def CE(outer:List Env) (P:kq) (w:kr) (H:Hp) (s:Shared) (Q:VK) (u:Value) (s':Shared):Prop :=
 ∃v H',s'.os=s.os/\mX s'.gens/\Un (OZ outer) [] H H' s.heap s'.heap/\Aw P w H' s'.heap/\qc v u/\Q v H'
def CR(CX:Od) (outer:List Env) (P:kq) (w:kr) (H:Hp) (s:Shared) (Q:VK) (E:XK) (r:Y9) (s':Shared):Prop :=
 match r with
 | .ok (.ret u)=>CE outer P w H s Q u s'
 | .ok _=>False
 | .error e=>CX outer H s E e s'
structure B8 (P:kq) (w:kr) (K:W.Frag) (mg:Str->Option Value) (base:Heap) (CX:Od) (k:Nat) (f:Addr) (fd:kG) (ps:List Str) (sp:Sp):Prop where
 len:∀vs H Q E,sp vs H Q E->vs.length=ps.length
 run:∀(A:Around) (outer:List Env) (s:Shared) (H:Hp) (args:Args) (us:List Value) (vs:List V) (Q:VK) (E:XK),vP k A->Rn P w K mg base A outer s H->Y8 s fd args (ps.zip us)->pO vs us->sp vs H Q E ->
  lO (ki P w) A (.call (.ref f) args) (CR CX outer P w H s Q E) s
theorem B8.imp{P:kq}{w:kr}{K:W.Frag}{mg:Str->Option Value}{base:Heap}{CX:Od}{k:Nat}{f:Addr}{fd:kG}{ps:List Str}{sp sp':Sp}(F:B8 P w K mg base CX k f fd ps sp)
  (h:∀vs H Q E,sp' vs H Q E->sp vs H Q E):B8 P w K mg base CX k f fd ps sp' :=
 ⟨λvs H Q E q=>F.len vs H Q E (h _ _ _ _ q),λA outer s H args us vs Q E hr he hb hv hs=>F.run A outer s H args us vs Q E hr he hb hv (h _ _ _ _ hs)⟩
section
variable {X:Cx}{oq:List (Addr×Obj)}{σ:St}{H:Hp}{s s':Shared}
theorem Inv.env0(I:Inv X oq σ H s):Rn X.prog X.w X.K X.mg X.base X.A X.stack s H :=
 ⟨I.ok.frames,I.ok.mod,I.bs,bQ I.ok.bsz I.sz,I.stack,I.stkFree,I.hok,I.bare⟩
theorem Inv.after{Q:VK}{u:Value}(I:Inv X oq σ H s) (h:CE X.stack X.prog X.w H s Q u s'):EP X oq σ Q u s':=by
 obtain⟨v,H',os,bare,un,hok,r,q⟩:=h;obtain⟨hh,g,d,t,os'⟩:=s';obtain rfl:os'=s.os:=os;exact⟨v,H',I.call (h':=hh) (g':=g) (d':=d) (t':=t) (ch:=[]) un hok bare (λb z=>absurd z (by simp)),r,q⟩
end
def Gj(sp:Sp) (dvs:List V) (E:XK) (t:TA):TE:=λσ H Q=>t σ H λvs H1=>sp (vs++dvs) H1 Q E
def Ab(K:W.Frag) (fd:kG) (ps:List Str) (ds:List Value):Prop :=
 ∀(s:Shared) (us:List Value),K.In s.heap->(us++ds).length=ps.length->Y8 s fd ⟨us,[]⟩ (ps.zip (us++ds))
theorem Ab.all{K:W.Frag}{fd:kG}{ps:List Str}(h:∀us:List Value,us.length=ps.length->bindArgs fd ⟨us,[]⟩=pure (ps.zip us)):Ab K fd ps []:=λs us _ hl=>by
 rw[aNq]at hl ⊢;exact .of_eq (h us hl)
def HX(CX:Od) (X:Cx) (E:XK):Prop:=∀(oq:List (Addr×Obj)) (σ:St) (H:Hp) (s:Shared) (e:Value) (s':Shared),Inv X oq σ H s->CX X.stack H s E e s'->X.xe e s'
section
variable {X:Cx}{CX:Od}{k:Nat}{f C:Addr}{fd:kG}{ps:List Str}{sp:Sp}{dvs:List V}{ds:List Value}{E:XK}{x m:Str}{p pos apos:Pos}{e o:Expr}{es:List Expr}{ta:TE}{t:TA}
theorem SE{oq:List (Addr×Obj)}{σ:St}{H:Hp}{s:Shared}{Q:VK}{us:List Value}{vs:List V}(F:B8 X.prog X.w X.K X.mg X.base CX k f fd ps sp) (hr:vP k X.A) (hb:Ab X.K fd ps ds) (hd:pO dvs ds) (hx:HX CX X E)
  (I:Inv X oq σ H s) (r:pO vs us) (h:sp (vs++dvs) H Q E):kf (ki X.prog X.w) X.A (call (.ref f) us) (EP X oq σ Q) X.xe s:=by
 have r2:pO (vs++dvs) (us++ds):=r.append hd;have hl:(us++ds).length=ps.length:=by rw[←r2.length];exact F.len _ _ _ _ h
 refine wpAny_call (ni (F.run X.A X.stack s H ⟨us,[]⟩ (us++ds) (vs++dvs) Q E hr I.env0 (hb s us I.kIn hl) r2 h) λr s' hq=>?_)
 cases r with
 |error e=>exact hx oq σ H s e s' I hq
 |ok fl =>
  cases fl with
  |ret u=>exact I.after hq
  |next=>exact False.elim hq
  |brk=>exact False.elim hq
  |cont=>exact False.elim hq
theorem PP(F:B8 X.prog X.w X.K X.mg X.base CX k f fd ps sp) (hr:vP k X.A) (hg:Gl X x) (hm:X.mg x=some (.ref f)) (hk:W.keepIn X.K (.ref f)=true) (hb:Ab X.K fd ps ds) (hd:pO dvs ds) (hx:HX CX X E)
  (ha:PA X (e::es) t) (hdb:(x == ("__debug__" : Str))=false:=by decide) (he:kx (e::es) X.env=(false,eval e X.env)::kx es X.env:=by rfl) (hpl:(lF pos (kx es X.env)).any (·.1)=false:=by rfl) :
  PE X (.Call (.Name x p) (e::es) [] pos) (Gj sp dvs E t):=by
 intro oq s σ H Q I h;refine lQ (P1 I hg hm ?_ hdb);refine W.callWith_K (h₀:=X.base) I.ok.mod.kin hk (thn (ha pos oq s σ H _ I h) λus s1 ⟨vs,H1,I1,r,q⟩=>⟨I1.kIn,?_⟩) he hpl
 exact SE F hr hb hd hx I1 r q
end
structure pH (N P:List Str) (sc:mD):Prop where
 kind:sc.kind = .function
 co:sc.isCoroutine=false
 gen:sc.isGenerator=false
 nd:N.Nodup
 pre:N.take P.length=P
 par:∀x∈P,sc.names.lookup x=some .local∨sc.names.lookup x=some .cell
 nofree:∀y∈sc.names,y.2 ≠ .free
theorem D3{kindOf:Str->Option NameKind}{x:Str}:∀{binds:List (Str×Value)}{m:Str->Option Value},(∀v,(x,v)∉binds)->bindL kindOf binds m x=m x
 | [],_,_=>rfl
 | (n,v)::r,m,h=>by
  unfold bindL;rw[D3 λw hw=>h w (mCo _ hw)]
  split
  .have:x≠n:=by rintro rfl;exact h v aj
   simp[this]
  .rfl
theorem Er{kindOf:Str->Option NameKind}{x:Str}:∀{binds:List (Str×Value)}{m:Str->Option Value},(∀v,(x,v)∉binds)->bindC kindOf binds m x=m x
 | [],_,_=>rfl
 | (n,v)::r,m,h=>by
  unfold bindC;rw[Er λw hw=>h w (mCo _ hw)]
  split
  .rfl
  .have:x≠n:=by rintro rfl;exact h v aj
   simp[this]
theorem DM{kindOf:Str->Option NameKind}{x:Str}{v:Value}:∀{P:List Str}{vs:List Value}{i:Nat}{m:Str->Option Value},P.Nodup->P[i]?=some x->vs[i]?=some v->kindOf x=some .local ->
  bindL kindOf (P.zip vs) m x=some v
 | [],_,_,_,_,h,_,_=>by simp at h
 |_::_,[],_,_,_,_,h,_=>by simp at h
 |p::P,w::vs,0,m,nd,h1,h2,hk=>by
  simp at h1 h2;subst h1;subst h2;show bindL kindOf ((p,w)::P.zip vs) m p=_;unfold bindL;rw[D3 λv hv=>(aA.mp nd).1 (ir hv).1,pe hk]
  simp
 |p::P,w::vs,i+1,m,nd,h1,h2,hk=>by
  show bindL kindOf ((p,w)::P.zip vs) m x=_;unfold bindL;exact DM (i:=i) (aA.mp nd).2 (by simpa using h1) (by simpa using h2) hk
theorem DW{kindOf:Str->Option NameKind}{x:Str}{v:Value}:∀{P:List Str}{vs:List Value}{i:Nat}{m:Str->Option Value},P.Nodup->P[i]?=some x->vs[i]?=some v->kindOf x≠some .local ->
  bindC kindOf (P.zip vs) m x=some v
 | [],_,_,_,_,h,_,_=>by simp at h
 |_::_,[],_,_,_,_,h,_=>by simp at h
 |p::P,w::vs,0,m,nd,h1,h2,hk=>by
  simp at h1 h2;subst h1;subst h2;show bindC kindOf ((p,w)::P.zip vs) m p=_;unfold bindC;rw[Er λv hv=>(aA.mp nd).1 (ir hv).1,pD hk]
  simp
 |p::P,w::vs,i+1,m,nd,h1,h2,hk=>by
  show bindC kindOf ((p,w)::P.zip vs) m x=_;unfold bindC;exact DW (i:=i) (aA.mp nd).2 (by simpa using h1) (by simpa using h2) hk
def yG(N:List Str) (vs:List V):St:=vs.map some++aK (N.length-vs.length) none
def H0(CX:Od) (P:kq) (w:kr) (K:W.Frag) (mg:Str->Option Value) (base:Heap) (N:List Str) (qual:Str) (scope:mD) (f:Addr) (cd:Value) (A:Around) (outer:List Env) (s:Shared) (H:Hp) (E:XK):Cx where
 prog:=P
 w:=w
 K:=K
 mg:=mg
 base:=base
 A:=A.deeper (mN qual scope s.heap.objs.size f cd)
 N:=N
 s₀:=s
 H₀:=H
 env:=mN qual scope s.heap.objs.size f cd
 outer:=outer
 stack:=mN qual scope s.heap.objs.size f cd::outer
 ex:=[]
 calm:=true
 fn:=λ_=>true
 pn:=[]
 xe:=λe s'=>kf (ki P w) (A.deeper (mN qual scope s.heap.objs.size f cd)) (leaving (mN qual scope s.heap.objs.size f cd) e) (λ_ s''=>CX outer H s E e s'') (λe' s''=>CX outer H s E e' s'') s'
theorem G7{sc:mD}{n:Nat}{x:Str}(h:sc.names.lookup x=some .cell):∃c,(cellsFrom n sc.names []).lookup x=some c:=by
 have q:=W.cellsFrom_some sc.names n [] (.inl h);exact Option.isSome_iff_exists.mp q
theorem Lj{CX:Od}{P:kq}{w:kr}{K:W.Frag}{mg:Str->Option Value}{base:Heap}{N ps:List Str}{qual:Str}{scope:mD}{f:Addr}{cd:Value}{A:Around}{outer:List Env}{s s1:Shared}{H:Hp}{E:XK}{us:List Value}{vs:List V}
  (S:pH N ps scope) (hd:A.handled=none) (e0:Rn P w K mg base A outer s H) (hl:vs.length=ps.length) (r:pO vs us)
  (x:InCallC s s.heap.objs.size (bindL (mN qual scope s.heap.objs.size f cd).kindOf (ps.zip us) λ_=>none) (cellsFrom (s.heap.objs.size+1) scope.names []) (bindC (mN qual scope s.heap.objs.size f cd).kindOf (ps.zip us) λ_=>none) s1) :
  Inv (H0 CX P w K mg base N qual scope f cd A outer s H E) [] (yG N vs) H s1:=by
 have hpl:ps.length<=N.length:=by have:=congrArg bD S.pre;rw[lTq]at this;lia
 obtain⟨h1,tk,rfl,hk⟩:=x.done;have noA:∀b:Addr,b∉(H0 CX P w K mg base N qual scope f cd A outer s H E).ex:=λb z=>absurd (show b∈([]:List Addr) from z) (by simp)
 refine⟨⟨e0.mod,S.kind,rfl,rfl,ai _,λy z c h1 h2=>?_,λy hy=>?_,λy c _ h=>?_,λ_=>hd,Around.frames_deeper e0.frames,.inr ⟨rfl,rfl⟩,λb z=>absurd z (noA b),e0.bs,e0.bsz,λb _ _=>noA b,λb z=>absurd z (noA b),e0.funs,e0.frf⟩,
  rfl,e0.bare,Un.kept hk,⟨_,x.toInCall.ns,λi y v h1 h2 h3=>?_⟩,λy c h=>⟨_,x.cell y c h⟩,e0.hok.fresh (ai _),λy c h=>?_,λp hp=>absurd (show p∈([]:List (Addr×Obj)) from hp) (by simp),e0.hok.kept hk,?_⟩
 .exact name_of_addr x.apart (PySem.mem_of_lookup h1) (PySem.mem_of_lookup h2)
 .have hy:scope.names.lookup y=some .cell∨scope.names.lookup y=some .free:=hy;rcases hy with hy|hy
  .exact G7 hy
  .exact absurd rfl (S.nofree _ (PySem.mem_of_lookup hy))
 .exact bA (x.above y c (PySem.mem_of_lookup h))
 .have hi:i<vs.length:=by
   unfold yG at h2
   by_cases hi:i<vs.length
   .exact hi
   .rw [gYq (by simpa using hi)]at h2
    rw[dq]at h2;split at h2 <;> cases h2
  have ha:vs[i]?=some v:=by
   unfold yG at h2;rw[gZq (by simpa using hi),gMq]at h2
   cases e:vs[i]? with
   |none=>rw[e]at h2;cases h2
   |some a=>rw[e]at h2;cases h2;rfl
  obtain⟨u,hu,rv⟩:=r.get ha;have hp:ps[i]?=some y:=by
   rw[←S.pre,cV (by lia)];exact h1
  have ndP:ps.Nodup:=by rw[←S.pre];exact S.nd.sublist (bK _ _)
  refine⟨u,rv,?_⟩;rcases S.par y (mGq hp) with k|k
  .exact .inl ⟨k,DM ndP hp hu k⟩
  .obtain ⟨c,e⟩:=G7 (n:=s.heap.objs.size+1) k;refine .inr ⟨.inl k,c,e,?_⟩;have q:=x.cell y c e;rw[DW ndP hp hu (by show scope.names.lookup y≠_;rw[k];decide)]at q
   exact q
 .exact e0.hok.fresh (bA (x.above y c (PySem.mem_of_lookup h)))
 .unfold yG;show _=N.length;rw[lAq,lMq,eJ];lia
theorem VL{CX:Od}{P:kq}{w:kr}{K:W.Frag}{mg:Str->Option Value}{base:Heap}{k:Nat}{f:Addr}{name qual:Str}{params:Arguments}{body:List Stmt}{scope:mD}{dV kV doc pm yO ct oc:Value}{an od:Option Addr}
  {osl:Array (Option Value)}{N ps:List Str}{sp:Sp}(lk:K.lookup f=some ⟨oc,od,.func (W.fnOf name qual params body scope dV kV doc pm an yO ct),osl⟩) (hcd:W.codeIn K yO qual=true) (S:pH N ps scope)
  (len:∀vs H Q E,sp vs H Q E->vs.length=ps.length)
  (hbody:∀(A:Around) (outer:List Env) (s:Shared) (H:Hp) (vs:List V) (Q:VK) (E:XK),vP k (A.deeper (mN qual scope s.heap.objs.size f yO))->sp vs H Q E ->
   ∃t,Jm (H0 CX P w K mg base N qual scope f yO A outer s H E) body t/\t { nx:=λ_ H'=>Q .non H',rt:=Q } (yG N vs) H) :
  B8 P w K mg base CX (k+1) f (W.fnOf name qual params body scope dV kV doc pm an yO ct) ps sp:=by
 refine⟨len,λA outer s H args us vs Q E hr e0 hb r hsp=>?_⟩
 have hl:=len _ _ _ _ hsp;have KX:K.In s.heap:=e0.mod.kin.keeps λb o e=>(e0.bs b o e).1
 have lim:s.heap.NoLimit:=e0.mod.nolimit.keeps λb o e=>(e0.bs b o e).1
 have hkind:∀y∈ps.zip us,scope.names.lookup y.1=some .local∨(scope.names.lookup y.1=some .cell/\((cellsFrom (s.heap.objs.size+1) scope.names []).lookup y.1).isSome=true):=λ⟨n,v⟩ hy=>by
  rcases S.par n (ir hy).1 with q|q
  .exact .inl q
  .exact .inr ⟨q,W.cellsFrom_some _ _ _ (.inl q)⟩
 refine codeAny_call_function hr.depth (KX _ _ lk) rfl S.co S.gen rfl (W.codeRec_of KX hcd) (hb _ _ _ _ ?_);refine wpAny_newFunctionEnv_cells S.kind hkind λenv he s1 x=>?_
 subst he;refine⟨lim.keeps x.toInCall.keep,codeAny_func ?_⟩;obtain⟨t,ht,hq⟩:=hbody A outer s H vs Q E (hr.deeper _) hsp;have I:Inv (H0 CX P w K mg base N qual scope f yO A outer s H E) [] (yG N vs) H s1:=Lj S hr.hd e0 hl r x;refine kJ (ht [] s1 (yG N vs) H _ I hq) (λfl s' hs=>?_) λe s' hs=>hs
 have fin:∀{σ':St}{H':Hp}{v:V}{u:Value},Inv (H0 CX P w K mg base N qual scope f yO A outer s H E) [] σ' H' s'->qc v u->Q v H'->CE outer P w H s Q u s' :=
  λ{σ' H' v u} J rv q=>⟨v,H',J.os,J.bare,J.base,J.hok,rv,q⟩
 cases fl with
 |ret u =>
  obtain⟨v,σ',H',J,rv,q⟩:=hs;exact fin J rv q
 |next =>
  obtain⟨σ',H',J,q⟩:=hs;exact fin (v:=V.non) (u:=fP) J rfl q
 |brk =>
  obtain⟨_,_,_,q⟩:=hs;exact False.elim q
 |cont =>
  obtain⟨_,_,_,q⟩:=hs;exact False.elim q
section
variable {X:Cx}{x:Str}{p pos:Pos}{e:Expr}{es:List Expr}{t:TA}{id T:String}{r:List V->Hp->VK->Prop}
def JH(r:List V->Hp->VK->Prop) (t:TA):TE:=λσ H Q=>t σ H λvs H1=>r vs H1 Q
theorem oX(hc:zV X (.builtin id) r) (hg:Gl X x) (hm:X.mg x=none) (hv:mL x=some (.builtin id)) (ha:PA X (e::es) t) (hn:x ≠ "__name__" := by decide) (hdb:(x == ("__debug__" : Str))=false:=by decide)
  (he:kx (e::es) X.env=(false,eval e X.env)::kx es X.env:=by rfl) (hpl:(lF pos (kx es X.env)).any (·.1)=false:=by rfl):PE X (.Call (.Name x p) (e::es) [] pos) (JH r t):=by
 intro oq s σ H Q I h;refine lQ (xk I hg hm hv ?_ hn hdb);exact gm (thn (ha pos oq s σ H _ I h) λus s1 ⟨vs,H1,I1,r1,q1⟩=>hc oq s1 σ H1 vs us Q I1 r1 q1) he hpl
theorem zR(hc:zV X (.type T) r) (hg:Gl X x) (hm:X.mg x=none) (hv:mL x=some (.type T)) (ha:PA X (e::es) t) (hn:x ≠ "__name__" := by decide) (hdb:(x == ("__debug__" : Str))=false:=by decide)
  (he:kx (e::es) X.env=(false,eval e X.env)::kx es X.env:=by rfl) (hpl:(lF pos (kx es X.env)).any (·.1)=false:=by rfl):PE X (.Call (.Name x p) (e::es) [] pos) (JH r t):=by
 intro oq s σ H Q I h;refine lQ (xk I hg hm hv ?_ hn hdb);exact bN (thn (ha pos oq s σ H _ I h) λus s1 ⟨vs,H1,I1,r1,q1⟩=>hc oq s1 σ H1 vs us Q I1 r1 q1) he hpl
end
end L2
namespace HT
open PySem PyProof.Rows
def tF:List Int->List Int->Bool
 | [],[]=>false
 | [],_::_=>true
 |_::_,[]=>false
 |x::xs,y::ys=>if x=y then tF xs ys else decide (x<y)
theorem yy(x y:Int) (xs ys:List Int):tF (x::xs) (y::ys)=if x=y then tF xs ys else decide (x<y):=rfl
theorem DC:tF [] []=false:=rfl
theorem CA(y:Int) (ys:List Int):tF [] (y::ys)=true:=rfl
theorem Du(x:Int) (xs:List Int):tF (x::xs) []=false:=rfl
theorem Oh(A:Around) (s:Shared) (a:Int) (t:Tok) (c:Int) (u:Tok):∃e,SeqAt.EqAt A s (.int a t) (.int c u) e/\(e=true↔a=c) :=
 ⟨(a == c),SeqAt.EqAt.int_int a t c u,by simp⟩
theorem MQ(A:Around) (s:Shared) (a:Int) (t:Tok) (c:Int) (u:Tok) (prog:kq) (w:kr) (E:Value->Shared->Prop) (Q:Value->Shared->Prop) (h:Q (.bool (decide (a<c))) s) :
  kf (ki prog w) A (richCompare .Lt (.int a t) (.int c u)) Q E s :=
 (jX h:kf (ki prog w) A (kS .Lt (.int a t) (.int c u)) Q E s)
section
variable {prog:kq}{w:kr}{A:Around}{E:Value->Shared->Prop}{s:Shared}
def Ek(n d:Nat):Option Int->Nat
 |none=>d
 |some v=>if v<0 then (v+(n:Int)).toNat else min v.toNat n
theorem Gu(n d:Nat):Ek n d none=d:=rfl
theorem Ca(n d k:Nat):Ek n d (some (k:Int))=min k n:=by
 show (if (k:Int)<0 then ((k:Int)+(n:Int)).toNat else min (k:Int).toNat n)=min k n
 rw[pD (by lia),br]
end
end HT
namespace L2
open PySem PySem.Spec PyProof.Rows
abbrev TO:=St->Hp->(Option Int->Hp->Prop)->Prop
def PO(X:Cx) (e:Option Expr) (t:TO):Prop :=
 ∀(oq:List (Addr×Obj)) (s:Shared) (σ:St) (H:Hp) (Q:Option Int->Hp->Prop),Inv X oq σ H s->t σ H Q ->
  kf (ki X.prog X.w) X.A (evalPart e X.env) (λu s'=>∃o H',Inv X oq σ H' s'/\IsPart u o/\Q o H') X.xe s
def Ki:TO:=λ_ H Q=>Q none H
def RX(t:TE):TO:=λσ H Q=>t σ H λx H1=>∃i,x = .int i/\Q (some i) H1
theorem As{ns:List Int}:∀{us:List Value},pO (ns.map V.int) us->kH us ns:=by
 induction ns with
 |nil=>intro us r;rw[bX]at r;cases r;exact .nil
 |cons n ns ih =>
  intro us r;rw[ao]at r;cases r with
  |cons r1 r2 =>
   obtain⟨t,e⟩:=r1;subst e;exact .cons n t (ih r2)
section
variable {X:Cx}{e:Expr}{te:TE}{lo hi:Option Expr}{tl th:TO}{pos p2:Pos}
theorem vf:PO X none Ki:=by
 intro oq s σ H Q I h;rw[evalPart_none];exact jZ ⟨none,H,I,.none,h⟩
theorem tK(h:PE X e te):PO X (some e) (RX te):=by
 intro oq s σ H Q I hw;rw[evalPart_some];refine thn (h oq s σ H _ I hw) λu s1 ⟨x,H1,I1,r1,q1⟩=>?_
 obtain⟨i,rfl,q⟩:=q1;obtain⟨t,rfl⟩:=r1;exact⟨some i,H1,I1,.int i t,q⟩
def Yn(X:Cx) (r:V->Option Int->Option Int->Hp->VK->Prop):Prop :=
 ∀(oq:List (Addr×Obj)) (s:Shared) (σ:St) (H:Hp) (x:V) (v vl vu:Value) (lo hi:Option Int) (sl:Addr) (Q:VK),Inv X oq σ H s->qc x v->s.heap.IsSliceOf sl vl vu .none->IsPart vl lo->IsPart vu hi->r x lo hi H Q ->
  ∃T id,nq (.type T) "__getitem__" = pure (some (.builtin id))/\s.TypeIs v T/\kf (ki X.prog X.w) X.A (Y6 v (.ref sl)) (EP X oq σ Q) X.xe s
def Yh(r:V->Option Int->Option Int->Hp->VK->Prop) (te:TE) (tl th:TO):TE:=λσ H Q=>te σ H λx H1=>tl σ H1 λl H2=>th σ H2 λu H3=>r x l u H3 Q
theorem sY{r:V->Option Int->Option Int->Hp->VK->Prop}(hr:Yn X r) (he:PE X e te) (hl:PO X lo tl) (hu:PO X hi th):PE X (.Subscript e (.Slice lo hi none p2) pos) (Yh r te tl th):=by
 intro oq s σ H Q I h;refine Subscript_ (thn (he oq s σ H _ I h) λv s1 ⟨x,H1,I1,r1,q1⟩=>?_)
 refine wpAny_Slice (thn (hl oq s1 σ H1 _ I1 q1) λvl s2 ⟨l,H2,I2,pl,q2⟩=>thn (hu oq s2 σ H2 _ I2 q2) λvu s3 ⟨u,H3,I3,pu,q3⟩=>?_)
 rw[evalPart_none];refine jZ ?_;have I4:Inv X oq σ H3 { s3 with heap:=s3.heap.push { cls:=.type "slice", data:=.fields #[vl,vu,.none] } }:=I3.kept (t':=s3.toks) λb ob q=>ae _ q
 obtain⟨T,id,hT,ht,hg⟩:=hr oq { s3 with heap:=s3.heap.push { cls:=.type "slice", data:=.fields #[vl,vu,.none] } } σ H3 x v vl vu l u s3.heap.objs.size Q I4 r1 (Heap.IsSliceOf.new ..) pl pu q3
 show kf (ki X.prog X.w) X.A (Zg e (.Slice lo hi none p2) v (.ref s3.heap.objs.size)) (EP X oq σ Q) X.xe { s3 with heap:=s3.heap.push { cls:=.type "slice", data:=.fields #[vl,vu,.none] } }
 exact tail_any (ops:=[.ref s3.heap.objs.size,v]) ht hT hg (by with_unfolding_all rfl)
def HN(xs:List V) (lo hi:Option Int):List V:=(xs.drop (HT.Ek xs.length 0 lo)).take (HT.Ek xs.length xs.length hi-HT.Ek xs.length 0 lo)
theorem GN(xs:List V) (lo hi:Option Int):(HN xs lo hi).length<=xs.length:=by
 unfold HN;rw[lTq,aL];lia
end
def Eb(n:Nat) (i:Int):Option Nat:=if 0<=i then (if i<n then some i.toNat else none) else if -(n:Int)<=i then some (i+n).toNat else none
def atI{α:Type}(xs:List α) (i:Int):Option α:=(Eb xs.length i).bind λj=>xs[j]?
theorem Fq{n:Nat}{i:Int}{j:Nat}(h:Eb n i=some j):Zp i n=some j/\j<n/\-(n:Int)<=i/\i<n:=by
 unfold Eb at h
 by_cases h0:0<=i
 .rw [pe h0]at h
  by_cases h1:i<n
  .rw [pe h1]at h;have e:i.toNat=j:=aJ.inj h;exact⟨by rw[Zu h0 h1,e],by lia,by lia,h1⟩
  .rw [pD h1]at h;cases h
 .rw [pD h0]at h
  by_cases h1:-(n:Int)<=i
  .rw [pe h1]at h;have e:(i+n).toNat=j:=aJ.inj h;exact⟨by rw[Zj (by lia) h1,e],by lia,h1,by lia⟩
  .rw [pD h1]at h;cases h
theorem J0{α:Type}{xs:List α}{i:Int}{v:α}(h:atI xs i=some v):∃j,Zp i xs.length=some j/\xs[j]?=some v/\j<xs.length/\-(xs.length:Int)<=i/\i<xs.length:=by
 unfold atI at h;cases e:Eb xs.length i with
 |none=>rw[e]at h;cases h
 |some j =>
  rw[e]at h;obtain⟨h1,h2,h3,h4⟩:=Fq e;exact⟨j,h1,h,h2,h3,h4⟩
theorem tO{α:Type}{xs:List α}{j:Nat}{v:α}(h:xs[j]?=some v):atI xs (j:Int)=some v:=by
 have hj:j<xs.length:=(gSq.mp h).1;have e:Eb xs.length (j:Int)=some j:=by
  unfold Eb;rw[pe (by lia),pe (by lia)];simp
 unfold atI;rw[e];exact h
theorem MC{α:Type}(xs:List α) (v:α):atI (xs++[v]) (-1)=some v:=by
 have hl:(xs++[v]).length=xs.length+1:=by simp
 have e:Eb (xs++[v]).length (-1)=some xs.length:=by
  unfold Eb;rw[hl,pD (by decide),pe (by lia)]
  congr 1;lia
 unfold atI;rw[e];show (xs++[v])[xs.length]?=some v;simp
def Qk(b:Expr):Prop:=∀o i,YY b false o i=operate [o,i] (Y6 o i)
def W2(X:Cx) (r:R2):Prop :=
 ∀(value slice:Expr) (oq:List (Addr×Obj)) (s:Shared) (σ:St) (H:Hp) (x y:V) (v u:Value) (Q:VK),Inv X oq σ H s->qc x v->qc y u->r x y H Q ->
  YY slice false v u=operate [v,u] (Y6 v u)->kf (ki X.prog X.w) X.A (Zg value slice v u) (EP X oq σ Q) X.xe s
def WX(X:Cx) (id:String) (r:V->List V->Hp->VK->Prop):Prop :=
 ∀(oq:List (Addr×Obj)) (s:Shared) (σ:St) (H:Hp) (x:V) (xs:List V) (v:Value) (us:List Value) (Q:VK),Inv X oq σ H s->qc x v->pO xs us->r x xs H Q ->
  kf (ki X.prog X.w) X.A (call (.builtin id) (v::us)) (EP X oq σ Q) X.xe s
section
variable {X:Cx}{a b:Expr}{ta tb:TE}{pos:Pos}
theorem sq{r:R2}(hr:W2 X r) (ha:PE X a ta) (hb:PE X b tb) (hs:Qk b):PE X (.Subscript a b pos) (PD r ta tb):=by
 intro oq s σ H Q I h;exact Subscript_ (Uw ha hb I h λv u s2 x y H2 I2 rx ry q=>hr a b oq s2 σ H2 x y v u Q I2 rx ry q (hs _ _))
def N7(K:W.Frag):R2:=λx y H Q=>∃p xs i v,x = .ref p/\y = .int i/\tu K H p xs/\atI xs i=some v/\Q v H
def Sw(K:W.Frag):R2:=λx y H Q=>∃p xs i v,x = .ref p/\y = .int i/\DP K H p xs/\atI xs i=some v/\Q v H
theorem qB:W2 X (N7 X.K):=by
 intro value slice oq s σ H x y v u Q I rx ry h hs;obtain⟨p,xs,i,z,rfl,rfl,hq,he,q⟩:=h;cases rx;obtain⟨t,rfl⟩:=ry;obtain⟨its,r,pl,hz⟩:=I.list hq;obtain⟨j,h1,h2,h3,h4,h5⟩:=J0 he;obtain⟨w,ew,rw'⟩:=r.get h2;have hl:=r.length;have hn:=EF;have fin:EP X oq σ Q w s:=⟨z,H,I,rw',q⟩
 by_cases h0:0<=i
 .have hj:i.toNat=j:=by
   rw[Zu h0 h5]at h1;exact aJ.inj h1
  exact item_listR pl.isList h0 (by lia) (by rw[hj];simpa using ew) fin hs
 .have hj:(i+(its.toArray.size:Int)).toNat=j:=by
   rw[Zj (by lia) h4]at h1
   rw[aB,←hl];exact aJ.inj h1
  exact om (x:=w) pl.isList.typeIs slot_list_getitem.lookup
   (wpAny_getItem_list_neg (Q:=λr s'=>r=w/\EP X oq σ Q r s') pl.isList (by lia) (by rw[aB] <;> lia) (by lia) (by rw[hj];simpa using ew) ⟨rfl,fin⟩) hs
theorem IS:W2 X (Sw X.K):=by
 intro value slice oq s σ H x y v u Q I rx ry h hs;obtain⟨p,xs,i,z,rfl,rfl,hq,he,q⟩:=h;cases rx;obtain⟨t,rfl⟩:=ry;obtain⟨its,r,pl,hz⟩:=I.tuple hq;obtain⟨j,h1,h2,h3,h4,h5⟩:=J0 he;obtain⟨w,ew,rw'⟩:=r.get h2;have hl:=r.length;have hn:=EF;have fin:EP X oq σ Q w s:=⟨z,H,I,rw',q⟩;exact om (x:=w) pl.typeIs slot_tuple_getitem.lookup
  (getItem_tuple (j:=j) (Q:=λr s'=>r=w/\EP X oq σ Q r s') pl (by lia) (by lia) (by rw[aB,←hl];exact h1) (by simpa using ew) ⟨rfl,fin⟩) hs
theorem IU(its:List Value) (n j:Nat) (u:Value):Obj.mapSeq (·.setIfInBounds j u) { cls:=.type "list", data:=.seq its.toArray n }={ cls:=.type "list", data:=.seq (its.set j u).toArray n }:=by
 simp[Obj.mapSeq]
theorem Inv.lst{oq:List (Addr×Obj)}{σ:St}{H:Hp}{s:Shared}{p:Addr}{xs:List V}(I:Inv X oq σ H s) (h:H p=some (.lst xs)) :
  ∃(its:List Value) (n:Nat),pO xs its/\s.heap.get? p=some { cls:=.type "list", data:=.seq its.toArray n }/\xs.length<=ko:=by
 obtain⟨z,its,n,r,e⟩:=I.hok p _ h;exact⟨its,n,r,e,z⟩
theorem Inv.lstUpd{oq:List (Addr×Obj)}{σ:St}{H:Hp}{s:Shared}{p:Addr}{xs ys:List V}{its its':List Value}{n n':Nat}{f:Obj->Obj}(I:Inv X oq σ H s) (h:H p=some (.lst xs))
  (ho:s.heap.get? p=some { cls:=.type "list", data:=.seq its.toArray n }) (hf:f { cls:=.type "list", data:=.seq its.toArray n }={ cls:=.type "list", data:=.seq its'.toArray n' }) (r:pO ys its') (hz:ys.length<=ko) (t:Nat) :
  Inv X oq σ (qH H p (.lst ys)) { s with heap:=s.heap.update p f,toks:=t }:=by
 have e:(s.heap.update p f).get? p=some { cls:=.type "list", data:=.seq its'.toArray n' }:=by
  rw[dE f ho (by rw[hf] <;> rfl),hf]
 refine I.write (x:=p) (e:=p) (by rw[h];trivial) (.inl rfl) (λb u hb q=>(cI _ _ (Ne.symm hb)).trans q) ⟨_,e⟩ ?_
 exact⟨hz,its',n',r,e⟩
def R7:V->V->V->Hp->(Hp->Prop)->Prop:=λo i v H Q=>∃p xs k j,o = .ref p/\i = .int k/\H p=some (.lst xs)/\Eb xs.length k=some j/\Q (qH H p (.lst (xs.set j v)))
theorem NJ:Vt X R7:=by
 intro oq s σ H o i v ov iv u Q I ro ri rv h;obtain⟨p,xs,k,j,rfl,rfl,hp,hj,q⟩:=h;cases ro;obtain⟨t,rfl⟩:=ri;obtain⟨its,n,r,ho,hz⟩:=I.lst hp;obtain⟨h1,h2,h3,h4⟩:=Fq hj;have hl:=r.length;have hn:=EF;have I':Inv X oq σ (qH H p (.lst (xs.set j v))) { s with heap:=s.heap.update p (Obj.mapSeq (·.setIfInBounds j u)) } :=
  I.lstUpd hp ho (IU its n j u) (r.set rv j) (by rw[lZq];exact hz) s.toks
 by_cases h0:0<=k
 .have hk:k.toNat=j:=by
   rw[Zu h0 h4]at h1;exact aJ.inj h1
  exact W.ki_setAt ho h0 (by lia) (by rw[aB,←hl];exact h4) (by rw[hk];exact⟨_,I',q⟩)
 .have hk:(k+(its.toArray.size:Int)).toNat=j:=by
   rw[Zj (by lia) h3]at h1
   rw[aB,←hl];exact aJ.inj h1
  exact W.ki_setBack ho (by lia) (by rw[aB,←hl];exact h3) (by lia) (by rw[hk];exact⟨_,I',q⟩)
theorem EO(lo hi:Option Int) (n:Nat):(mF lo hi none n).1=((HT.Ek n 0 lo:Nat):Int)/\(mF lo hi none n).2.1=((HT.Ek n n hi:Nat):Int)/\(mF lo hi none n).2.2=1:=by
 refine⟨?_,?_,rfl⟩
 .cases lo with
  |none=>simp[mF,HT.Ek]
  |some i =>
   simp only[mF,HT.Ek,jm,show (1:Int)>0 by decide,if_true]
   by_cases h:i<0
   .simp only [h,if_true] <;> lia
   .simp only [h,if_false] <;> lia
 .cases hi with
  |none=>simp[mF,HT.Ek]
  |some i =>
   simp only[mF,HT.Ek,jm,show (1:Int)>0 by decide,if_true]
   by_cases h:i<0
   .simp only [h,if_true] <;> lia
   .simp only [h,if_false] <;> lia
theorem DH(its:List Value) (lo hi:Option Int):slicePick its.toArray lo hi none=((its.drop (HT.Ek its.length 0 lo)).take (HT.Ek its.length its.length hi-HT.Ek its.length 0 lo)).toArray:=by
 obtain⟨h1,h2,h3⟩:=EO lo hi its.toArray.size;unfold slicePick;rw[h1,h2,h3];simp only[sliceRange_one,pick_run,aB] <;> rfl
def Wk(K:W.Frag):V->Option Int->Option Int->Hp->VK->Prop:=λx lo hi H Q=>∃a xs,x = .ref a/\tu K H a xs/\∀p,H p=none->Q (.ref p) (qH H p (.lst (HN xs lo hi)))
theorem uh:Yn X (Wk X.K):=by
 intro oq s σ H x v vl vu lo hi sl Q I rx hs pl pu h;obtain⟨a,xs,rfl,hx,q⟩:=h;cases rx;obtain⟨its,r,ht,hz⟩:=I.list hx;have hlen:=r.length;refine⟨"list", _,slot_list_getitem.lookup,ht.isList.typeIs,?_⟩;refine wpAny_getItem_list_slice ht.isList hs pl pu .none (by simp) ?_ (by rw[aB] <;> lia)
 rw[DH,←hlen];refine⟨.ref s.heap.objs.size,_,I.laid (t':=s.toks) (o:=.lst (HN xs lo hi)) (λb ob q=>ae _ q) (ai _) ?_,rfl,q _ (I.hok.fresh (ai _))⟩
 exact⟨bQ (GN xs lo hi) hz,_,0,(r.drop (HT.Ek xs.length 0 lo)).take (HT.Ek xs.length xs.length hi-HT.Ek xs.length 0 lo),aC _ rfl⟩
def Ad:V->Bool
 | .non=>true
 | .bl _=>true
 | .int _=>true
 | .str _=>true
 |_=>false
def RO:V->V->Bool
 | .non,.non=>true
 | .bl a,.bl b=>a == b
 | .bl a,.int b=>(if a then 1 else 0) == b
 | .int a,.bl b=>a == (if b then 1 else 0)
 | .int a,.int b=>a == b
 | .str a,.str b=>a == b
 |_,_=>false
theorem Uh{A:Around}{s:Shared}{y x:V}{u v:Value}(ry:qc y u) (rx:qc x v) (fy:Ad y=true) (fx:Ad x=true):SeqAt.EqAt A s u v (RO y x):=by
 cases y with
 |non =>
  cases ry;cases x with
  |non=>cases rx;exact SeqAt.EqAt.same _
  |bl b=>cases rx;exact SeqAt.EqAt.none_bool b
  |int b=>obtain⟨t,rfl⟩:=rx;exact SeqAt.EqAt.none_int b t
  |str b=>obtain⟨t,rfl⟩:=rx;exact SeqAt.EqAt.none_str b t
  |_=>exact absurd (show false=true from fx) aF
 |bl a =>
  cases ry;cases x with
  |non=>cases rx;exact SeqAt.EqAt.bool_none a
  |bl b=>cases rx;exact SeqAt.EqAt.bool_bool a b
  |int b=>obtain⟨t,rfl⟩:=rx;exact SeqAt.EqAt.bool_int a b t
  |str b=>obtain⟨t,rfl⟩:=rx;exact SeqAt.EqAt.bool_str a b t
  |_=>exact absurd (show false=true from fx) aF
 |int a =>
  obtain⟨t',rfl⟩:=ry;cases x with
  |non=>cases rx;exact SeqAt.EqAt.int_none a t'
  |bl b=>cases rx;exact SeqAt.EqAt.int_bool a t' b
  |int b=>obtain⟨t,rfl⟩:=rx;exact SeqAt.EqAt.int_int a t' b t
  |str b=>obtain⟨t,rfl⟩:=rx;exact SeqAt.EqAt.int_str a t' b t
  |_=>exact absurd (show false=true from fx) aF
 |str a =>
  obtain⟨t',rfl⟩:=ry;cases x with
  |non=>cases rx;exact SeqAt.EqAt.str_none a t'
  |bl b=>cases rx;exact SeqAt.EqAt.str_bool a t' b
  |int b=>obtain⟨t,rfl⟩:=rx;exact SeqAt.EqAt.str_int a t' b t
  |str b=>obtain⟨t,rfl⟩:=rx;exact SeqAt.EqAt.str_str a t' b t
  |_=>exact absurd (show false=true from fx) aF
 |_=>exact absurd (show false=true from fy) aF
def HE(x:V) (u:Value):Bool:=match u with
 | .none=>RO .non x
 | .bool b=>RO (.bl b) x
 | .int i _=>RO (.int i) x
 | .str z _=>RO (.str z) x
 |_=>false
theorem N8{x y:V}{u:Value}(r:qc y u) (f:Ad y=true):HE x u=RO y x:=by
 cases y with
 |non=>cases r;rfl
 |bl b=>cases r;rfl
 |int i=>obtain⟨t,rfl⟩:=r;rfl
 |str z=>obtain⟨t,rfl⟩:=r;rfl
 |_=>exact absurd (show false=true from f) aF
theorem AF{x:V}:∀{xs:List V}{us:List Value},pO xs us->xs.all Ad=true->us.any (HE x)=xs.any λy=>RO y x
 |_,_,.nil,_=>rfl
 |y::xs,u::us,.cons r t,f=>by
  rw[iS,eR]at f;rw[dN,dN,N8 r f.1,AF t f.2]
theorem zc{A:Around}{s:Shared}{x:V}{v:Value}(rx:qc x v) (fx:Ad x=true):∀{xs:List V}{us:List Value},pO xs us->xs.all Ad=true->∀u∈us,SeqAt.EqAt A s u v (HE x u)
 |_,_,.nil,_=>λu hu=>by cases hu
 |y::xs,u::us,.cons r t,f=>λu' hu=>by
  rw[iS,eR]at f;rcases ag.mp hu with rfl|hu
  .rw [N8 r f.1];exact Uh r rx f.1 fx
  .exact zc rx fx t f.2 u' hu
def U0(x:V) (xs:List V):Bool:=xs.any λy=>RO y x
def Xx(K:W.Frag) (neg:Bool):R2:=λx y H Q=>∃p xs,y = .ref p/\(tu K H p xs∨DP K H p xs)/\Ad x=true/\xs.all Ad=true/\Q (.bl (if neg then !U0 x xs else U0 x xs)) H
theorem KB:Dd X (kS .In) (Xx X.K false):=by
 intro oq s σ H x y v u Q I rx ry h;obtain⟨p,xs,rfl,hq,fx,fs,q⟩:=h;cases ry;rcases hq with hq|hq
 .obtain ⟨its,r,pl,hz⟩:=I.list hq;refine SeqAt.in_listAt (HE x) pl.isList (λw hw=>zc rx fx r fs w (by simpa using hw)) ⟨.bl _,H,I,rfl,?_⟩
  rw[show its.toArray.any (HE x)=its.any (HE x) by simp,AF r fs]
  exact q
 .obtain ⟨its,r,pl,hz⟩:=I.tuple hq;refine SeqAt.in_tupleAt (HE x) pl (λw hw=>zc rx fx r fs w (by simpa using hw)) ⟨.bl _,H,I,rfl,?_⟩
  rw[show its.toArray.any (HE x)=its.any (HE x) by simp,AF r fs]
  exact q
theorem E9:Dd X (kS .NotIn) (Xx X.K true):=by
 intro oq s σ H x y v u Q I rx ry h;obtain⟨p,xs,rfl,hq,fx,fs,q⟩:=h;cases ry;rcases hq with hq|hq
 .obtain ⟨its,r,pl,hz⟩:=I.list hq;refine SeqAt.notIn_listAt (HE x) pl.isList (λw hw=>zc rx fx r fs w (by simpa using hw)) ⟨.bl _,H,I,rfl,?_⟩
  rw[show its.toArray.any (HE x)=its.any (HE x) by simp,AF r fs]
  exact q
 .obtain ⟨its,r,pl,hz⟩:=I.tuple hq;refine SeqAt.notIn_tupleAt (HE x) pl (λw hw=>zc rx fx r fs w (by simpa using hw)) ⟨.bl _,H,I,rfl,?_⟩
  rw[show its.toArray.any (HE x)=its.any (HE x) by simp,AF r fs]
  exact q
theorem vX:zV X (.type "list") (λxs H Q=>∃p ys,xs=[.ref p]/\(tu X.K H p ys∨DP X.K H p ys)/\∀l,H l=none->Q (.ref l) (qH H l (.lst ys))):=by
 intro oq s σ H xs us Q I r h;obtain⟨p,ys,rfl,hq,q⟩:=h;obtain⟨u,rfl,rx⟩:=zh r;cases rx;have fin:∀(its:List Value),pO ys its->ys.length<=ko->∀(h':Heap) (c':Nat),(∀b o',s.heap.get? b=some o'->h'.get? b=some o') ->
   h'.get? s.heap.objs.size=some { cls:=.type "list", dict:=none,data:=.seq its.toArray c',slots:=#[] }->EP X oq σ Q (.ref s.heap.objs.size) { s with heap:=h' }:=λits r' hz h' c' kp e =>
  ⟨.ref s.heap.objs.size,_,I.laid (t':=s.toks) kp (ai _) (show qW X.prog X.w _ h' _ (.lst ys) from ⟨hz,its,c',r',e⟩),rfl,q _ (I.hok.fresh (ai _))⟩
 rcases hq with hq|hq
 .obtain ⟨its,r',pl,hz⟩:=I.list hq;have hlen:=r'.length;obtain⟨o,ho,hc,n,hd⟩:=pl.isList;exact call_list_seq p (.inl rfl) ho hc hd (λh' c' kp e=>fin its r' hz h' c' kp e) (by simp only[aB] <;> lia)
 .obtain ⟨its,r',pl,hz⟩:=I.tuple hq;have hlen:=r'.length;obtain⟨o,ho,hc,n,hd⟩:=pl;exact call_list_seq p (.inr rfl) ho hc hd (λh' c' kp e=>fin its r' hz h' c' kp e) (by simp only[aB] <;> lia)
def VB(K:W.Frag) (T:String) (x:V) (H:Hp):Prop:=match x with
 | .str _=>T = "str"
 | .int _=>T = "int"
 | .ref p=>(T = "list" /\ ∃xs,tu K H p xs)∨(T = "tuple" /\ ∃o,K.lookup p=some o/\o.cls = .type "tuple" /\ o.dict=none) ∨
   (T = "dict" /\ ((∃kvs,H p=some (.dK kvs))∨∃kvs,H p=some (.dT kvs)))∨(T = "set" /\ ∃S n,H p=some (.set S n))
 |_=>False
theorem NQ{oq:List (Addr×Obj)}{σ:St}{H:Hp}{s:Shared}{T:String}{x:V}{v:Value}(I:Inv X oq σ H s) (r:qc x v) (ty:VB X.K T x H) :
  s.TypeIs v T/\∀a,v = .ref a->∃ob,s.heap.get? a=some ob/\ob.dict=none:=by
 cases x with
 |str z =>
  obtain⟨t,rfl⟩:=r;cases (show T = "str" from ty)
  exact⟨typeIs_str s z t,λ_ e=>nomatch e⟩
 |int i =>
  obtain⟨t,rfl⟩:=r;cases (show T = "int" from ty)
  exact⟨typeIs_int s i t,λ_ e=>nomatch e⟩
 |ref p =>
  cases r;rcases ty with ⟨rfl,xs,hq⟩|⟨rfl,o,hk,hc,hd⟩|⟨rfl,hk⟩|⟨rfl,S,n,hk⟩
  .obtain ⟨its,_,pl,_⟩:=I.list hq;refine⟨pl.isList.typeIs,λa e=>?_⟩
   cases e;obtain⟨o,n,e,c,hd,_⟩:=pl;exact⟨o,e,hd⟩
  .refine ⟨⟨o,I.kIn p o hk,hc⟩,λa e=>?_⟩
   cases e;exact⟨o,I.kIn _ o hk,hd⟩
  .have z:∃o,s.heap.get? p=some o/\o.ExactDict:=by
    rcases hk with ⟨kvs,hk⟩|⟨kvs,hk⟩
    .obtain ⟨_,_,_,_,o,_,_,e,ex,_⟩:=I.hok p _ hk;exact⟨o,e,ex⟩
    .obtain ⟨_,_,_,_,o,_,_,e,ex,_⟩:=I.hok p _ hk;exact⟨o,e,ex⟩
   obtain⟨o,e,ex⟩:=z;refine⟨⟨o,e,ex.1⟩,λa e2=>?_⟩
   cases e2;exact⟨o,e,ex.2.1⟩
  .obtain ⟨o,_,_,_,e,ex,_⟩:=I.hok p _ hk;refine⟨⟨o,e,ex.1⟩,λa e2=>?_⟩
   cases e2;exact⟨o,e,ex.2.1⟩
 |_=>exact False.elim ty
def VZ(K:W.Frag) (T:String) (r:V->List V->Hp->VK->Prop) (to:TE):TE:=λσ H Q=>to σ H λx H1=>VB K T x H1/\r x [] H1 Q
def Qr(K:W.Frag) (T:String) (r:V->List V->Hp->VK->Prop) (to:TE) (t:TA):TE:=λσ H Q=>to σ H λx H1=>VB K T x H1/\t σ H1 λxs H2=>r x xs H2 Q
variable {o e:Expr}{es:List Expr}{to:TE}{t:TA}{name:Str}{apos cpos:Pos}{T id:String}{r:V->List V->Hp->VK->Prop}
theorem Oo(pa:PlainAttrs T) (slot:Slot T name id) (hty:typeOf (.builtin id)=pure (.type "method_descriptor")) (hm:WX X id r) (ho:PE X o to)
  (hbase:mS o name X.env (eval o X.env)=eval o X.env:=by rfl) (hline:(apos.endLine == cpos.line)=true:=by rfl):PE X (.Call (.Attribute o name apos) [] [] cpos) (VZ X.K T r to):=by
 intro oq s σ H Q I h;refine nY hbase hline (thn (ho oq s σ H _ I h) λv s1 ⟨x,H1,I1,r1,ty,q1⟩=>?_)
 obtain⟨h1,h2⟩:=NQ I1 r1 ty;exact⟨T,id,pa,slot,hty,h1,h2,Calls.callWith_builtin rfl (PySem.evalArgs_none (hm oq s1 σ H1 x [] v [] Q I1 r1 .nil q1))⟩
theorem uT(pa:PlainAttrs T) (slot:Slot T name id) (hty:typeOf (.builtin id)=pure (.type "method_descriptor")) (hm:WX X id r) (ho:PE X o to) (ha:PA X (e::es) t)
  (hbase:mS o name X.env (eval o X.env)=eval o X.env:=by rfl)
  (hfew:((lF cpos (kx (e::es) X.env)).all (λx=>!x.1) && (backToKw cpos (Zx [] X.env)).all (λx=>x.1.isSome)
   && decide ((e::es).length+([]:List Y7).length+(if ([]:List Y7).isEmpty then 0 else 1)<30))=true:=by rfl)
  (hline:(apos.endLine == cpos.line)=true:=by rfl) (hs:kx (e::es) X.env=(false,eval e X.env)::kx es X.env:=by rfl) (hplain:(lF cpos (kx es X.env)).any (·.1)=false:=by rfl) :
  PE X (.Call (.Attribute o name apos) (e::es) [] cpos) (Qr X.K T r to t):=by
 intro oq s σ H Q I h;refine wpAny_Call_method_late hbase hfew hline rfl (thn (ho oq s σ H _ I h) λv s1 ⟨x,H1,I1,r1,ty,q1⟩=>?_)
 obtain⟨h1,h2⟩:=NQ I1 r1 ty;refine⟨T,id,pa,slot,hty,h1,h2,?_⟩;have hA:=ha cpos oq s1 σ H1 _ I1 q1;rw[hs]at hA ⊢;refine Calls.callWith_builtin (by show (false || (lF cpos (kx es X.env)).any (·.1))=false;rw[hplain] <;> rfl) (Calls.evalArgs_plain ?_)
 exact thn hA λus s2 ⟨vs,H2,I2,r2,q2⟩=>hm oq s2 σ H2 x vs v us Q I2 r1 r2 q2
/- xs.append(e),list.index on a module's tuple .. are WX facts of 06m -/
end
def V8(X:Cx) (id:String) (r:V->List V->Hp->VK->Prop):Prop :=
 ∀(oq:List (Addr×Obj)) (s:Shared) (σ:St) (H:Hp) (x:V) (xs:List V) (v:Value) (us:List Value) (Q:VK),Inv X oq σ H s->qc x v->pO xs us->r x xs H Q ->
  kf (ki X.prog X.w) X.A (call (.builtin id) (v::us)) (EP X oq σ Q) X.xe s
theorem pO.one:∀{x:V}{us:List Value},pO [x] us->∃u,us=[u]/\qc x u
 |_,_,.cons r .nil=>⟨_,rfl,r⟩
theorem pO.two:∀{x y:V}{us:List Value},pO [x,y] us->∃u v,us=[u,v]/\qc x u/\qc y v
 |_,_,_,.cons r (.cons q .nil)=>⟨_,_,rfl,r,q⟩
theorem pO.zero:∀{us:List Value},pO [] us->us=[]
 |_,.nil=>rfl
theorem pO.dropLast{xs:List V}{us:List Value}(h:pO xs us):pO xs.dropLast us.dropLast:=by
 induction h with
 |nil=>exact .nil
 |cons r t ih =>
  cases t with
  |nil=>exact .nil
  |cons q t'=>exact .cons r ih
theorem pO.eraseIdx:∀{xs:List V}{us:List Value}(i:Nat),pO xs us->pO (xs.eraseIdx i) (us.eraseIdx i)
 |_,_,_,.nil=>.nil
 |_,_,0,.cons _ t=>t
 |_,_,i+1,.cons r t=>.cons r (pO.eraseIdx i t)
theorem Ag{α:Type}(l:List α):l.eraseIdx (l.length-1)=l.dropLast:=by
 induction l with
 |nil=>rfl
 |cons a r ih =>
  cases r with
  |nil=>rfl
  |cons b r =>
   have e:(a::b::r).length-1=((b::r).length-1)+1:=by
    have h1:(a::b::r).length=r.length+2:=rfl;have h2:(b::r).length=r.length+1:=rfl;lia
   rw[e,du,ih]
   all_goals rfl
theorem Eh{α:Type}:∀(l:List α) (i:Nat),(l.eraseIdx i).length<=l.length
 | [],_=>ai _
 |_::_,0=>cu _
 |_::r,i+1=>Nat.succ_le_succ (Eh r i)
section
variable {X:Cx}{oq:List (Addr×Obj)}{σ:St}{H:Hp}{s:Shared}{l b:Addr}{xs ys zs:List V}
theorem Inv.lset{its its':List Value}{n:Nat}{f:Array Value->Array Value}{t':Nat}(I:Inv X oq σ H s) (hH:H l=some (.lst xs))
  (e:s.heap.get? l=some { cls:=.type "list", data:=.seq its.toArray n }) (hf:f its.toArray=its'.toArray) (hv:pO ys its') (hz:ys.length<=ko) :
  Inv X oq σ (qH H l (.lst ys)) { s with heap:=s.heap.update l (Obj.mapSeq f),toks:=t' }:=by
 have q:=PySem.IsL.update e f;rw[hf]at q;refine I.write (x:=l) (e:=l) (by rw[hH];exact trivial) (.inl rfl) (λb' u hb hu=>(cI s.heap (Obj.mapSeq f) (Ne.symm hb)).trans hu) ⟨_,q⟩ ?_
 exact⟨hz,its',_,hv,q⟩
theorem Inv.lnew{its:List Value}{t':Nat}(I:Inv X oq σ H s) (hv:pO ys its) (hz:ys.length<=ko) :
  Inv X oq σ (qH H s.heap.objs.size (.lst ys)) { s with heap:=s.heap.push { cls:=.type "list", data:=.seq its.toArray },toks:=t' } :=
 I.laid (λ_ _ q=>ae _ q) (ai _) ⟨hz,its,0,hv,aC _ rfl⟩
theorem Inv.fresh(I:Inv X oq σ H s):H s.heap.objs.size=none:=I.hok.fresh (ai _)
theorem Inv.lstM(I:Inv X oq σ H s) (hH:H l=some (.lst xs)):xs.length<=ko/\∃(its:List Value) (n:Nat),pO xs its/\xs.length=its.length/\s.heap.get? l=some { cls:=.type "list", data:=.seq its.toArray n }:=by
 obtain⟨z,its,n,r,e⟩:=I.hok l _ hH;exact⟨z,its,n,r,r.length,e⟩
theorem Nc{n:Nat}(h:n<=ko):Builtin.List.listTooLong n=false:=by
 unfold Builtin.List.listTooLong;exact decide_eq_false (by lia)
end
section
variable {X:Cx}
def A3:V->List V->Hp->VK->Prop:=λx vs H Q=>∃l xs y,x = .ref l/\vs=[y]/\H l=some (.lst xs)/\xs.length<ko/\Q .non (qH H l (.lst (xs++[y])))
theorem rP:V8 X "list.append" A3:=by
 intro oq s σ H x vs v us Q I rx rv h;obtain⟨l,xs,y,rfl,rfl,hH,hz,q⟩:=h;cases rx;obtain⟨u,rfl,ru⟩:=rv.one;obtain⟨z,its,n,r,hl,e⟩:=I.lstM hH;refine lS F.slot_list_append ⟨_,e,rfl⟩ F.entry_list_append (F.args_list_append_2 _ _) (PySem.list_append l its.toArray n u (by rw[aB];lia)) ⟨e,?_⟩
 refine⟨.non,_,I.lset (its':=its++[u]) hH e (by simp) (r.append (.cons ru .nil)) ?_,rfl,q⟩
 rw[lAq,lSq];lia
def JE:V->List V->Hp->VK->Prop:=λx vs H Q=>∃l b xs zs,x = .ref l/\vs=[.ref b]/\H l=some (.lst xs)/\H b=some (.lst zs)/\xs.length+zs.length<=ko/\Q .non (qH H l (.lst (xs++zs)))
theorem BP:V8 X "list.extend" JE:=by
 intro oq s σ H x vs v us Q I rx rv h;obtain⟨l,b,xs,zs,rfl,rfl,hH,hB,hz,q⟩:=h;cases rx;obtain⟨u,rfl,ru⟩:=rv.one;cases ru;obtain⟨z,its,n,r,hl,e⟩:=I.lstM hH;obtain⟨z2,its2,n2,r2,hl2,e2⟩:=I.lstM hB;have hsz:its.toArray.size+its2.toArray.size<=ko:=by rw[aB,aB];lia
 have hlong:¬ (!its.toArray.isEmpty && Builtin.List.listTooLong (its.toArray.size+its2.toArray.size))=true:=by
  rw[Nc hsz,Bool.and_false];exact aF
 refine lS F.slot_list_extend ⟨_,e,rfl⟩ F.entry_list_extend (F.args_list_extend_2 _ _)
  (AutoSeq1.list_extend_list_list_0 l its.toArray n b its2.toArray n2 hlong (by rw[aB];lia) (by lia)) ⟨e,e2,?_⟩
 refine⟨.non,_,I.lset (its':=its++its2) hH e (by simp) (r.append r2) ?_,rfl,q⟩
 rw[lAq];lia
def Ur:V->List V->Hp->VK->Prop:=λx vs H Q=>∃l xs y,x = .ref l/\vs=[]/\H l=some (.lst xs)/\xs[xs.length-1]?=some y/\Q y (qH H l (.lst xs.dropLast))
theorem Pj:V8 X "list.pop" Ur:=by
 intro oq s σ H x vs v us Q I rx rv h;obtain⟨l,xs,y,rfl,rfl,hH,hy,q⟩:=h;cases rx;have hus:=rv.zero;subst hus;obtain⟨z,its,n,r,hl,e⟩:=I.lstM hH;obtain⟨u,hu,ru⟩:=r.get hy;have hy':its.toArray[its.toArray.size-1]?=some u:=by
  show its.toArray[its.length-1]?=some u;rw[←ax,←hl];exact hu
 refine lS F.slot_list_pop ⟨_,e,rfl⟩ F.entry_list_pop (F.args_list_pop_1 _) (MeetsSeq.list_pop_last l its.toArray n u hy' (by rw[aB];lia)) ⟨e,?_⟩
 refine⟨y,_,I.lset (its':=its.dropLast) hH e ?_ r.dropLast ?_,ru,q⟩
 .show its.toArray.eraseIdxIfInBounds (its.toArray.size-1)=its.dropLast.toArray;rw[aB,fY,Ag]
 .rw [List.length_dropLast];lia
def Nw:V->List V->Hp->VK->Prop:=λx vs H Q=>∃l xs i k y,x = .ref l/\vs=[.int i]/\H l=some (.lst xs)/\-(2 ^ 63)<=i/\i<2 ^ 63/\Zp i xs.length=some k/\xs[k]?=some y/\Q y (qH H l (.lst (xs.eraseIdx k)))
theorem Mv:V8 X "list.pop" Nw:=by
 intro oq s σ H x vs v us Q I rx rv h;obtain⟨l,xs,i,k,y,rfl,rfl,hH,h1,h2,hk,hy,q⟩:=h;cases rx;obtain⟨u,rfl,ru⟩:=rv.one;obtain⟨t,rfl⟩:=ru;obtain⟨z,its,n,r,hl,e⟩:=I.lstM hH;obtain⟨w,hw,rw'⟩:=r.get hy;refine lS F.slot_list_pop ⟨_,e,rfl⟩ F.entry_list_pop (F.args_list_pop_2 _ _)
  (MeetsSeq.list_pop_at l its.toArray n i t k w (fitsIndex_both h1 h2) (by rw[aB,←hl];exact hk) (by rw[←ax];exact hw) (by rw[aB];lia)) ⟨e,?_⟩
 refine⟨y,_,I.lset (its':=its.eraseIdx k) hH e ?_ (r.eraseIdx k) ?_,rw',q⟩
 .show its.toArray.eraseIdxIfInBounds k=(its.eraseIdx k).toArray;rw[fY]
 .have:=Eh xs k;lia
def UG:R2:=λx y H Q=>∃l b xs zs,x = .ref l/\y = .ref b/\H l=some (.lst xs)/\H b=some (.lst zs)/\xs.length+zs.length<=ko/\∀p,H p=none->Q (.ref p) (qH H p (.lst (xs++zs)))
theorem yn:Dd X (mM .Add) UG:=by
 intro oq s σ H x y v u Q I rx ry h;obtain⟨l,b,xs,zs,rfl,rfl,hH,hB,hz,q⟩:=h;cases rx;cases ry;obtain⟨z,its,n,r,hl,e⟩:=I.lstM hH;obtain⟨z2,its2,n2,r2,hl2,e2⟩:=I.lstM hB;refine PySem.P.add_list e e2 ?_ (by rw[aB,aB];lia)
 have ea:its.toArray++its2.toArray=(its++its2).toArray:=by simp
 rw[ea];exact⟨.ref _,_,I.lnew (t':=s.toks) (r.append r2) (by rw[lAq];lia),rfl,q _ I.fresh⟩
end
section
variable {κ:Type} [DecidableEq κ]
def vm(kvs:List (κ×V)) (k:κ):Option V:=(kvs.find? λkv=>decide (kv.1=k)).map (·.2)
def wL(kvs:List (κ×V)) (k:κ) (v:V):List (κ×V) :=
 if (kvs.any λkv=>decide (kv.1=k))=true then kvs.map (λkv=>if kv.1=k then (kv.1,v) else kv) else kvs++[(k,v)]
theorem CS{p:κ×V}{r:List (κ×V)}{k:κ}(e:p.1=k):vm (p::r) k=some p.2:=by simp[vm,cJ,e]
theorem CU{p:κ×V}{r:List (κ×V)}{k:κ}(e:¬ p.1=k):vm (p::r) k=vm r k:=by simp[vm,cJ,e]
theorem GC(k:κ):∀kvs:List (κ×V),(kvs.any λkv=>decide (kv.1=k))=(vm kvs k).isSome
 | []=>rfl
 |p::r=>by
  rw[dN]
  by_cases e:p.1=k
  .simp only [CS e,decide_eq_true e,Bool.true_or,Option.isSome_some]
  .rw [CU e,decide_eq_false e,jL];exact GC k r
theorem wN(kvs:List (κ×V)) (k:κ) (v:V):(wL kvs k v).length<=kvs.length+1:=by
 unfold wL;split
 .rw [lMq];lia
 .rw [lAq,lCq,dh];lia
theorem AA.isSome_eq{o:Option V}{u:Option Value}(r:AA o u):o.isSome=u.isSome:=by
 cases o with
 |none=>cases u with
  |none=>rfl
  |some _=>exact(show False from r).elim
 |some _=>cases u with
  |none=>exact(show False from r).elim
  |some _=>rfl
theorem KV.val{kvs:List (κ×V)}{vs:List (κ×Value)}(r:KV kvs vs) (k:κ):AA (vm kvs k) (lJ vs k):=by
 unfold KV at r
 induction r with
 |nil=>exact True.intro
 | @cons p q ps qs h t ih =>
  obtain⟨h1,h2⟩:=h
  by_cases e:p.1=k
  .have e':q.1=k:=h1.symm.trans e;have b:lJ (q::qs) k=some q.2:=by simp[lJ,cJ,e']
   rw[CS e,b];exact h2
  .have e':¬ q.1=k:=λz=>e (h1.trans z)
   have b:lJ (q::qs) k=lJ qs k:=by simp[lJ,cJ,e']
   rw[CU e,b];exact ih
theorem KV.any{kvs:List (κ×V)}{vs:List (κ×Value)}(r:KV kvs vs) (k:κ):(kvs.any λkv=>decide (kv.1=k))=vs.any λkv=>decide (kv.1=k):=by
 unfold KV at r
 induction r with
 |nil=>rfl
 |cons h t ih=>rw[dN,dN,ih,h.1]
theorem KV.repl{kvs:List (κ×V)}{vs:List (κ×Value)}(r:KV kvs vs) (k:κ) {y:V}{u:Value}(ry:qc y u) :
  KV (kvs.map λkv=>if kv.1=k then (kv.1,y) else kv) (vs.map λkv=>if kv.1=k then (kv.1,u) else kv):=by
 unfold KV at r ⊢
 induction r with
 |nil=>exact .nil
 | @cons p q ps qs h t ih =>
  rw[ao,ao];refine .cons ?_ ih;obtain⟨h1,h2⟩:=h
  by_cases e:p.1=k
  .rw [pe e,pe (h1.symm.trans e)];exact⟨h1,ry⟩
  .rw [pD e,pD (λz=>e (h1.trans z))];exact⟨h1,h2⟩
theorem KV.put{kvs:List (κ×V)}{vs:List (κ×Value)}(r:KV kvs vs) (k:κ) {y:V}{u:Value}(ry:qc y u):KV (wL kvs k y) (nv vs k u):=by
 unfold wL nv;rw[r.any k]
 by_cases e:(vs.any λkv=>decide (kv.1=k))=true
 .rw [pe e,pe e];exact r.repl k ry
 .rw [pD e,pD e];exact Paired.snoc r ⟨rfl,ry⟩
theorem KV.length{kvs:List (κ×V)}{vs:List (κ×Value)}(r:KV kvs vs):kvs.length=vs.length:=Paired.length r
end
theorem Ex{P:kq}{w:kr}{k:oS}{u:Value}(r:qc (kV k) u):(qA P w).is k u=true:=by
 cases k with
 |inl i=>obtain⟨t,e⟩:=(show ∃t,u=fK i t from r);subst e;exact Hy P w i t
 |inr x=>obtain⟨t,e⟩:=(show ∃t,u=jK x t from r);subst e;exact Hq P w x t
theorem DY{P:kq}{w:kr}:∀{ks:List oS}{us:List Value},pO (ks.map kV) us->ItemsAre (qA P w) ks us
 | [],_,r=>by rw[bX]at r;cases r;exact .nil
 |k::ks,_,r=>by
  rw[ao]at r;cases r with
  |cons h t=>exact .cons (Ex h) (DY t)
abbrev KT(H:Hp):List (List oS×V)->List (List oS×Addr×Value)->Prop:=Paired λp q=>p.1=q.1/\H q.2.1=some (.tup (p.1.map kV))/\qc p.2 q.2.2
theorem KT.val{H:Hp}{kvs:List (List oS×V)}{xs:List (List oS×Addr×Value)}(r:KT H kvs xs) (k:List oS):AA (vm kvs k) ((oi xs k).map (·.2)):=by
 induction r with
 |nil=>exact True.intro
 | @cons p q ps qs h t ih =>
  obtain⟨h1,_,h2⟩:=h
  by_cases e:p.1=k
  .have e':q.1=k:=h1.symm.trans e;have b:oi (q::qs) k=some q.2:=by simp[oi,cJ,e']
   rw[CS e,b];exact h2
  .have e':¬ q.1=k:=λz=>e (h1.trans z)
   have b:oi (q::qs) k=oi qs k:=by simp[oi,cJ,e']
   rw[CU e,b];exact ih
theorem KT.repl{H:Hp}{kvs:List (List oS×V)}{xs:List (List oS×Addr×Value)}(r:KT H kvs xs) (k:List oS) {y:V}{u:Value}(ry:qc y u) :
  KT H (kvs.map λkv=>if kv.1=k then (kv.1,y) else kv) (xs.map (putAt k u)):=by
 induction r with
 |nil=>exact .nil
 | @cons p q ps qs h t ih =>
  rw[ao,ao];refine .cons ?_ ih;obtain⟨h1,h2,h3⟩:=h;unfold putAt
  by_cases e:p.1=k
  .rw [pe e,pe (h1.symm.trans e)];exact⟨h1,h2,ry⟩
  .rw [pD e,pD (λz=>e (h1.trans z))];exact⟨h1,h2,h3⟩
theorem KT.put{H:Hp}{kvs:List (List oS×V)}{xs:List (List oS×Addr×Value)}(r:KT H kvs xs) (k:List oS) {b:Addr}{y:V}{u:Value}(hb:H b=some (.tup (k.map kV))) (ry:qc y u) :
  KT H (wL kvs k y) (storedH xs k b u):=by
 have e:(kvs.any λkv=>decide (kv.1=k))=(oi xs k).isSome:=by
  rw[GC,(r.val k).isSome_eq,eK]
 unfold wL storedH;rw[e]
 by_cases q:(oi xs k).isSome=true
 .rw [pe q,pe q];exact r.repl k ry
 .rw [pD q,pD q];exact Paired.snoc r ⟨rfl,hb,ry⟩
theorem KT.keeps{H H':Hp}{kvs:List (List oS×V)}{xs:List (List oS×Addr×Value)}(r:KT H kvs xs) (ht:∀b ys,H b=some (.tup ys)->H' b=some (.tup ys)):KT H' kvs xs :=
 Paired.mapP r λ_ _ z=>⟨z.1,ht _ _ z.2.1,z.2.2⟩
section
variable {P:kq}{w:kr}{H:Hp}{h:Heap}{a:Addr}
theorem Sd{u:HO}(ok:Aw P w H h) (e:Rd H a u):qW P w H h a u:=e.ok ok
theorem Hh{kvs:List (oS×V)}(ok:Aw P w H h) (e:Rd H a (.dK kvs)):kvs.length<=ko/\(a == kY)=false/\∃vs,KV kvs vs/\h.DictOf (qA P w) a vs :=
 show qW P w H h a (.dK kvs) from Sd ok e
theorem M5{kvs:List (oS×V)}(ok:Aw P w H h) (e:H a=some (.dK kvs)):kvs.length<=ko/\(a == kY)=false/\∃vs,KV kvs vs/\h.DictOf (qA P w) a vs:=Hh ok (.inl e)
theorem EI{ks:List oS}(ok:Aw P w H h) (e:H a=some (.tup (ks.map kV))):(og (qA P w)).is h ks a:=by
 obtain⟨_,its,r,o,h1,h2,n,h3⟩:=(show qW P w H h a (.tup (ks.map kV)) from ok a _ e)
 exact⟨o,its.toArray,n,h1,h2,h3,by simpa using DY r⟩
theorem Hg{kvs:List (List oS×V)}(ok:Aw P w H h) (e:Rd H a (.dT kvs)):kvs.length<=ko/\(a == kY)=false /\
  ∃xs,KT H kvs xs/\h.DictOfH (og (qA P w)) a xs:=by
 obtain⟨z,y,xs,r,o,es,ep,h1,h2,h3,h4,h5⟩:=(show qW P w H h a (.dT kvs) from Sd ok e)
 refine⟨z,y,xs,r,o,es,ep,h1,h2,h3,h4,λx hx=>?_,h5⟩
 have all:∀{l:List (List oS×V)}{m:List (List oS×Addr×Value)},KT H l m->∀x∈m,(og (qA P w)).is h x.1 x.2.1:=by
  intro l m q
  induction q with
  |nil=>intro x hx;exact nomatch hx
  | @cons p q ps qs hq t ih =>
   intro x hx;rcases ag.mp hx with e|hx
   .subst e;exact EI ok (by rw[←hq.1];exact hq.2.1)
   .exact ih x hx
 exact all r x hx
theorem Wx{kvs:List (List oS×V)}(ok:Aw P w H h) (e:H a=some (.dT kvs)):kvs.length<=ko/\(a == kY)=false /\
  ∃xs,KT H kvs xs/\h.DictOfH (og (qA P w)) a xs:=Hg ok (.inl e)
end
def CT(H:Hp) (a:Addr) (y:V) (r:Option V):Prop :=
 (∃kvs k,Rd H a (.dK kvs)/\y=kV k/\r=vm kvs k)∨∃kvs k b,Rd H a (.dT kvs)/\y = .ref b/\H b=some (.tup (k.map kV))/\r=vm kvs k
def OU(H:Hp) (a:Addr) (y v:V) (H':Hp):Prop :=
 (∃kvs k,H a=some (.dK kvs)/\y=kV k/\kvs.length<ko/\H'=qH H a (.dK (wL kvs k v))) ∨
 ∃kvs k b,H a=some (.dT kvs)/\y = .ref b/\H b=some (.tup (k.map kV))/\kvs.length<ko/\H'=qH H a (.dT (wL kvs k v))
theorem CT.k{H:Hp}{a:Addr}{kvs:List (oS×V)}{k:oS}(e:H a=some (.dK kvs)):CT H a (kV k) (vm kvs k):=.inl ⟨kvs,k,.inl e,rfl,rfl⟩
theorem OU.k{H:Hp}{a:Addr}{kvs:List (oS×V)}{k:oS}{v:V}(e:H a=some (.dK kvs)) (hl:kvs.length<ko):OU H a (kV k) v (qH H a (.dK (wL kvs k v))):=.inl ⟨kvs,k,e,rfl,hl,rfl⟩
section
variable {X:Cx}{oq:List (Addr×Obj)}{σ:St}{H:Hp}{s:Shared}{a:Addr}{y v:V}{u r:Value}{o:Option V}{A:Around}{E:Value->Shared->Prop}
theorem Inv.big(I:Inv X oq σ H s):kY<s.heap.objs.size:=by
 have h:ku<s.heap.objs.size:=(I.mod.glob.keeps I.bk).lt;exact fD (by decide) h
theorem Lm{Q:Value->Shared->Prop}(hu:A.units+1<mC) (I:Inv X oq σ H s) (g:CT H a y (some v)) (ry:qc y u) (h:∀w' s',Inv X oq σ H s'->qc v w'->Q w' s') :
  kf (ki X.prog X.w) A (Y6 (.ref a) u) Q E s:=by
 rcases g with ⟨kvs,k,e,ey,l⟩|⟨kvs,k,b,e,ey,eb,l⟩
 .subst ey;obtain⟨z,hd,vs,rel,dd⟩:=Hh I.hok e;obtain⟨w',hw,rw'⟩:=AA.some_of (v:=v) (o:=lJ vs k) (by rw[l];exact rel.val k)
  exact wpAny_getItem_of (Ex ry) dd.mapOf hw (h w' _ (I.tok _) rw')
 .subst ey;cases (show u=bH b from ry)
  obtain⟨z,hd,xs,rel,dd⟩:=Hg I.hok e;obtain⟨w',hw,rw'⟩:=AA.some_of (v:=v) (o:=(oi xs k).map (·.2)) (by rw[l];exact rel.val k)
  obtain⟨p,hp,hp2⟩:=oMq.mp hw;refine wpAny_getItem_heap (nH hu) (EI I.hok eb) dd hp ?_;rw[hp2];exact h w' _ (I.tok _) rw'
theorem Rw{Q:Value->Shared->Prop}(hu:A.units+1<mC) (I:Inv X oq σ H s) (g:CT H a y o) (ry:qc y u) (h:∀s',Inv X oq σ H s'->Q (.bool (!o.isSome)) s') :
  kf (ki X.prog X.w) A (kS .NotIn u (.ref a)) Q E s:=by
 rcases g with ⟨kvs,k,e,ey,l⟩|⟨kvs,k,b,e,ey,eb,l⟩
 .subst ey;obtain⟨z,hd,vs,rel,dd⟩:=Hh I.hok e;refine wpAny_notIn_of (Ex ry) hd dd.mapOf ?_;rw[← (rel.val k).isSome_eq,←l];exact h _ (I.tok _)
 .subst ey;cases (show u=bH b from ry)
  obtain⟨z,hd,xs,rel,dd⟩:=Hg I.hok e;refine wpAny_notIn_heap (nH hu) (EI I.hok eb) hd dd ?_;have q:=(rel.val k).isSome_eq;rw[eK]at q;rw[←q,←l];exact h _ (I.tok _)
theorem Ci{h':Heap}{t':Nat}{ob:HO}(I:Inv X oq σ H s) (mu:WD (H a)) (hs:bL a s.heap h') (he:∃q,h'.get? a=some q) (new:qW X.prog X.w (qH H a ob) h' a ob) :
  Inv X oq σ (qH H a ob) { s with heap:=h',toks:=t' } :=
 I.write (x:=a) (e:=a) mu (.inl rfl) (λb q hb z=>(hs.2 b hb).trans z) he new
theorem Dk{P:kq}{w:kr}{H':Hp}{h':Heap}{kvs:List (oS×V)}{vs:List (oS×Value)}(z:kvs.length<=ko) (hd:(a == kY)=false) (rel:KV kvs vs) (dd:h'.DictOf (qA P w) a vs) :
  qW P w H' h' a (.dK kvs):=⟨z,hd,vs,rel,dd⟩
theorem Ky{H':Hp}{Q:Unit->Shared->Prop}(hu:A.units+1<mC) (I:Inv X oq σ H s) (g:OU H a y v H') (ry:qc y u) (rv:qc v r) (h:∀s',Inv X oq σ H' s'->Q () s') :
  kf (ki X.prog X.w) A (setItem (.ref a) u r) Q E s:=by
 rcases g with ⟨kvs,k,e,ey,l,eH⟩|⟨kvs,k,b,e,ey,eb,l,eH⟩
 .subst ey eH;obtain⟨z,hd,vs,rel,dd⟩:=M5 I.hok e;have hz:vs.length<=ko:=by rw[←rel.length];exact z
  have hl:(wL kvs k v).length<=ko:=by have:=wN kvs k v;lia
  refine wpAny_setItem_pairs (hsz:=hz) (Ex ry) dd λh' dd' hs=>h _ ?_
  have he:∃q,h'.get? a=some q:=let ⟨q,_,_,hq,_⟩:=dd';⟨q,hq⟩
  exact Ci I (by rw[e];exact True.intro) hs he (Dk hl hd (rel.put k rv) dd')
 .subst ey eH;cases (show u=bH b from ry)
  obtain⟨z,hd,xs,rel,dd⟩:=Wx I.hok e;have hz:xs.length<=ko:=by rw[←Paired.length rel];exact z
  have hl:(wL kvs k v).length<=ko:=by have:=wN kvs k v;lia
  refine wpAny_setItem_heap (hsz:=hz) (nH hu) (EI I.hok eb) dd λh' dd' hs=>h _ ?_
  obtain⟨q,es,ep,hq,h2,h3,h4,_,h5⟩:=dd';refine Ci I (by rw[e];exact True.intro) hs ⟨q,hq⟩ ⟨hl,hd,_,(rel.put k eb rv).keeps λc ys ec=>?_,q,es,ep,hq,h2,h3,h4,h5⟩
  rw[oQ (VG ec e (λz=>nomatch z))]
  exact ec
end
def VF(i:Expr):Prop:=∀ov iv,YY i false ov iv=operate [ov,iv] (Y6 ov iv)
theorem PZ{prog:kq}{w:kr}{A:Around}{E:Value->Shared->Prop}{s:Shared}{env:Env}{value slice:Expr}{pos:Pos}{T id:String}{Q:Value->Shared->Prop}
  (hl:nq (.type T) "__getitem__" = pure (some (.builtin id))) (hs:VF slice)
  (h:kf (ki prog w) A (eval value env) (λo s₁=>kf (ki prog w) A (eval slice env) (λi s₂=>s₂.TypeIs o T/\kf (ki prog w) A (Y6 o i) Q E s₂) E s₁) E s) :
  kf (ki prog w) A (eval (.Subscript value slice pos) env) Q E s:=by
 refine Subscript_ (kJ h (λo s₁ h₁=>kJ h₁ (λi s₂ h₂=>?_) λ_ _ x=>x) λ_ _ x=>x)
 obtain⟨hT,h₂⟩:=h₂;unfold Zg;refine jY ?_;rw[getitemInPython_of_ne hT.not_modules];refine jY (wpAny_specialOf hT hl ?_);have fin:kf (ki prog w) A (YY slice false o i) (λr s₃=>kf (ki prog w) A (letTemporaryGo value o r >>= λ_=>pure r) Q E s₃) E s₂:=by
  rw[hs o i];exact wpAny_operating (kJ h₂ (λr s₃ h₃=>jY (wpAny_letTemporaryGo (jZ h₃))) λ_ _ x=>x)
 first
  |exact jZ (jY fin)
  |exact jY (jZ (jY fin))
  |exact jY fin
theorem GY{X:Cx}{oq:List (Addr×Obj)}{σ:St}{H:Hp}{s:Shared}{a:Addr}{y:V}{o:Option V}(I:Inv X oq σ H s) (g:CT H a y o):s.TypeIs (.ref a) "dict" := by
 rcases g with ⟨kvs,k,e,_,_⟩|⟨kvs,k,b,e,_,_,_⟩
 .obtain ⟨_,_,vs,_,dd⟩:=Hh I.hok e;exact dd.typeIs
 .obtain ⟨_,_,xs,_,dd⟩:=Hg I.hok e;exact dd.typeIs
def Po(td ty:TE):TE:=λσ H Q=>td σ H λx H1=>ty σ H1 λy H2=>∃a v,x = .ref a/\CT H2 a y (some v)/\Q v H2
def JZ(ty td:TE):TE:=λσ H Q=>ty σ H λy H1=>td σ H1 λx H2=>∃a o,x = .ref a/\CT H2 a y o/\Q (.bl (!o.isSome)) H2
def RU(td ty tv:TE):TS:=λD σ H=>tv σ H λv H1=>td σ H1 λx H2=>ty σ H2 λy H3=>∃a H4,x = .ref a/\OU H3 a y v H4/\D.nx σ H4
section
variable {X:Cx}{o i e value:Expr}{pos pos' tpos:Pos}{td ty tv:TE}
theorem rS(hu:X.A.units+1<mC) (ho:PE X o td) (hi:PE X i ty) (hs:VF i):PE X (.Subscript o i pos) (Po td ty):=by
 intro oq s σ H Q I h;refine PZ PySem.F.slot_dict_getitem.lookup hs (thn (ho oq s σ H _ I h) λu s1 ⟨x,H1,I1,rx,q1⟩=>thn (hi oq s1 σ H1 _ I1 q1) λiv s2 ⟨y,H2,I2,ry,a,v,ex,g,q2⟩=>?_)
 subst ex;obtain rfl:u=bH a:=rx;exact⟨GY I2 g,Lm hu I2 g ry λw' s3 I3 rw'=>⟨v,H2,I3,rw',q2⟩⟩
theorem zO(hu:X.A.units+1<mC) (hi:PE X i ty) (ho:PE X o td):PC X .NotIn i o (JZ ty td):=by
 intro oq s σ H Q I h;refine thn (hi oq s σ H _ I h) λiv s1 ⟨y,H1,I1,ry,q1⟩=>thn (ho oq s1 σ H1 _ I1 q1) λu s2 ⟨x,H2,I2,rx,a,ov,ex,g,q2⟩=>?_
 subst ex;obtain rfl:u=bH a:=rx;exact Rw hu I2 g ry λs3 I3=>⟨.bl (!ov.isSome),H2,I3,rfl,q2⟩
theorem xZ(hu:X.A.units+1<mC) (ho:PE X o td) (hi:PE X i ty) (hv:PE X value tv) (hs:oh value (some (.Subscript o i pos')) pos.line X.env=pure false) :
  PS X (.Assign [.Subscript o i pos'] value pos) (RU td ty tv):=by
 intro oq s σ H D I h;refine wpAny_Assign_Subscript (thn (hv oq s σ H _ I h) λr s1 ⟨v,H1,I1,rv,q1⟩=>thn (ho oq s1 σ H1 _ I1 q1) λu s2 ⟨x,H2,I2,rx,q2⟩=>thn (hi oq s2 σ H2 _ I2 q2) λiv s3 ⟨y,H3,I3,ry,a,H4,ex,g,q3⟩=>?_) hs
 subst ex;obtain rfl:u=bH a:=rx;exact Ky hu I3 g ry rv λs4 I4=>⟨σ,H4,I4,q3⟩
end
theorem Hz{P:kq}{w:kr}{H:Hp}(h:Heap) (hb:kY<h.objs.size):qW P w H (h.push { cls:=.type "dict", data:=.dict #[] }) h.objs.size (.dK []) :=
 ⟨bg _,beq_eq_false_iff_ne.mpr (Ne.symm (ay hb)),[],.nil,fg.new h⟩
def Mh:TE:=λ_ H Q=>∀p,H p=none->Q (.ref p) (qH H p (.dK []))
section
variable {X:Cx}{pos:Pos}
theorem xG:PE X (.Dict [] [] pos) Mh:=λoq s σ H Q I h =>
 wpAny_Dict_empty ⟨.ref s.heap.objs.size,_,I.laid (a:=s.heap.objs.size) (o:=.dK []) (t':=s.toks) (λ_ _ q=>ae _ q) (ai _) (Hz s.heap I.big),rfl,h _ (I.hok.fresh (ai _))⟩
end
def IB:List (TE×TE)->St->Hp->(List (V×V)->Hp->Prop)->Prop
 | [],_,H,Q=>Q [] H
 | (tk,tv)::r,σ,H,Q=>tk σ H λx H1=>tv σ H1 λy H2=>IB r σ H2 λps H3=>Q ((x,y)::ps) H3
abbrev VV:List (V×V)->List (Value×Value)->Prop:=Paired λp q=>qc p.1 q.1/\qc p.2 q.2
def WJ(X:Cx) (pos:Pos) (keys:List (Option Expr)) (values:List Expr) (trs:List (TE×TE)):Prop :=
 ∀(oq:List (Addr×Obj)) (s:Shared) (σ:St) (H:Hp) (Q:List (V×V)->Hp->Prop),Inv X oq σ H s->IB trs σ H Q ->
  kf (ki X.prog X.w) X.A (evalPairs (pairTrees keys values X.env pos)) (λvs s'=>∃ps H',Inv X oq σ H' s'/\VV ps vs/\Q ps H') X.xe s
theorem Qg{X:Cx}{pos:Pos}:WJ X pos [] [] []:=λoq s σ H Q I h=>pairTrees_nil_walk ⟨[],H,I,.nil,h⟩
theorem MU{X:Cx}{pos:Pos}{k v:Expr}{ks:List (Option Expr)}{vs:List Expr}{tk tv:TE}{trs:List (TE×TE)}(hk:PE X k tk) (hv:PE X v tv) (hr:WJ X pos ks vs trs) :
  WJ X pos (some k::ks) (v::vs) ((tk,tv)::trs):=λoq s σ H Q I h =>
 pairTrees_cons_walk (thn (hk oq s σ H _ I h) λu s1 ⟨x,H1,I1,rx,q1⟩=>thn (hv oq s1 σ H1 _ I1 q1) λw2 s2 ⟨y,H2,I2,ry,q2⟩ =>
  thn (hr oq s2 σ H2 _ I2 q2) λws s3 ⟨ps,H3,I3,rel,q3⟩=>⟨(x,y)::ps,H3,I3,.cons ⟨rx,ry⟩ rel,q3⟩)
def Bx(kvs more:List (oS×V)):List (oS×V):=more.foldl (λacc kv=>wL acc kv.1 kv.2) kvs
theorem KV.merge:∀{more:List (oS×V)}{rs:List (oS×Value)}{kvs:List (oS×V)}{vs:List (oS×Value)},KV more rs->KV kvs vs->KV (Bx kvs more) (merged vs rs):=by
 intro more rs kvs vs r;unfold KV at r
 induction r generalizing kvs vs with
 |nil=>intro q;exact q
 | @cons p q ps qs h t ih =>
  intro r0;have e:KV (wL kvs p.1 p.2) (nv vs q.1 q.2):=by
   have:=r0.put p.1 h.2;rw[←h.1];exact this
  exact ih e
theorem Ac:∀(more kvs:List (oS×V)),(Bx kvs more).length<=kvs.length+more.length
 | [],kvs=>by show kvs.length<=kvs.length+0;lia
 |p::r,kvs=>by
  have h1:=Ac r (wL kvs p.1 p.2);have h2:=wN kvs p.1 p.2;show (Bx (wL kvs p.1 p.2) r).length<=_;rw[lCq];lia
theorem Di{P:kq}{w:kr}:∀{kvs:List (oS×V)}{ws:List (Value×Value)},VV (kvs.map λkv=>(kV kv.1,kv.2)) ws->∃rs,Carries (qA P w) ws rs/\KV kvs rs
 | [],_,r=>by rw[bX]at r;cases r;exact⟨[],True.intro,.nil⟩
 |p::kvs,_,r=>by
  rw[ao]at r;cases r with
  | @cons a b as bs h t =>
   obtain⟨rs,c,q⟩:=Di (P:=P) (w:=w) t;obtain⟨b1,b2⟩:=b;exact⟨(p.1,b2)::rs,⟨Ex h.1,rfl,c⟩,.cons ⟨rfl,h.2⟩ q⟩
def RJ(trs:List (TE×TE)):TE:=λσ H Q=>∀p,H p=none->IB trs σ (qH H p (.dK [])) λps H2=>H2 p=some (.dK [])/\∃kvs:List (oS×V),ps=kvs.map (λkv=>(kV kv.1,kv.2))/\kvs.length<=15/\Q (.ref p) (qH H2 p (.dK (Bx [] kvs)))
theorem Qd{X:Cx}{pos:Pos}{keys:List (Option Expr)}{values:List Expr}{trs:List (TE×TE)}(h:WJ X pos keys values trs) (hall:keys.all (·.isSome)=true) (hl:keys.length=values.length) (h0:keys≠[])
  (h15:keys.length<=15):PE X (.Dict keys values pos) (RJ trs):=by
 intro oq s σ H Q I q;have hn:=I.hok.fresh (ai s.heap.objs.size);have I1:=I.laid (a:=s.heap.objs.size) (o:=.dK []) (h':=s.heap.push { cls:=.type "dict", data:=.dict #[] }) (t':=s.toks) (λ_ _ q=>ae _ q) (ai _) (Hz s.heap I.big)
 refine wpAny_Dict_walk (knd:=qA X.prog X.w) hall hl h0 h15 (thn (h oq _ σ _ _ I1 (q _ hn)) λws s2 ⟨ps,H2,I2,rel,e,kvs,ep,lk,q2⟩=>?_)
 subst ep;obtain⟨rs,c,rk⟩:=Di (P:=X.prog) (w:=X.w) rel;obtain⟨z,hd,vs0,r0,dd⟩:=M5 I2.hok e;cases r0;refine⟨rs,c,dd,λh' dd' hs=>⟨.ref s.heap.objs.size,_,?_,rfl,q2⟩⟩
 have hz:(Bx [] kvs).length<=ko:=by
  have h1:=Ac kvs [];rw[dh]at h1;rw[kN];lia
 have he:∃q,h'.get? s.heap.objs.size=some q:=let ⟨q,_,_,hq,_⟩:=dd';⟨q,hq⟩
 exact Ci I2 (by rw[e];exact True.intro) hs he (Dk hz hd (rk.merge .nil) dd')
structure M1 (X:Cx) (o:Expr) (m:Str) (apos:Pos) (e:Expr) (cpos:Pos):Prop where
 base:mS o m X.env (eval o X.env)=eval o X.env
 few:((lF cpos (kx [e] X.env)).all (λx=>!x.1) && (backToKw cpos (Zx [] X.env)).all (λx=>x.1.isSome)
  && decide (([e]:List Expr).length+([]:List Y7).length+(if ([]:List Y7).isEmpty then 0 else 1)<30))=true
 line:(apos.endLine == cpos.line)=true
 trees:lF cpos (kx [e] X.env)=[(false,eval e X.env)]
structure M2 (X:Cx) (o:Expr) (m:Str) (apos:Pos) (e f:Expr) (cpos:Pos):Prop where
 base:mS o m X.env (eval o X.env)=eval o X.env
 few:((lF cpos (kx [e,f] X.env)).all (λx=>!x.1) && (backToKw cpos (Zx [] X.env)).all (λx=>x.1.isSome)
  && decide (([e,f]:List Expr).length+([]:List Y7).length+(if ([]:List Y7).isEmpty then 0 else 1)<30))=true
 line:(apos.endLine == cpos.line)=true
 trees:lF cpos (kx [e,f] X.env)=[(false,eval e X.env),(false,eval f X.env)]
def X6(H:Hp) (a:Addr):Prop:=(∃kvs,Rd H a (.dK kvs))∨∃kvs,Rd H a (.dT kvs)
theorem Pg{X:Cx}{oq:List (Addr×Obj)}{σ:St}{H:Hp}{s:Shared}{a:Addr}(I:Inv X oq σ H s) (d:X6 H a) :
  s.TypeIs (.ref a) "dict" /\ (∀b,bH a = .ref b->∃ob,s.heap.get? b=some ob/\ob.dict=none)/\(a == kY)=false:=by
 rcases d with ⟨kvs,e⟩|⟨kvs,e⟩
 .obtain ⟨_,hd,vs,_,dd⟩:=Hh I.hok e;refine⟨dd.typeIs,λb q=>?_,hd⟩
  cases q;obtain⟨ob,_,_,h1,h2,_⟩:=dd;exact⟨ob,h1,h2.2.1⟩
 .obtain ⟨_,hd,xs,_,dd⟩:=Hg I.hok e;refine⟨dd.typeIs,λb q=>?_,hd⟩
  cases q;obtain⟨ob,_,_,h1,h2,_⟩:=dd;exact⟨ob,h1,h2.2.1⟩
end L2
namespace Att
open PySem PySem.W PySem.Calls PyProof.Rows
theorem B9{P:Params}{h:Heap}:∀(ns:List Int) (vs:List Value),WellAll P h vs (ns.map WData.int)->kH vs ns:=by
 intro ns
 induction ns with
 |nil =>
  intro vs w;rw[bX]at w;cases w;exact .nil
 |cons n ns ih =>
  intro vs w;rw[ao]at w;cases w with
  |cons a b =>
   cases a;exact .cons _ _ (ih _ b)
theorem KA{l:OpenLaw}{n:Nat}(hn:l.most=some n) {P:Params}{h:Heap}{args:List WData}{vals:List Value}
  (hpre:l.row.toRowW.claim.pre args=true) (hwl:WellAll P h vals args) :
  ∃a vs ns,vals=[bH a]/\args=[WData.list (ns.map WData.int)]/\h.get? a=some { cls:=.type "list", data:=.seq vs.toArray }/\kH vs ns/\ns.length<=n:=by
 have hsh:WShape.hasAll [] args [.list .int]=true:=(pre_splitW hpre).1;have hc:l.pre.holds [] { args:=args }=true:=(pre_splitW hpre).2;obtain⟨d,r,rfl,h1,h2⟩:=hasAllW_cons hsh;obtain rfl:=hasAllW_nil h2;obtain⟨xs,rfl,h3⟩:=hasW_list h1;obtain⟨ns,rfl⟩:=items_int h3;have hlen:ns.length<=n:=by
  unfold OpenLaw.pre at hc;have h4:(WTm.not (.lt (.lit (.int (n:Int))) (.len (.arg 0)))).holds [] { args:=[.list (ns.map .int)] }=true:=by
   have h4:=(holds_andW hc).1;rw[hn]at h4;exact h4
  have h5:=condW_of h4 (w_not (w_lt w_lit (w_len_list (w_arg rfl))));rw[lMq]at h5;refine hW λq=>?_
  have q':(n:Int)<((ns.length:Nat):Int):=by lia
  first
   | (rw[decide_eq_true q']at h5;exact absurd h5 (by decide))
   | (simp at h5;lia)
 cases hwl with
 |cons w1 w2 =>
  cases w2;cases w1 with
  |list ho hall=>exact⟨_,_,ns,rfl,rfl,ho,B9 ns _ hall,hlen⟩
theorem LL(l:OpenLaw) (args:List WData):l.row.toRowW.claim.post args (.bool true) args=true :=
 postW_of (r:=l.row.toRowW) (X:=(true == true))
  (show WShape.has [] (.bool true) .bool=true by first|rfl|decide|simp[WShape.has,WShape.arms,WShape.armsAll])
  (show (WTm.eq .res (.lit (.bool true))).value [] { args:=args,res:=some (.bool true),after:=args }=some (.bool (true == true)) from w_eq_bool (w_res rfl) w_lit) rfl
theorem Ht{l:OpenLaw}{n:Nat}{q:kq}{loose:List Str}{XP:(Str->Option Value)->Heap->Prop}{YP:kr->Heap->Prop}{d:DefRec}
  (hn:l.most=some n) (hdf:d.params.defaults=[])
  (call:∀(w:kr) (s₀ s₁:Shared) (mg mb:Str->Option Value) (fa:Addr) (o:Obj) (pm cd doc:Value) (a:Addr) (vs:List Value) (ns:List Int),
   Ground q loose [] XP w s₀ mg mb s₁.heap->YP w s₁.heap ->
   s₁.heap.get? fa=some o->o.data = .func (docDef d.name d.params d.body d.scope pm cd doc)->s₁.heap.CodeRec cd d.name->mg d.name=some (.ref fa) ->
   s₁.heap.get? a=some { cls:=.type "list", data:=.seq vs.toArray }->kH vs ns->ns.length<=n->s₁.gens=#[] ->
   lO (ki l.prog w) nO (.call (.ref fa) ⟨[.ref a],[]⟩) (λr s'=>r = .ok (.ret (.bool true))/\OldK s₁.heap s'.heap/\s'.os=s₁.os/\mX s'.gens) s₁) :
  WalkO q loose XP YP l.row.toRowW d [] (λf vs=>PySem.call f vs):=by
 intro w s₀ s₁ mg mb G Y fa o pm cd doc dV kV ho hd hcd hD hmg hg args vals as hpre hlay hrd hwl hlo;obtain rfl:dV = .none:=Dflts.none hD hdf;obtain rfl:kV = .none:=Dflts.noKw hD;obtain⟨a,vs,ns,rfl,rfl,hobj,hints,hlen⟩:=KA hn hpre hwl;refine enter_call (ni (call w s₀ s₁ mg mb fa o pm cd doc a vs ns G Y ho (fd_plain hd) hcd hmg hobj hints hlen hg) λr s' hq=>?_)
 obtain⟨rfl,h2,h3,h4⟩:=hq;exact⟨.inl ⟨.bool true,.bool true,[],rfl,λ_=>rfl,.bool true,LL l _,λ_=>⟨cg.nil,λ_ hm=>(nomatch hm)⟩⟩,h2,h3,h4⟩
end Att
namespace L2
open PySem PySem.Spec PyProof.Rows
theorem vals_ints:∀{vs:List Value}{ns:List Int},kH vs ns->pO (ns.map V.int) vs
 |_,_,.nil=>.nil
 |_,_,.cons n t h=>.cons ⟨t,rfl⟩ (vals_ints h)
def Uo(H:Hp):Prop:=∀b,H b=none∨∃o xs,H b=some (.frz o (.lst xs))
theorem Pn{P:kq}{w:kr}{K:W.Frag}{mg mb:Str->Option Value}{CX:Od}{k:Nat}{fa a:Addr}{fd:kG}{x:Str}{sp:Sp}{s₁:Shared}{vs:List Value}{ns:List Int}
  (KX:K.In s₁.heap) (hns:s₁.heap.Ns ku mg) (hb:s₁.heap.Ns builtinsNs mb) (hbb:∀x:Str,x ≠ "__name__" -> mb x=mL x) (hlim:s₁.heap.NoLimit) (hg:s₁.gens=#[])
  (ha:s₁.heap.get? a=some { cls:=.type "list", data:=.seq vs.toArray }) (hi:kH vs ns) (hl:ns.length<=ko) (hr:vP k nO)
  (F:∀base:Heap,K.In base->base.Ns ku mg->B8 P w K mg base CX k fa fd [x] sp) (hbind:∀(s:Shared) (u:Value),Y8 s fd ⟨[u],[]⟩ [(x,u)])
  (hsp:∀H:Hp,Uo H->tu K H a (ns.map V.int)->sp [.ref a] H (λv _=>v = .bl true) λ_ _ _=>False)
  (hCX:∀H e s',CX [] H s₁ (λ_ _ _=>False) e s'->False) :
  lO (ki P w) nO (.call (.ref fa) ⟨[.ref a],[]⟩) (λr s'=>r = .ok (.ret (.bool true))/\OldK s₁.heap s'.heap/\s'.os=s₁.os/\mX s'.gens) s₁:=by
 have rv:=vals_ints hi;have lenV:=hi.length;have core:∀H:Hp,Uo H->tu K H a (ns.map V.int)->Aw P w H s₁.heap->(∀b,H b≠none->b=a)->(H a≠none->K.lookup a=none) ->
   lO (ki P w) nO (.call (.ref fa) ⟨[.ref a],[]⟩) (λr s'=>r = .ok (.ret (.bool true))/\OldK s₁.heap s'.heap/\s'.os=s₁.os/\mX s'.gens) s₁:=by
  intro H hO hS hok hA hK;have base_of:∀{b:Addr}{o:Obj},s₁.heap.get? b=some o->H b=none->(Fk s₁.heap H).get? b=some o:=λe n=>Nj e n
  have noA:∀{b:Addr}{o:Obj}{es:Array DictEntry}{ep:Nat},s₁.heap.get? b=some o->o.data = .dict es ep->H b=none:=λ{b o es ep} e d=>by
   cases q:H b with
   |none=>rfl
   |some u =>
    have e':b=a:=hA b (by rw[q];simp)
    subst e';rw[ha]at e;cases e;have d':Data.seq vs.toArray _=Data.dict es ep:=d;cases d'
  have nsK:∀{b:Addr}{m:Str->Option Value},s₁.heap.Ns b m->(Fk s₁.heap H).Ns b m:=λ{b m} ⟨o,es,ep,e,d,r⟩=>⟨o,es,ep,base_of e (noA e d),d,r⟩
  have hKb:K.In (Fk s₁.heap H):=λb o e=>base_of (KX b o e) (by
   cases q:H b with
   |none=>rfl
   |some u =>
    have e':b=a:=hA b (by rw[q];simp)
    subst e';rw[hK (by rw[q];simp)]at e;cases e)
  have hM:Mod K mg (Fk s₁.heap H):=⟨hKb,nsK hns,⟨mb,nsK hb,hbb⟩,let ⟨mc,h1,h2⟩:=hlim;⟨mc,nsK h1,h2⟩⟩
  have e0:Rn P w K mg (Fk s₁.heap H) nO [] s₁ H:=⟨rfl,hM,λb o e=>QX e,eN (Kv _ _),trivial,λb hb=>absurd (show b∈([]:List Addr) from hb) (by simp),hok,.of_eq hg⟩
  refine ni ((F _ hKb (nsK hns)).run nO [] s₁ H ⟨[.ref a],[]⟩ [.ref a] [.ref a] _ _ hr e0 (hbind s₁ (.ref a)) (.cons rfl .nil) (hsp H hO hS)) λr s' h=>?_
  cases r with
  |error e=>exact(hCX H e s' h).elim
  |ok fl =>
   cases fl with
   |next=>exact False.elim h
   |brk=>exact False.elim h
   |cont=>exact False.elim h
   |ret u =>
    obtain⟨v,H',os,bare,un,hok',r',q⟩:=h;have q':v = .bl true:=q;subst q';obtain rfl:u=jW true:=r';refine⟨rfl,OldK.of_keep λb o e=>?_,os,bare⟩
    cases q:H b with
    |none=>exact un.keep b o e q (by intro z;exact absurd (show b∈([]:List Addr) from z) (by simp)) (by simp)
    |some u =>
     rcases hO b with z|⟨ob,xs,z⟩
     .rw [q]at z;cases z
     .have z2:=un.frzs b ob _ z;obtain⟨e1,_⟩:=hok b _ z;obtain⟨e2,_⟩:=hok' b _ z2;rw[e]at e1;cases e1;exact e2
 cases hk:K.lookup a with
 |some o =>
  have e:=KX a o hk;rw[ha]at e;cases e;refine core (λ_=>none) (λ_=>.inl rfl) (.inr ⟨_,vs.toArray,_,hk,rfl,rfl,rfl,by rw[aB,lenV];exact hl,by simpa using rv⟩) (λb u z=>by have z':(none:Option HO)=some u:=z;cases z') (λb z=>absurd rfl z) λz=>absurd rfl z
 |none =>
  refine core (λb=>if b=a then some (.frz { cls:=.type "list", data:=.seq vs.toArray } (.lst (ns.map V.int))) else none) (λb=>?_) (.inl (.inr ⟨{ cls:=.type "list", data:=.seq vs.toArray },pe rfl⟩)) (λb u z=>?_) (λb z=>?_) λ_=>hk
  .by_cases hb:b=a
   .exact .inr ⟨_,_,pe hb⟩
   .exact .inl (pD hb)
  .by_cases hb:b=a
   .have z':=(pe hb).symm.trans z;cases z';subst hb;exact⟨ha,by rw[lMq];exact hl,vs,_,rv,ha⟩
   .have z':=(pD hb).symm.trans z;cases z'
  .by_cases hb:b=a
   .exact hb
   .exact absurd (pD hb) z
theorem QZ{l:W.OpenLaw}{n k:Nat}{q:kq}{loose:List Str}{XP:(Str->Option Value)->Heap->Prop}{YP:kr->Heap->Prop}{d:DefRec}{K:Params->W.Frag}{CX:kr->Od}{sp:kr->Sp}{x:Str}
  (hn:l.most=some n) (hn2:n<=ko) (hdf:d.params.defaults=[]) (hr:vP k nO)
  (hY:∀(w:kr) (h:Heap),YP w h->(K w.params).In h)
  (F:∀(w:kr) (mg:Str->Option Value) (fa:Addr) (h:Heap),(K w.params).In h->h.Ns ku mg->mg d.name=some (.ref fa) ->
   ∃fd:kG,(∀(s:Shared) (u:Value),Y8 s fd ⟨[u],[]⟩ [(x,u)]) /\
    ∀base:Heap,(K w.params).In base->base.Ns ku mg->B8 l.prog w (K w.params) mg base (CX w) k fa fd [x] (sp w))
  (hsp:∀(w:kr) (H:Hp) (a:Addr) (ns:List Int),ns.length<=n->Uo H->tu (K w.params) H a (ns.map V.int)->sp w [.ref a] H (λv _=>v = .bl true) λ_ _ _=>False)
  (hCX:∀(w:kr) (H:Hp) (s:Shared) (e:Value) (s':Shared),CX w [] H s (λ_ _ _=>False) e s'->False) :
  W.WalkO q loose XP YP l.row.toRowW d [] (λf vs=>PySem.call f vs):=by
 refine Att.Ht hn hdf λw s₀ s₁ mg mb fa o pm cd doc a vs ns G Y ho hd hcd hmg hobj hints hlen hg=>?_
 have KX:=hY w _ Y;obtain⟨fd,hb,hF⟩:=F w mg fa _ KX G.T.g hmg;exact Pn KX G.T.g G.T.b G.T.builtins G.T.nolimit hg hobj hints (bQ hlen hn2) hr hF hb (λH hO hS=>hsp w H a ns hlen hO hS) λH e s'=>hCX w H s₁ e s'
def vR(s:Stmt):Arguments:=match s with
 | .FunctionDef _ a _ _ _ _ _ _ _ _=>a
 |_=>{ posonlyargs:=[],args:=[],vararg:=none,kwonlyargs:=[],kw_defaults:=[],kwarg:=none,defaults:=[] }
def uQ(s:Stmt):List Stmt:=match s with
 | .FunctionDef _ _ b _ _ _ _ _ _ _=>b
 |_=>[]
def oP(s:Stmt):mD:=match s with
 | .FunctionDef _ _ _ _ _ _ sc _ _ _=>sc
 |_=>{ kind:=.function,names:=[],isGenerator:=false,isCoroutine:=false }
abbrev RI:Od:=λ_ _ _ _ _ _=>False
abbrev E0:XK:=λ_ _ _=>False
theorem WC{X:Cx}:HX RI X E0:=λ_ _ _ _ _ _ _ h=>h.elim
structure Sg (K:W.Frag) (x qual:Str) (st:Stmt) (f:Addr) (fd:kG):Prop where
 ex:∃(oc:Value) (od:Option Addr) (kV doc pm:Value) (an:Option Addr) (yO ct:Value) (osl:Array (Option Value)),
  fd=W.fnOf x qual (vR st) (uQ st) (oP st) .none kV doc pm an yO ct/\K.lookup f=some ⟨oc,od,.func fd,osl⟩/\W.codeIn K yO qual=true
 kp:W.keepIn K (.ref f)=true
section
variable {P:kq}{w:kr}{K:W.Frag}{mg:Str->Option Value}{base:Heap}
theorem Sg.ok{x qual:Str}{st:Stmt}{f:Addr}{fd:kG}{N ps:List Str}{k:Nat}{sp:Sp}(F:Sg K x qual st f fd) (S:pH N ps (oP st)) (len:∀vs H Q E,sp vs H Q E->vs.length=ps.length)
  (hbody:∀(yO:Value) (A:Around) (outer:List Env) (s:Shared) (H:Hp) (vs:List V) (Q:VK) (E:XK),vP k (A.deeper (mN qual (oP st) s.heap.objs.size f yO))->sp vs H Q E ->
   ∃t,Jm (H0 RI P w K mg base N qual (oP st) f yO A outer s H E).nox (uQ st) t/\t { nx:=λ_ H'=>Q .non H',rt:=Q } (yG N vs) H):B8 P w K mg base RI (k+1) f fd ps sp:=by
 obtain⟨oc,od,kV,doc,pm,an,yO,ct,osl,rfl,lk,hcd⟩:=F.ex;refine VL lk hcd S len λA outer s H vs Q E hr hsp=>?_
 obtain⟨t,h,q⟩:=hbody yO A outer s H vs Q E hr hsp;exact⟨t,h.nox,q⟩
theorem Sg.binds{x qual:Str}{st:Stmt}{f:Addr}{fd:kG}{ps:List Str}(F:Sg K x qual st f fd)
  (h:∀(kV doc pm:Value) (an:Option Addr) (yO ct:Value) (us:List Value),us.length=ps.length->bindArgs (W.fnOf x qual (vR st) (uQ st) (oP st) .none kV doc pm an yO ct) ⟨us,[]⟩=pure (ps.zip us)):Ab K fd ps []:=by
 obtain⟨oc,od,kV,doc,pm,an,yO,ct,osl,rfl,lk,hcd⟩:=F.ex;exact .all (h kV doc pm an yO ct)
theorem Ie{x qual:Str}{st:Stmt}{f:Addr}{oc:Value}{od an:Option Addr}{osl:Array (Option Value)}{kV doc pm yO ct:Value}(l:K.lookup f=some ⟨oc,od,.func (W.fnOf x qual (vR st) (uQ st) (oP st) .none kV doc pm an yO ct),osl⟩)
  (c:W.codeIn K yO qual=true) (k:W.keepIn K (.ref f)=true):Sg K x qual st f (W.fnOf x qual (vR st) (uQ st) (oP st) .none kV doc pm an yO ct):=⟨⟨oc,od,kV,doc,pm,an,yO,ct,osl,rfl,l,c⟩,k⟩
end
theorem rY{A:Around}{k:Nat}(hr:vP k A):A.units+1<mC:=Nat.lt_of_le_of_lt (Nat.add_le_add_left (by decide:1<=64) _) hr.units
section
variable {X:Cx}
theorem pv(i:Nat) {x:Str}{pos:Pos}(hN:X.N[i]?=some x:=by rfl) (hv:W3 X.env.scope x:=by trivial) (hd:(x == ("__debug__" : Str))=false:=by decide)
  (hcd:(x == ("__classdict__" : Str))=false:=by decide):PE X (.Name x pos) (xq i):=Tn hN hv hd hcd
end
theorem IX{A B:Prop}(h:B):if false=true then A else B:=by
 rw[pD aF];exact h
theorem HZ{A B:Prop}(h:A):if true=true then A else B:=by
 rw[pe rfl];exact h
def qk(H H':Hp):Prop:=∀b o,H b=some o->H' b=some o
theorem qk.refl(H:Hp):qk H H:=λ_ _ h=>h
theorem qk.trans{H H1 H2:Hp}(a:qk H H1) (b:qk H1 H2):qk H H2:=λc o h=>b c o (a c o h)
theorem qk.free{H H':Hp}(e:qk H H') {l:Addr}(h:H' l=jV):H l=jV:=by
 cases q:H l with
 |none=>rfl
 |some o =>
  rw[e l o q]at h;cases h
theorem qk.seq{K:W.Frag}{H H':Hp}{a:Addr}{xs:List V}(e:qk H H') (h:tu K H a xs):tu K H' a xs:=by
 rcases h with (h|⟨o,h⟩)|h
 .exact .inl (.inl (e _ _ h))
 .exact .inl (.inr ⟨o,e _ _ h⟩)
 .exact .inr h
end L2
namespace Mr
def cell(ns:List Int) (k:Nat):Int:=ns.getD k 0
def qi(ns:List Int):Nat->Nat
 |0=>0
 |k+1=>if ns.getD k 0<ns.getD (qi ns k) 0 then k else qi ns k
def HC(ns:List Int) (i:Nat):List Int:=ns.drop i++ns.take i
def good(ns:List Int):List Int:=HC ns (qi ns ns.length)
theorem vZ(ns:List Int):∀n,(0<n->qi ns n<n)/\(∀j,j<n->ns.getD (qi ns n) 0<=ns.getD j 0)/\(∀j,j<qi ns n->ns.getD (qi ns n) 0<ns.getD j 0)
 |0=>⟨λh=>absurd h (eE _),λj h=>absurd h (cK _),λj h=>absurd h (cK _)⟩
 |n+1=>by
  obtain⟨h1,h2,h3⟩:=vZ ns n;simp only[qi]
  by_cases c:ns.getD n 0<ns.getD (qi ns n) 0
  .rw [pe c];refine⟨λ_=>dw n,λj hj=>?_,λj hj=>?_⟩
   .rcases fm (jh hj) with q|q
    .have:=h2 j q;lia
    .subst q;exact iD _
   .have:=h2 j hj;lia
  .rw [pD c];refine⟨λ_=>?_,λj hj=>?_,h3⟩
   .by_cases hn:0<n
    .exact bR (h1 hn)
    .have:n=0:=by lia
     subst this;exact dw 0
   .rcases fm (jh hj) with q|q
    .exact h2 j q
    .subst q;lia
theorem Ij(ns:List Int):qi ns ns.length<=ns.length:=by
 by_cases h:0<ns.length
 .exact bA ((vZ ns ns.length).1 h)
 .have:ns.length=0:=by lia
  rw[this];exact ai 0
theorem wZ{ns:List Int}{j:Nat}(h:j<ns.length):ns.getD j 0=ns[j]:=by
 rw[gDq,gEg h];rfl
theorem B3{ns:List Int}{M:Int}(hm:M∈ns) (hl:∀a,a∈ns->M<=a):ns.idxOf M=qi ns ns.length:=by
 have h0:0<ns.length:=iu hm;obtain⟨h1,h2,h3⟩:=vZ ns ns.length;have h1:=h1 h0;have hi:ns.idxOf M<ns.length:=gY.mpr hm;have e:ns.getD (ns.idxOf M) 0=M:=by rw[wZ hi];exact ja hi
 have eL:ns.getD (qi ns ns.length) 0=M:=by
  have q1:=h2 _ hi;rw[e]at q1;have q2:=hl _ (by rw[wZ h1];exact gRq h1:ns.getD (qi ns ns.length) 0∈ns)
  lia
 rcases gO (ns.idxOf M) (qi ns ns.length) with q|q|q
 .have:=h3 _ q;lia
 .exact q
 .exfalso;have:=List.not_of_lt_findIdx (p:=(· == M)) (xs:=ns) (i:=qi ns ns.length) (by simpa [List.idxOf] using q)
  rw[wZ h1]at eL;simp[eL]at this
theorem AQ:good []=[]:=rfl
theorem Ii(ns:List Int) (i:Nat):(HC ns i).length=ns.length:=by
 unfold HC;rw[lAq,aL,lTq];lia
theorem xg(ns:List Int):(good ns).length=ns.length:=Ii _ _
def step(ns:List Int):Int:=if 0<cell ns 0 % 3 then cell ns 0 % 10 ^ 40+1 else 1
def Vj(ns:List Int):Int:=if 0<cell ns 1 % 3 then cell ns 1 % 10 ^ 40 else 0
def Sf(ns:List Int) (k:Int):Int:=step ns*(((1+cell ns 1 / 3 % 66)*k+cell ns 0 / 3 % 67) % 67+1)+Vj ns
def YO(ns:List Int) (k:Int):Int:=if cell ns 1 % 5=4 then 10 ^ 60-Sf ns k else Sf ns k
theorem Af{A B:List Int}{m:Int}(h:∀x,x∈A->m<x) (h2:∀x,x∈B->m<=x):good (A++m::B)=m::B++A:=by
 have hm:m∈A++m::B:=by simp
 have hl:∀a,a∈A++m::B->m<=a:=λa ha=>by
  rcases mAq.mp ha with q|q
  .exact gw (h a q)
  .rcases ag.mp q with rfl|q
   .exact iD _
   .exact h2 a q
 have e:=B3 hm hl;have ei:(A++m::B).idxOf m=A.length:=by
  rw[List.idxOf_append,pD (λq=>absurd (h m q) (Int.lt_irrefl m)),List.idxOf_cons_self,bF]
 unfold good HC;rw[←e,ei,jD,jE]
theorem Hb{t:List Int}(h0:t≠[]) (hn:t.Nodup):∃A m B,t=A++m::B/\(∀x,x∈A->m<x)/\∀x,x∈B->m<x:=by
 have hl:0<t.length:=cz.mpr h0;obtain⟨h1,h2,h3⟩:=vZ t t.length;have h1:=h1 hl;refine⟨t.take (qi t t.length),t[qi t t.length],t.drop (qi t t.length+1),?_,?_,?_⟩
 .rw [←ba h1,aM]
 .intro x hx;obtain⟨j,hj,rfl⟩:=List.mem_take_iff_getElem.mp hx;have:=h3 j (by lia)
  rw[wZ h1,wZ (by lia)]at this
  exact this
 .intro x hx;obtain⟨j,hj,rfl⟩:=List.mem_drop_iff_getElem.mp hx;have a:=h2 (qi t t.length+1+j) (by lia)
  rw[wZ h1,wZ (by lia)]at a
  have ne:t[qi t t.length]≠t[qi t t.length+1+j]:=bW.mp hn _ _ h1 (by lia) (by lia)
  lia
theorem Hu{t:List Int}(hn:t.Nodup) (i:Nat):good (HC t i)=good t:=by
 by_cases h0:t=[]
 .subst h0;simp[HC]
 .obtain ⟨A,m,B,rfl,h1,h2⟩:=Hb h0 hn;rw[Af h1 (λx q=>gw (h2 x q))]
  by_cases c:i<=A.length
  .have e:HC (A++m::B) i=A.drop i++m::(B++A.take i):=by
    unfold HC;rw[List.drop_append_of_le_length c,List.take_append_of_le_length c];simp
   rw[e,Af (λx q=>h1 x (bx q)) (λx q=>?_)]
   .simp
   .rcases mAq.mp q with q|q
    .exact gw (h2 x q)
    .exact gw (h1 x (bG q))
  .have hi:A.length<i:=by lia
   obtain⟨j,rfl⟩:∃j,i=A.length+(j+1):=⟨i-A.length-1,by lia⟩
   have e:HC (A++m::B) (A.length+(j+1))=(B.drop j++A)++m::B.take j:=by
    unfold HC;rw[jn,List.take_append];simp[dA,bE]
   rw[e,Af (λx q=>?_) (λx q=>gw (h2 x (bG q)))]
   .rw [dU,dU,←aq,aM]
   .rcases mAq.mp q with q|q
    .exact h2 x (bx q)
    .exact h1 x q
theorem N6(t:List Int) (i:Nat):(HC t i).Perm t:=by
 unfold HC;exact bb.trans (by rw[aM])
theorem pE(t:List Int):(good t).Perm t:=N6 t _
theorem sW{rs ts:List (List Int)}(h:rs.Perm ts):rs.flatten.Perm ts.flatten:=by
 induction h with
 |nil=>exact .refl _
 |cons x _ ih=>rw[fCq,fCq];exact aW.append (.refl x) ih
 |swap x y l =>
  rw[fCq,fCq,fCq,fCq,←aq,←aq];exact aW.append bb (.refl _)
 |trans _ _ a b=>exact a.trans b
theorem qX{f:List Int->List Int}(hf:∀r,(f r).Perm r):∀rs:List (List Int),(rs.map f).flatten.Perm rs.flatten
 | []=>.refl _
 |r::rs=>by
  rw[ao,fCq,fCq];exact aW.append (hf r) (qX hf rs)
theorem KS{rs:List (List Int)}{r:List Int}(h:rs.flatten.Nodup) (hr:r∈rs):r.Nodup:=cg.sublist (aD hr) h
theorem Fw{rs:List (List Int)}{r:List Int}(hr:r∈rs):r.length<=rs.flatten.length:=(aD hr).length_le
theorem JX:∀t:Fin 66,∀d:Fin 67,0<d.val->(t.val+1)*d.val % 67≠0:=by decide +kernel
end Mr
namespace MrS
open PySem PyProof.Rows
def wW:Bool->kc->Array kc->Nat->Nat->Nat->StateT SortSt Sem (Option Nat):=sortPriv% PySem.Builtin.gallop
structure zw (prog:kq) (w:kr) (A:Around) (s:Shared) (κ:kQ) (P:kc->Prop) (lt:kc->kc->Bool):Prop where
 ask:∀x y,P x->P y->∀(E:Value->Shared->Prop) (Q:Bool->Shared->Prop),Q (lt x y) s->kf (ki prog w) A (keyLt' κ x.1 y.1) Q E s
 asym:∀x y,P x->P y->lt x y=true->lt y x=false
 trans:∀x y z,P x->P y->P z->lt y x=false->lt z y=false->lt z x=false
section
variable {prog:kq}{w:kr}{A:Around}{E:Value->Shared->Prop}{s:Shared}{κ:kQ}{P:kc->Prop}{lt:kc->kc->Bool}
theorem zw.refl(C:zw prog w A s κ P lt) {x:kc}(hx:P x):lt x x=false:=by
 cases e:lt x x with
 |false=>rfl
 |true=>rw[←C.asym x x hx hx e,e]
theorem zw.cmp(C:zw prog w A s κ P lt) {x y:kc}{st:SortSt}{Q:Option Bool->SortSt->Prop}(hx:P x) (hy:P y) (hk:kindOf st=κ) (h:Q (some (lt x y)) st) :
  wpS (ki prog w) A E s (lt' x y) Q st:=by
 rw[lt'_eq];refine kj (mG ?_);rw[hk];refine kj (wpS_lift (lH (C.ask x y hx hy _ _ ⟨rfl,?_⟩)));exact km h
theorem pV{arr:Array kc}{i:Nat}{x:kc}{st:SortSt}{Q:kc->SortSt->Prop}(hx:arr[i]?=some x) (h:Q x st):wpS (ki prog w) A E s (kX arr i) Q st:=by
 rw[elem'_eq,hx];exact km h
theorem zw.at(C:zw prog w A s κ P lt) {i j:Nat}{x y:kc}{st:SortSt}{Q:Option Bool->SortSt->Prop}(hi:(kz st)[i]?=some x) (hj:(kz st)[j]?=some y) (hx:P x) (hy:P y) (hk:kindOf st=κ) (h:Q (some (lt x y)) st) :
  wpS (ki prog w) A E s (ltAt' i j) Q st:=by
 rw[ltAt'_eq];refine kj (mG ?_);exact kj (pV hi (kj (pV hj (C.cmp hx hy hk h))))
def yo(lt:kc->kc->Bool) (left:Bool) (key:kc) (arr:Array kc) (base i:Nat):Bool :=
 if left then lt (arr.getD (base+i) key) key else !lt key (arr.getD (base+i) key)
theorem Jd(left:Bool) (key:kc) (arr:Array kc) (base n hint:Nat):wW left key arr base n hint=(do
 let beyond (i:Nat):StateT SortSt Sem (Option Bool):=do
  let x ←kX arr (base+i)
  if left then lt' x key else return (←lt' key x).map (!·)
 let mut lastofs:=0
 let mut ofs:=1
 let mut lo:=0
 let mut hi:=0
 let some right ←beyond hint|return none
 if right then
  let maxofs:=n-hint
  for _ in [0:n] do
   if ofs ≥ maxofs then break
   let some more ←beyond (hint+ofs)|return none
   if !more then break
   lastofs:=ofs
   ofs:=2*ofs+1
  lo:=hint+lastofs+1
  hi:=hint+min ofs maxofs
 else
  let maxofs:=hint+1
  for _ in [0:n] do
   if ofs ≥ maxofs then break
   let some found ←beyond (hint-ofs)|return none
   if found then break
   lastofs:=ofs
   ofs:=2*ofs+1
  lo:=hint+1-min ofs maxofs
  hi:=hint-lastofs
 for _ in [0:n] do
  if lo ≥ hi then break
  let m:=lo+(hi-lo) / 2
  let some more ←beyond m|return none
  if more then lo:=m+1 else hi:=m
 return some hi):=rfl
theorem wD(C:zw prog w A s κ P lt) {left:Bool}{key:kc}{arr:Array kc}{base i:Nat}{st:SortSt}{Q:Option Bool->SortSt->Prop}(hi:base+i<arr.size) (ha:∀x,x∈arr->P x) (hkey:P key) (hk:kindOf st=κ)
  (h:Q (some (yo lt left key arr base i)) st):wpS (ki prog w) A E s (do
   let x ←kX arr (base+i)
   if left=true then lt' x key else do
    let __x ←lt' key x
    pure (__x.map (!·))) Q st:=by
 have e:arr[base+i]?=some arr[base+i]:=af hi;have e2:arr.getD (base+i) key=arr[base+i]:=by simp[fQ,hi]
 refine kj (pV e ?_);have hp:P arr[base+i]:=ha _ (bu hi);unfold yo at h;rw[e2]at h;cases left with
 |true =>
  rw[pe rfl]at h ⊢;exact C.cmp hp hkey hk h
 |false =>
  rw[pD (by decide)]at h ⊢
  exact kj (C.cmp hkey hp hk (km h))
theorem BY{left:Bool}{key:kc}{arr:Array kc}{base n lo hi:Nat}{st:SortSt}{f:Nat->Option (Option Nat)×Nat×Nat->StateT SortSt Sem (ForInStep (Option (Option Nat)×Nat×Nat))}
  (mono:∀i j,i<=j->j<n->yo lt left key arr base j=true->yo lt left key arr base i=true)
  (down:∀i j,i<=j->j<n->yo lt left key arr base i=false->yo lt left key arr base j=false)
  (hf:∀(i l u:Nat) (Q':ForInStep (Option (Option Nat)×Nat×Nat)->SortSt->Prop),u<=n->(u<=l->Q' (.done (none,l,u)) st)->(l<u->yo lt left key arr base (l+(u-l) / 2)=true->Q' (.yield (none,l+(u-l) / 2+1,u)) st) ->
   (l<u->yo lt left key arr base (l+(u-l) / 2)=false->Q' (.yield (none,l,l+(u-l) / 2)) st)->wpS (ki prog w) A E s (f i (none,l,u)) Q' st)
  (h1:lo<=hi) (h2:hi<=n) (h3:∀j,j<lo->yo lt left key arr base j=true) (h4:∀j,hi<=j->j<n->yo lt left key arr base j=false) :
  wpS (ki prog w) A E s (forIn [:n] ((none,lo,hi):Option (Option Nat)×Nat×Nat) f)
   (λc st'=>∃k,c=(none,k,k)/\st'=st/\k<=n/\(∀j,j<k->yo lt left key arr base j=true)/\(∀j,k<=j->j<n->yo lt left key arr base j=false)) st:=by
 refine kM
  (I:=λi c st'=>∃l u,c=(none,l,u)/\st'=st/\l<=u/\u<=n/\(∀j,j<l->yo lt left key arr base j=true)/\(∀j,u<=j->j<n->yo lt left key arr base j=false)/\(u-l)+i<=n)
  ?step ?fin ⟨lo,hi,rfl,rfl,h1,h2,h3,h4,by lia⟩
 case step =>
  rintro i c st' _ hi' ⟨l,u,rfl,rfl,a1,a2,a3,a4,a5⟩;refine hf i l u _ a2 (λc1=>?_) (λc1 e=>?_) (λc1 e=>?_)
  .have e:l=u:=by lia
   subst e;exact⟨l,rfl,rfl,a2,a3,a4⟩
  .exact ⟨_,u,rfl,rfl,by lia,a2,λj hj=>mono j _ (by lia) (by lia) e,a4,by lia⟩
  .exact ⟨l,_,rfl,rfl,by lia,by lia,a3,λj hj hn=>down _ j hj hn e,by lia⟩
 case fin =>
  rintro c st' ⟨l,u,rfl,rfl,a1,a2,a3,a4,a5⟩;have e:l=u:=by lia
  subst e;exact⟨l,rfl,rfl,a2,a3,a4⟩
theorem vx(C:zw prog w A s κ P lt) {left:Bool}{key:kc}{arr:Array kc}{base n hint:Nat}{st:SortSt}{Q:Option Nat->SortSt->Prop}(hh:hint<n) (hb:base+n<=arr.size) (ha:∀x,x∈arr->P x) (hkey:P key) (hk:kindOf st=κ)
  (mono:∀i j,i<=j->j<n->yo lt left key arr base j=true->yo lt left key arr base i=true)
  (h:∀k,k<=n->(∀j,j<k->yo lt left key arr base j=true)->(∀j,k<=j->j<n->yo lt left key arr base j=false)->Q (some k) st) :
  wpS (ki prog w) A E s (wW left key arr base n hint) Q st:=by
 have down:∀i j,i<=j->j<n->yo lt left key arr base i=false->yo lt left key arr base j=false:=λi j hij hj e=>by
  cases q:yo lt left key arr base j with
  |false=>rfl
  |true=>rw[mono i j hij hj q]at e;cases e
 rw[Jd];dsimp only;refine kj (wD C (base:=base) (i:=hint) (by lia) ha hkey hk ?_)
 cases er:yo lt left key arr base hint with
 |true =>
  dsimp only;rw[pe rfl];refine kj (kW (kM
   (I:=λi c st'=>∃l o,c=(none,l,o)/\st'=st/\l<o/\i+1<=o/\hint+l<n/\yo lt left key arr base (hint+l)=true)
   (Q:=λc st'=>∃l o,c=(none,l,o)/\st'=st/\l<o/\hint+l<n/\yo lt left key arr base (hint+l)=true/\(n-hint<=o∨(hint+o<n/\yo lt left key arr base (hint+o)=false)))
   ?step ?fin ⟨0,1,rfl,rfl,by lia,by lia,by lia,er⟩) ?post)
  case step =>
   rintro i c st' _ hi' ⟨l,o,rfl,rfl,a1,a2,a3,a4⟩;dsimp only
   by_cases c1:o ≥ n-hint
   .rw [pe c1];exact km ⟨l,o,rfl,rfl,a1,a3,a4,.inl c1⟩
   .rw [pD c1];refine kj (wD C (base:=base) (i:=hint+o) (by lia) ha hkey hk ?_)
    cases e:yo lt left key arr base (hint+o) with
    |true =>
     dsimp only;rw[pD (by decide)]
     exact km ⟨o,_,rfl,rfl,by lia,by lia,by lia,e⟩
    |false =>
     dsimp only;rw[pe (by decide)]
     exact km ⟨l,o,rfl,rfl,a1,a3,a4,.inr ⟨by lia,e⟩⟩
  case fin =>
   rintro c st' ⟨l,o,rfl,rfl,a1,a2,a3,a4⟩;exact⟨l,o,rfl,rfl,a1,a3,a4,.inl (by lia)⟩
  case post =>
   rintro c st' ⟨l,o,rfl,rfl,a1,a3,a4,a5⟩;dsimp only;refine kj (kW (BY (lt:=lt) (left:=left) (key:=key) (arr:=arr) (base:=base) mono down (λi l' u' Q' hu q1 q2 q3=>?_) (by lia) (by lia) (λj hj=>mono j _ (by lia) a3 a4) ?_) ?_)
   .dsimp only
    by_cases c1:l' ≥ u'
    .rw [pe c1];exact km (q1 c1)
    .rw [pD c1];refine kj (wD C (base:=base) (i:=l'+(u'-l') / 2) (by lia) ha hkey hk ?_)
     cases e:yo lt left key arr base (l'+(u'-l') / 2) with
     |true =>
      dsimp only;rw[pe rfl];exact km (q2 (by lia) e)
     |false =>
      dsimp only;rw[pD (by decide)]
      exact km (q3 (by lia) e)
   .intro j hj hn;rcases a5 with a5|⟨a5,a6⟩
    .lia
    .exact down (hint+o) j (by lia) hn a6
   .rintro c st' ⟨k,rfl,rfl,k1,k2,k3⟩;exact km (h k k1 k2 k3)
 |false =>
  dsimp only;rw[pD (by decide)]
  refine kj (kW (kM
   (I:=λi c st'=>∃l o,c=(none,l,o)/\st'=st/\l<o/\i+1<=o/\l<=hint/\yo lt left key arr base (hint-l)=false)
   (Q:=λc st'=>∃l o,c=(none,l,o)/\st'=st/\l<o/\l<=hint/\yo lt left key arr base (hint-l)=false/\(hint+1<=o∨(o<=hint/\yo lt left key arr base (hint-o)=true)))
   ?step ?fin ⟨0,1,rfl,rfl,by lia,by lia,by lia,er⟩) ?post)
  case step =>
   rintro i c st' _ hi' ⟨l,o,rfl,rfl,a1,a2,a3,a4⟩;dsimp only
   by_cases c1:o ≥ hint+1
   .rw [pe c1];exact km ⟨l,o,rfl,rfl,a1,a3,a4,.inl c1⟩
   .rw [pD c1];refine kj (wD C (base:=base) (i:=hint-o) (by lia) ha hkey hk ?_)
    cases e:yo lt left key arr base (hint-o) with
    |true =>
     dsimp only;rw[pe rfl];exact km ⟨l,o,rfl,rfl,a1,a3,a4,.inr ⟨by lia,e⟩⟩
    |false =>
     dsimp only;rw[pD (by decide)]
     exact km ⟨o,_,rfl,rfl,by lia,by lia,by lia,e⟩
  case fin =>
   rintro c st' ⟨l,o,rfl,rfl,a1,a2,a3,a4⟩;exact⟨l,o,rfl,rfl,a1,a3,a4,.inl (by lia)⟩
  case post =>
   rintro c st' ⟨l,o,rfl,rfl,a1,a3,a4,a5⟩;dsimp only;refine kj (kW (BY (lt:=lt) (left:=left) (key:=key) (arr:=arr) (base:=base) mono down (λi l' u' Q' hu q1 q2 q3=>?_) (by lia) (by lia) ?_ (λj hj hn=>down _ j hj hn a4)) ?_)
   .dsimp only
    by_cases c1:l' ≥ u'
    .rw [pe c1];exact km (q1 c1)
    .rw [pD c1];refine kj (wD C (base:=base) (i:=l'+(u'-l') / 2) (by lia) ha hkey hk ?_)
     cases e:yo lt left key arr base (l'+(u'-l') / 2) with
     |true =>
      dsimp only;rw[pe rfl];exact km (q2 (by lia) e)
     |false =>
      dsimp only;rw[pD (by decide)]
      exact km (q3 (by lia) e)
   .intro j hj;rcases a5 with a5|⟨a5,a6⟩
    .lia
    .exact mono j (hint-o) (by lia) (by lia) a6
   .rintro c st' ⟨k,rfl,rfl,k1,k2,k3⟩;exact km (h k k1 k2 k3)
end
abbrev xX(lt:kc->kc->Bool) (l:List kc):Prop:=l.Pairwise λx y=>lt y x=false
structure MI (lt:kc->kc->Bool) (a b out:Array kc) (ia ib:Nat):Prop where
 la:ia<=a.size
 lb:ib<=b.size
 pm:(out.toList++(a.toList.drop ia++b.toList.drop ib)).Perm (a.toList++b.toList)
 so:xX lt out.toList
 ua:∀x∈out.toList,∀y∈a.toList.drop ia,lt y x=false
 ub:∀x∈out.toList,∀y∈b.toList.drop ib,lt y x=false
section
variable {lt:kc->kc->Bool}{a b out out':Array kc}{ia ib k:Nat}
theorem MI.congr(m:MI lt a b out ia ib) (e:out'.toList=out.toList):MI lt a b out' ia ib:=⟨m.la,m.lb,by rw[e];exact m.pm,by rw[e];exact m.so,by rw[e];exact m.ua,by rw[e];exact m.ub⟩
theorem GQ(l:List kc) (i k:Nat):l.drop i=(l.drop i).take k++l.drop (i+k):=by
 rw[←jF,aM]
theorem yp(a:Array kc) (i k:Nat):(a.extract i (i+k)).toList=(a.toList.drop i).take k:=by
 rw[eQ,eW,hZ]
theorem MI.moreA(m:MI lt a b out ia ib) (sa:xX lt a.toList) (hk:ia+k<=a.size) (h:∀x∈(a.toList.drop ia).take k,∀y∈b.toList.drop ib,lt y x=false):MI lt a b (out++a.extract ia (ia+k)) (ia+k) ib:=by
 have e:(out++a.extract ia (ia+k)).toList=out.toList++(a.toList.drop ia).take k:=by rw[aQ,yp]
 have sd:xX lt (a.toList.drop ia):=sa.sublist (bY _ _);have c:=GQ a.toList ia k;have sd2:=sd;rw[c]at sd2;obtain⟨q1,q2,q3⟩:=aV.mp sd2;refine⟨hk,m.lb,?_,?_,?_,?_⟩
 .rw [e,aq];refine(aW.append_left _ ?_).trans m.pm;rw[←aq,←c]
 .rw [e];exact aV.mpr ⟨m.so,q1,λx hx y hy=>m.ua x hx y (bG hy)⟩
 .rw [e];intro x hx y hy;rcases mAq.mp hx with hx|hx
  .exact m.ua x hx y (by rw[c];exact ar _ hy)
  .exact q3 x hx y hy
 .rw [e];intro x hx y hy;rcases mAq.mp hx with hx|hx
  .exact m.ub x hx y hy
  .exact h x hx y hy
theorem MI.moreB(m:MI lt a b out ia ib) (sb:xX lt b.toList) (hk:ib+k<=b.size) (h:∀x∈(b.toList.drop ib).take k,∀y∈a.toList.drop ia,lt y x=false):MI lt a b (out++b.extract ib (ib+k)) ia (ib+k):=by
 have e:(out++b.extract ib (ib+k)).toList=out.toList++(b.toList.drop ib).take k:=by rw[aQ,yp]
 have sd:xX lt (b.toList.drop ib):=sb.sublist (bY _ _);have c:=GQ b.toList ib k;have sd2:=sd;rw[c]at sd2;obtain⟨q1,q2,q3⟩:=aV.mp sd2;refine⟨m.la,hk,?_,?_,?_,?_⟩
 .rw [e,aq];refine(aW.append_left _ ?_).trans m.pm;refine((List.perm_append_comm_assoc _ _ _).trans ?_);rw[←c]
 .rw [e];exact aV.mpr ⟨m.so,q1,λx hx y hy=>m.ub x hx y (bG hy)⟩
 .rw [e];intro x hx y hy;rcases mAq.mp hx with hx|hx
  .exact m.ua x hx y hy
  .exact h x hx y hy
 .rw [e];intro x hx y hy;rcases mAq.mp hx with hx|hx
  .exact m.ub x hx y (by rw[c];exact ar _ hy)
  .exact q3 x hx y hy
theorem ym{l:List kc}{i:Nat}{x:kc}(h:l[i]?=some x):(l.drop i).take 1=[x]:=by
 obtain⟨hi,e⟩:=gSq.mp h;rw[ba hi,e];rfl
theorem MI.pushA{x:kc}(m:MI lt a b out ia ib) (sa:xX lt a.toList) (hx:a[ia]?=some x) (h:∀y∈b.toList.drop ib,lt y x=false):MI lt a b (out.push x) (ia+1) ib:=by
 have hi:ia<a.size:=(aY.mp hx).1;have hx':a.toList[ia]?=some x:=by rw[ax];exact hx
 refine(m.moreA sa (k:=1) hi λz hz y hy=>?_).congr ?_
 .rw [ym hx',mSq]at hz;rw[hz];exact h y hy
 .rw [cA,aQ,yp,ym hx']
theorem MI.pushB{x:kc}(m:MI lt a b out ia ib) (sb:xX lt b.toList) (hx:b[ib]?=some x) (h:∀y∈a.toList.drop ia,lt y x=false):MI lt a b (out.push x) ia (ib+1):=by
 have hi:ib<b.size:=(aY.mp hx).1;have hx':b.toList[ib]?=some x:=by rw[ax];exact hx
 refine(m.moreB sb (k:=1) hi λz hz y hy=>?_).congr ?_
 .rw [ym hx',mSq]at hz;rw[hz];exact h y hy
 .rw [cA,aQ,yp,ym hx']
structure PN (lt:kc->kc->Bool) (a b r:Array kc):Prop where
 pm:r.toList.Perm (a.toList++b.toList)
 so:xX lt r.toList
theorem xA(a:Array kc) (i:Nat):(a.extract i a.size).toList=a.toList.drop i:=by
 rw[eQ,eW];exact bE (by rw[aL,au];exact ai _)
theorem MI.endB(m:MI lt a b out ia ib) (sa:xX lt a.toList) (e:ib=b.size):PN lt a b (out++a.extract ia a.size++b.extract ib b.size):=by
 have eb:b.toList.drop ib=[]:=by rw[e,←au,dW]
 have et:(out++a.extract ia a.size++b.extract ib b.size).toList=out.toList++a.toList.drop ia:=by
  rw[aQ,aQ,xA,xA,eb,aNq]
 have pm:=m.pm;rw[eb,aNq]at pm;exact⟨by rw[et];exact pm,by rw[et];exact aV.mpr ⟨m.so,sa.sublist (bY _ _),m.ua⟩⟩
theorem MI.endA(m:MI lt a b out ia ib) (sb:xX lt b.toList) (e:ia=a.size):PN lt a b (out++a.extract ia a.size++b.extract ib b.size):=by
 have ea:a.toList.drop ia=[]:=by rw[e,←au,dW]
 have et:(out++a.extract ia a.size++b.extract ib b.size).toList=out.toList++b.toList.drop ib:=by
  rw[aQ,aQ,xA,xA,ea,aNq]
 have pm:=m.pm;rw[ea,eF]at pm;exact⟨by rw[et];exact pm,by rw[et];exact aV.mpr ⟨m.so,sb.sublist (bY _ _),m.ub⟩⟩
theorem MI.lastA(m:MI lt a b out ia ib) (sa:xX lt a.toList) (sb:xX lt b.toList) (h:∀x∈b.toList.drop ib,∀y∈a.toList.drop ia,lt y x=false):PN lt a b (out++b.extract ib b.size++a.extract ia a.size):=by
 have et:(out++b.extract ib b.size++a.extract ia a.size).toList=out.toList++(b.toList.drop ib++a.toList.drop ia):=by
  rw[aQ,aQ,xA,xA,aq]
 refine⟨?_,?_⟩
 .rw [et];exact(aW.append_left _ bb).trans m.pm
 .rw [et];refine aV.mpr ⟨m.so,aV.mpr ⟨sb.sublist (bY _ _),sa.sublist (bY _ _),h⟩,λx hx y hy=>?_⟩
  rcases mAq.mp hy with hy|hy
  .exact m.ub x hx y hy
  .exact m.ua x hx y hy
end
def Cv:Array kc->Array kc->StateT SortSt Sem (Array kc):=sortPriv% PySem.Builtin.mergeLo
def tj:Nat->StateT SortSt Sem Unit:=sortPriv% PySem.Builtin.setMinGallop
abbrev sg(st:SortSt) (g:Nat):SortSt:=SortSt.mk' (kindOf st) (kz st) (lV st) g (failedOf st)
theorem Bs(g:Nat):tj g=modify λst=>sg st g:=rfl
section
variable (a b:Array kc)
abbrev dn(o:Array kc) (i j:Nat):=o++a.extract i a.size++b.extract j b.size
abbrev lA(o:Array kc) (i j:Nat):=o++b.extract j b.size++a.extract i a.size
abbrev SF(α:Type):=ForInStep (Option (Array kc)×Array kc×Nat×Nat×α)
def XG(o:Array kc) (i j m k l:Nat):StateT SortSt Sem (SF (Nat×Nat×Nat)):=do
 let x ←kX a i
 if i+1+1 == a.size then pure (.done (some (lA a b (o.push x) (i+1) j),o.push x,i+1,j,m,k,l))
 else if decide (k<7) && decide (l<7) then pure (.done (none,o.push x,i+1,j,m,k,l))
 else pure (.yield (none,o.push x,i+1,j,m,k,l))
def Xc(o:Array kc) (i j m k q:Nat):StateT SortSt Sem (SF (Nat×Nat×Nat)):=do
 let x ←kX b j
 if j+1 == b.size then pure (.done (some (dn a b (o.push x) i (j+1)),o.push x,i,j+1,m,k,q))
 else do
  let y ←kX a i
  match ←wW true y b (j+1) (b.size-(j+1)) 0 with
  |some l =>
   if l>0 then
    if j+1+l == b.size then pure (.done (some (dn a b (o.push x++b.extract (j+1) (j+1+l)) i (j+1+l)),o.push x++b.extract (j+1) (j+1+l),i,j+1+l,m,k,l))
    else XG a b (o.push x++b.extract (j+1) (j+1+l)) i (j+1+l) m k l
   else XG a b (o.push x) i (j+1) m k l
  |_=>pure (.done (some (dn a b (o.push x) i (j+1)),o.push x,i,j+1,m,k,q))
def XM(o:Array kc) (i j m p q:Nat):StateT SortSt Sem (SF (Nat×Nat×Nat)):=do
 tj m
 let x ←kX b j
 match ←wW false x a i (a.size-i) 0 with
 |some k =>
  if k>0 then
   if i+k+1 == a.size then pure (.done (some (lA a b (o++a.extract i (i+k)) (i+k) j),o++a.extract i (i+k),i+k,j,m,k,q))
   else if i+k == a.size then pure (.done (some (dn a b (o++a.extract i (i+k)) (i+k) j),o++a.extract i (i+k),i+k,j,m,k,q))
   else Xc a b (o++a.extract i (i+k)) (i+k) j m k q
  else Xc a b o i j m k q
 |_=>pure (.done (some (dn a b o i j),o,i,j,m,p,q))
def Yj(m:Nat) (o:Array kc) (i j p q:Nat):StateT SortSt Sem (SF (Nat×Nat)):=do
 let y ←kX b j
 let x ←kX a i
 match ←lt' y x with
 |some c =>
  if c then do
   let z ←kX b j
   if j+1 == b.size then pure (.done (some (dn a b (o.push z) i (j+1)),o.push z,i,j+1,0,q+1))
   else if q+1 ≥ m then pure (.done (none,o.push z,i,j+1,0,q+1))
   else pure (.yield (none,o.push z,i,j+1,0,q+1))
  else do
   let z ←kX a i
   if i+1+1 == a.size then pure (.done (some (lA a b (o.push z) (i+1) j),o.push z,i+1,j,p+1,0))
   else if p+1 ≥ m then pure (.done (none,o.push z,i+1,j,p+1,0))
   else pure (.yield (none,o.push z,i+1,j,p+1,0))
 |_=>pure (.done (some (dn a b o i j),o,i,j,p,q))
def XX(o:Array kc) (i j m:Nat):StateT SortSt Sem (SF Nat):=do
 let r ←forIn [0:a.size+b.size] (none,o,i,j,0,0) λ_ s=>Yj a b m s.2.1 s.2.2.1 s.2.2.2.1 s.2.2.2.2.1 s.2.2.2.2.2
 Break.runK.match_1 (λ_=>StateT SortSt Sem (SF Nat)) r.1 (λv=>pure (.done (some v,r.2.1,r.2.2.1,r.2.2.2.1,m))) λ_=>do
  rule "list.sort.gallop"
  let r ←forIn [0:a.size+b.size] (none,r.2.1,r.2.2.1,r.2.2.2.1,m+1,r.2.2.2.2.1,r.2.2.2.2.2) λ_ s=>if s.2.2.2.2.1>1 then XM a b s.2.1 s.2.2.1 s.2.2.2.1 (s.2.2.2.2.1-1) s.2.2.2.2.2.1 s.2.2.2.2.2.2 else XM a b s.2.1 s.2.2.1 s.2.2.2.1 s.2.2.2.2.1 s.2.2.2.2.2.1 s.2.2.2.2.2.2
  Break.runK.match_1 (λ_=>StateT SortSt Sem (SF Nat)) r.1 (λv=>pure (.done (some v,r.2.1,r.2.2.1,r.2.2.2.1,r.2.2.2.2.1))) λ_=>do
   tj (r.2.2.2.2.1+1)
   pure (.yield (none,r.2.1,r.2.2.1,r.2.2.2.1,r.2.2.2.2.1+1))
theorem G5:Cv a b=(do
 rule "list.sort.merge-lo"
 let x ←kX b 0
 if 1 == b.size then pure (dn a b #[x] 0 1)
 else if 0+1 == a.size then pure (lA a b #[x] 0 1)
 else do
  let st ←get
  let r ←forIn [0:a.size+b.size] (none,#[x],0,1,mT st) λ_ s=>XX a b s.2.1 s.2.2.1 s.2.2.2.1 s.2.2.2.2
  Break.runK.match_1 (λ_=>StateT SortSt Sem (Array kc)) r.1 (λv=>pure v) λ_=>lz "internal:list.sort.merge-bound"):=rfl
end
section
variable {prog:kq}{w:kr}{A:Around}{E:Value->Shared->Prop}{s:Shared}{κ:kQ}{P:kc->Prop}{lt:kc->kc->Bool}
theorem yh{g:Nat}{st:SortSt}{Q:Unit->SortSt->Prop}(h:Q () (sg st g)):wpS (ki prog w) A E s (tj g) Q st:=by
 rw[Bs];exact mv h
theorem xC{x:String}{st:SortSt}{Q:Unit->SortSt->Prop}(h:Q () st):wpS (ki prog w) A E s (liftM (rule x):StateT SortSt Sem Unit) Q st:=wpS_lift (mz ⟨rfl,h⟩)
theorem Ce(C:zw prog w A s κ P lt) {a:Array kc}{i:Nat}{x:kc}(ha:∀x,x∈a->P x) (sa:xX lt a.toList) (hx:a[i]?=some x):∀y∈a.toList.drop i,lt y x=false:=by
 obtain⟨hi,e⟩:=aY.mp hx;have hi':i<a.toList.length:=by simpa using hi
 have e':a.toList[i]=x:=by simpa using e
 have sd:xX lt (a.toList.drop i):=sa.sublist (bY _ _);rw[ba hi',e']at sd ⊢;intro y hy;rcases ag.mp hy with rfl|hy
 .exact C.refl (ha _ (by rw[←e];exact bu hi))
 .exact (gJ.mp sd).1 y hy
theorem wx{a:Array kc}{i:Nat}{y:kc}(h:y∈a.toList.drop i):y∈a:=by simpa using bx h
theorem Bd(C:zw prog w A s κ P lt) {left:Bool}{key:kc}{arr:Array kc}{base n:Nat}(hb:base+n<=arr.size) (ha:∀x,x∈arr->P x) (hkey:P key) (so:xX lt (arr.toList.drop base)) :
  ∀i j,i<=j->j<n->yo lt left key arr base j=true->yo lt left key arr base i=true:=by
 intro i j hij hj h;have hi':base+i<arr.size:=by lia
 have hj':base+j<arr.size:=by lia
 have ei:arr.getD (base+i) key=arr[base+i]:=by simp[fQ,hi']
 have ej:arr.getD (base+j) key=arr[base+j]:=by simp[fQ,hj']
 have pi:=ha _ (bu hi');have pj:=ha _ (bu hj');have le:lt arr[base+j] arr[base+i]=false:=by
  rcases fm hij with q|q
  .have:=bW.mp so i j (by simp;lia) (by simp;lia) q
   simpa using this
  .subst q;exact C.refl pi
 unfold yo at h ⊢;rw[ei];rw[ej]at h;cases left with
 |true =>
  rw[pe rfl]at h ⊢;cases q:lt arr[base+i] key with
  |true=>rfl
  |false =>
   have:=C.trans key arr[base+i] arr[base+j] hkey pi pj q le;rw[h]at this;cases this
 |false =>
  rw[pD (by decide)]at h ⊢
  have h':lt key arr[base+j]=false:=by simpa using h
  have:=C.trans arr[base+i] arr[base+j] key pi pj hkey le h';simp[this]
theorem uR{left:Bool}{key x:kc}{arr:Array kc}{base i:Nat}(hx:arr[base+i]?=some x):yo lt left key arr base i=if left then lt x key else !lt key x:=by
 obtain⟨hi,e⟩:=aY.mp hx;unfold yo;have ei:arr.getD (base+i) key=x:=by simp[fQ,hi,e]
 rw[ei]
theorem xl{a:Array kc}{i k:Nat}{x:kc}(h:x∈(a.toList.drop i).take k):∃j,j<k/\a[i+j]?=some x:=by
 obtain⟨j,hj,e⟩:=cX.mp h;rw[lTq]at hj;refine⟨j,by lia,?_⟩
 rw[gP,fL]at e;rw[aY];have hs:i+j<a.size:=by
  rw[aL,au]at hj;lia
 exact⟨hs,by simpa using e⟩
theorem yZ{a:Array kc}{i:Nat}{x:kc}(h:x∈a.toList.drop i):∃j,i+j<a.size/\a[i+j]?=some x:=by
 obtain⟨j,hj,e⟩:=cX.mp h;rw[aL,au]at hj;have hs:i+j<a.size:=by lia
 refine⟨j,hs,?_⟩;rw[fL]at e;rw[aY];exact⟨hs,by simpa using e⟩
inductive Lp {ρ τ ι σ:Type}(t:ι->τ) (v:ι->σ) (J K:ι->Prop) (R:ρ->σ->Prop):ForInStep (Option ρ×τ)->σ->Prop
 |y (x):J x->Lp t v J K R (.yield (none,t x)) (v x)
 |d (x):K x->Lp t v J K R (.done (none,t x)) (v x)
 |r (a y st):R a st->Lp t v J K R (.done (some a,y)) st
theorem xF{M:Model}{ρ τ ι σ β:Type}{n:Nat}(t:ι->τ) (v:ι->σ) (J:Nat->ι->Prop) (K:ι->Prop) (R:ρ->σ->Prop) {f:Nat->Option ρ×τ->StateT σ Sem (ForInStep (Option ρ×τ))}{k:Option ρ×τ->StateT σ Sem β}{Q:β->σ->Prop}
  (x:ι) (h:J 0 x) (step:∀i x,J i x->wpS M A E s (f i (none,t x)) (Lp t v (J (i+1)) K R) (v x)) (fin:∀x,J n x->K x) (pn:∀x,K x->wpS M A E s (k (none,t x)) Q (v x)) (ps:∀r y st,R r st->wpS M A E s (k (some r,y)) Q st) :
  wpS M A E s (forIn [0:n] (none,t x) f >>= k) Q (v x):=by
 refine kj (kW (kM (I:=λi c st=>∃x,c=(none,t x)/\st=v x/\J i x) (Q:=λc st=>Lp t v K K R (.done c) st) ?_ ?_ ⟨x,rfl,rfl,h⟩) ?_)
 .rintro i c st _ _ ⟨x,rfl,rfl,h⟩;refine kW (step i x h) λr st' hr=>?_
  cases hr with
  |y x h=>exact⟨x,rfl,rfl,h⟩
  |d x h=>exact .d x h
  |r a y st h=>exact .r a y _ h
 .rintro c st ⟨x,rfl,rfl,h⟩;rw[jo (bg n)]at h;exact .d x (fin x h)
 .rintro c st h;cases h with
  |d x h=>exact pn x h
  |r a y st h=>exact ps a y _ h
structure Ls where
 o:Array kc
 (i j m p q g:Nat)
structure ML (lt:kc->kc->Bool) (a b:Array kc) (n:Nat) (x:Ls):Prop where
 m:MI lt a b x.o x.i x.j
 p:x.i+1<a.size
 q:x.j<b.size
 r:n<=x.i+x.j
structure Lo (prog:kq) (w:kr) (A:Around) (s:Shared) (κ:kQ) (P:kc->Prop) (lt:kc->kc->Bool) (a b:Array kc) (st:SortSt) (Q:Array kc->SortSt->Prop):Prop where
 C:zw prog w A s κ P lt
 ha:∀x,x∈a->P x
 hb:∀x,x∈b->P x
 hk:kindOf st=κ
 sa:xX lt a.toList
 sb:xX lt b.toList
 h:∀r g,PN lt a b r->Q r (sg st g)
abbrev L6(x:Ls):=(x.o,x.i,x.j,x.m,x.p,x.q)
abbrev L5(x:Ls):=(x.o,x.i,x.j,x.p,x.q)
abbrev L4(x:Ls):=(x.o,x.i,x.j,x.m)
variable {a b:Array kc}{st:SortSt}{Q:Array kc->SortSt->Prop}{n:Nat}{x:Ls}
abbrev Hl(lt:kc->kc->Bool) (a b:Array kc):=∀i,i+1=a.size->∀x∈b.toList,∀y∈a.toList.drop i,lt y x=false
theorem Mg(H:Lo prog w A s κ P lt a b st Q) (hl:Hl lt a b) (q:ML lt a b n x) (hi:∀z,a[x.i]?=some z->∀y∈b.toList.drop x.j,lt y z=false) :
  wpS (ki prog w) A E s (XG a b x.o x.i x.j x.m x.p x.q) (Lp L6 (λx=>sg st x.g) (ML lt a b n) (ML lt a b n) Q) (sg st x.g):=by
 have p1:=q.p;have ea:a[x.i]?=some a[x.i]:=af (by lia)
 refine kj (pV ea ?_);have m6:=q.m.pushA H.sa ea (hi _ ea)
 by_cases d6:x.i+1+1=a.size
 .rw [pe (by simp[d6])]
  exact km (.r _ _ _ (H.h _ _ (m6.lastA H.sa H.sb λy hy=>hl _ d6 y (bx hy))))
 rw[pD (by simpa using d6)]
 have R:ML lt a b n ⟨_,_,_,x.m,x.p,x.q,x.g⟩:=⟨m6,by dsimp only;lia,q.q,by have:=q.r;dsimp only;lia⟩
 split
 .exact km (.d _ R)
 .exact km (.y _ R)
theorem Nd(H:Lo prog w A s κ P lt a b st Q) (hl:Hl lt a b) (q:ML lt a b n x) (hi:∀z,b[x.j]?=some z->∀y∈a.toList.drop x.i,lt y z=false) :
  wpS (ki prog w) A E s (Xc a b x.o x.i x.j x.m x.p x.q) (Lp L6 (λx=>sg st x.g) (ML lt a b n) (ML lt a b n) Q) (sg st x.g):=by
 have p1:=q.p;have p2:=q.q;have p3:=q.r;have eb:b[x.j]?=some b[x.j]:=af p2;refine kj (pV eb ?_);have m4:=q.m.pushB H.sb eb (hi _ eb)
 by_cases d3:x.j+1=b.size
 .rw [pe (by simp[d3])]
  exact km (.r _ _ _ (H.h _ _ (m4.endB H.sa d3)))
 rw[pD (by simpa using d3)]
 have ea:a[x.i]?=some a[x.i]:=af (by lia)
 have pa:=H.ha _ (bu (show x.i<a.size by lia))
 refine kj (pV ea (kj (vx H.C (base:=x.j+1) (n:=b.size-(x.j+1)) (by lia) (by lia) H.hb pa H.hk (Bd H.C (by lia) H.hb pa (H.sb.sublist (bY _ _))) λl l1 l2 l3=>?_)))
 have hB:∀z,a[x.i]?=some z->∀y∈b.toList.drop (x.j+1+l),lt y z=false:=λz hz y hy=>by
  obtain⟨j',hj',ey⟩:=yZ hy;have q:=l3 (l+j') (by lia) (by lia)
  rw[uR (by rw[←eX];exact ey),pe rfl]at q
  rw[ea]at hz;cases hz;exact q
 dsimp only
 by_cases cl:l>0
 .rw [pe cl];have m5:=m4.moreB H.sb (k:=l) (by lia) λx hx y hy=>by
   obtain⟨j',hj',ex⟩:=xl hx;have q:=l2 j' hj';rw[uR ex,pe rfl]at q;have px:=H.hb x (bG hx |> wx);exact H.C.trans _ _ _ px pa (H.ha _ (wx hy)) (H.C.asym _ _ px pa q) (Ce H.C H.ha H.sa ea y hy)
  by_cases d5:x.j+1+l=b.size
  .rw [pe (by simp[d5])]
   exact km (.r _ _ _ (H.h _ _ (m5.endB H.sa d5)))
  rw[pD (by simpa using d5)]
  exact Mg H hl (x:=⟨_,_,_,_,_,_,x.g⟩) ⟨m5,p1,by dsimp only;lia,by dsimp only;lia⟩ hB
 .rw [pD cl];exact Mg H hl (x:=⟨_,_,_,_,_,_,x.g⟩) ⟨m4,p1,by dsimp only;lia,by dsimp only;lia⟩ (by rw[show x.j+1=x.j+1+l by lia];exact hB)
theorem Ox(H:Lo prog w A s κ P lt a b st Q) (hl:Hl lt a b) (q:ML lt a b n x) :
  wpS (ki prog w) A E s (XM a b x.o x.i x.j x.m x.p x.q) (Lp L6 (λx=>sg st x.g) (ML lt a b n) (ML lt a b n) Q) (sg st x.g):=by
 have p1:=q.p;have p2:=q.q;have p3:=q.r;have eb:b[x.j]?=some b[x.j]:=af p2;have pb:=H.hb _ (bu p2);refine kj (yh (kj (pV eb (kj (vx H.C (base:=x.i) (n:=a.size-x.i) (by lia) (by lia) H.ha pb H.hk (Bd H.C (by lia) H.ha pb (H.sa.sublist (bY _ _))) λk k1 k2 k3=>?_)))))
 have hA:∀z,b[x.j]?=some z->∀y∈a.toList.drop (x.i+k),lt y z=false:=λz hz y hy=>by
  obtain⟨j',hj',ey⟩:=yZ hy;have q:=k3 (k+j') (by lia) (by lia)
  rw[uR (by rw[←eX];exact ey),pD (by decide)]at q
  rw[eb]at hz;cases hz;exact H.C.asym _ _ pb (H.ha _ (wx hy)) (by simpa using q)
 dsimp only
 by_cases ck:k>0
 .rw [pe ck];have m3:=q.m.moreA H.sa (k:=k) (by lia) λx hx y hy=>by
   obtain⟨j',hj',ex⟩:=xl hx;have q:=k2 j' hj';rw[uR ex,pD (by decide)]at q
   exact H.C.trans _ _ _ (H.ha x (bG hx |> wx)) pb (H.hb _ (wx hy)) (by simpa using q) (Ce H.C H.hb H.sb eb y hy)
  by_cases d1:x.i+k+1=a.size
  .rw [pe (by simp[d1])]
   exact km (.r _ _ _ (H.h _ x.m (m3.lastA H.sa H.sb λx hx=>hl _ d1 x (bx hx))))
  rw[pD (by simpa using d1)]
  by_cases d2:x.i+k=a.size
  .rw [pe (by simp[d2])]
   exact km (.r _ _ _ (H.h _ x.m (m3.endA H.sb d2)))
  rw[pD (by simpa using d2)]
  exact Nd H hl (x:=⟨_,_,_,_,_,_,x.m⟩) ⟨m3,by dsimp only;lia,p2,by dsimp only;lia⟩ hA
 .rw [pD ck];exact Nd H hl (x:=⟨_,_,_,_,_,_,x.m⟩) ⟨q.m,p1,p2,p3⟩ (by rw[show x.i=x.i+k by lia];exact hA)
theorem UB(H:Lo prog w A s κ P lt a b st Q) (hl:Hl lt a b) {m j:Nat}(q:ML lt a b (n+j) x) :
  wpS (ki prog w) A E s (Yj a b m x.o x.i x.j x.p x.q) (Lp L5 (λx=>sg st x.g) (ML lt a b (n+(j+1))) (ML lt a b (n+1)) Q) (sg st x.g):=by
 have p1:=q.p;have p2:=q.q;have p3:=q.r;have ea:a[x.i]?=some a[x.i]:=af (by lia)
 have eb:b[x.j]?=some b[x.j]:=af p2;have pa:=H.ha _ (bu (show x.i<a.size by lia))
 have pb:=H.hb _ (bu p2);refine kj (pV eb (kj (pV ea (kj (H.C.cmp pb pa H.hk ?_)))));cases e:lt b[x.j] a[x.i] with
 |true =>
  dsimp only;rw[pe rfl];refine kj (pV eb ?_);have m2:=q.m.pushB H.sb eb λz hz=>H.C.trans _ _ _ pb pa (H.ha _ (wx hz)) (H.C.asym _ _ pb pa e) (Ce H.C H.ha H.sa ea z hz)
  by_cases d1:x.j+1=b.size
  .rw [pe (by simp[d1])]
   exact km (.r _ _ _ (H.h _ _ (m2.endB H.sa d1)))
  rw[pD (by simpa using d1)]
  have R:∀n,n<=x.i+(x.j+1)->ML lt a b n ⟨_,_,_,0,0,x.q+1,x.g⟩:=λn hn=>⟨m2,p1,by dsimp only;lia,hn⟩
  split
  .exact km (.d _ (R _ (by lia)))
  .exact km (.y _ (R _ (by lia)))
 |false =>
  dsimp only;rw[pD (by decide)]
  refine kj (pV ea ?_);have m2:=q.m.pushA H.sa ea λz hz=>H.C.trans _ _ _ pa pb (H.hb _ (wx hz)) e (Ce H.C H.hb H.sb eb z hz)
  by_cases d1:x.i+1+1=a.size
  .rw [pe (by simp[d1])]
   exact km (.r _ _ _ (H.h _ _ (m2.lastA H.sa H.sb λx hx=>hl _ d1 x (bx hx))))
  rw[pD (by simpa using d1)]
  have R:∀n,n<=x.i+1+x.j->ML lt a b n ⟨_,_,_,0,x.p+1,0,x.g⟩:=λn hn=>⟨m2,by dsimp only;lia,p2,hn⟩
  split
  .exact km (.d _ (R _ (by lia)))
  .exact km (.y _ (R _ (by lia)))
theorem UK(H:Lo prog w A s κ P lt a b st Q) (hl:Hl lt a b) (q:ML lt a b n x) :
  wpS (ki prog w) A E s (XX a b x.o x.i x.j x.m) (Lp L4 (λx=>sg st x.g) (ML lt a b (n+1)) (λ_=>False) Q) (sg st x.g):=by
 refine xF L5 (λx=>sg st x.g) (λj=>ML lt a b (n+j)) (ML lt a b (n+1)) Q ⟨x.o,x.i,x.j,0,0,0,x.g⟩ ⟨q.m,q.p,q.q,q.r⟩ (λj x q=>UB H hl q) (λy h=>⟨h.m,h.p,h.q,by have:=h.r;have:=h.p;have:=h.q;lia⟩) (λy q=>?_) λr y st' hr=>km (.r _ _ _ hr)
 refine kj (xC ?_);refine xF L6 (λx=>sg st x.g) (λ_=>ML lt a b (n+1)) (ML lt a b (n+1)) Q ⟨y.o,y.i,y.j,x.m+1,y.p,y.q,y.g⟩ ⟨q.m,q.p,q.q,q.r⟩ (λj z q=>?_) (λ_ h=>h) (λz q=>?_) λr y st' hr=>km (.r _ _ _ hr)
 .dsimp only;split
  .exact Ox H hl (x:=⟨_,_,_,z.m-1,_,_,z.g⟩) ⟨q.m,q.p,q.q,q.r⟩
  .exact Ox H hl q
 .refine kj (yh (km ?_));exact Lp.y (t:=L4) (v:=λx=>sg st x.g) ⟨_,_,_,z.m+1,0,0,z.m+1⟩ ⟨q.m,q.p,q.q,q.r⟩
theorem GI(C:zw prog w A s κ P lt) (ha:∀x,x∈a->P x) (hb:∀x,x∈b->P x) (hk:kindOf st=κ) (sa:xX lt a.toList) (sb:xX lt b.toList)
  (na:0<a.size) (nb:0<b.size) (h0:∀x,b[0]?=some x->∀y∈a.toList,lt y x=false) (hl:∀i,i+1=a.size->∀x∈b.toList,∀y∈a.toList.drop i,lt y x=false)
  (h:∀r g,PN lt a b r->Q r (sg st g)):wpS (ki prog w) A E s (Cv a b) Q st:=by
 rw[G5];refine kj (xC ?_);have eb0:b[0]?=some b[0]:=af nb;refine kj (pV eb0 ?_);have m0:MI lt a b #[] 0 0:=⟨bg _,bg _,by simp,by simp[xX],by simp,by simp⟩
 have m1:MI lt a b #[b[0]] 0 1:=m0.pushB sb eb0 λy hy=>h0 _ eb0 y (by simpa using hy)
 by_cases c1:1=b.size
 .rw [pe (by simp[←c1])]
  exact km (h _ (mT st) (m1.endB sa c1))
 rw[pD (by simpa using c1)]
 by_cases c2:0+1=a.size
 .rw [pe (by simp[←c2])]
  exact km (h _ (mT st) (m1.lastA sa sb λx hx=>hl 0 c2 x (bx hx)))
 rw[pD (by simpa using c2)]
 refine kj (mG ?_);exact xF L4 (λx=>sg st x.g) (λi=>ML lt a b (i+1)) (λ_=>False) Q ⟨_,0,1,_,0,0,mT st⟩ ⟨m1,by dsimp only;lia,by dsimp only;lia,by dsimp only;lia⟩ (λi x q=>UK ⟨C,ha,hb,hk,sa,sb,h⟩ hl q) (λx h=>by have:=h.p;have:=h.q;have:=h.r;lia) (λx h=>h.elim) λr y st' hr=>km hr
end
structure MH (lt:kc->kc->Bool) (a b out:Array kc) (na nb:Nat):Prop where
 la:na<=a.size
 lb:nb<=b.size
 pm:((a.toList.take na++b.toList.take nb)++out.toList.reverse).Perm (a.toList++b.toList)
 so:xX lt out.toList.reverse
 ua:∀x∈a.toList.take na,∀y∈out.toList,lt y x=false
 ub:∀x∈b.toList.take nb,∀y∈out.toList,lt y x=false
section
variable {lt:kc->kc->Bool}{a b out out':Array kc}{na nb k:Nat}
theorem MH.congr(m:MH lt a b out na nb) (e:out'.toList=out.toList):MH lt a b out' na nb:=⟨m.la,m.lb,by rw[e];exact m.pm,by rw[e];exact m.so,by rw[e];exact m.ua,by rw[e];exact m.ub⟩
theorem AX(l:List kc) (k n:Nat) (h:k<=n):l.take n=l.take k++(l.take n).drop k:=by
 have e:(l.take n).take k=l.take k:=by rw[List.take_take,dJ h]
 rw[←e,aM]
theorem rR(a:Array kc) (k n:Nat):(a.extract k n).toList=(a.toList.take n).drop k:=by
 rw[eQ,eW,List.drop_take]
theorem AY(a:Array kc) (n:Nat):(a.extract 0 n).toList=a.toList.take n:=by
 rw[rR,dS]
theorem MH.moreA(m:MH lt a b out na nb) (sa:xX lt a.toList) (hk:k<=na) (h:∀x∈b.toList.take nb,∀y∈(a.toList.take na).drop k,lt y x=false):MH lt a b (out++(a.extract k na).reverse) k nb:=by
 have e:(out++(a.extract k na).reverse).toList=out.toList++((a.toList.take na).drop k).reverse:=by rw[aQ,cY,rR]
 have er:(out++(a.extract k na).reverse).toList.reverse=(a.toList.take na).drop k++out.toList.reverse:=by rw[e,iT,iN]
 have c:=AX a.toList k na hk;have sd:xX lt (a.toList.take na):=sa.sublist (bK _ _);have sd2:=sd;rw[c]at sd2;obtain⟨q1,q2,q3⟩:=aV.mp sd2;have sub:∀y,y∈(a.toList.take na).drop k->y∈a.toList.take na:=λy hy=>bx hy
 refine⟨bQ hk m.la,m.lb,?_,?_,?_,?_⟩
 .rw [er];refine aW.trans ?_ m.pm;rw[←aq];refine aW.append_right _ ?_
  conv=>rhs;rw[c]
  rw[aq,aq];exact aW.append_left _ bb
 .rw [er];exact aV.mpr ⟨q2,m.so,λx hx y hy=>m.ua x (sub x hx) y (cv.mp hy)⟩
 .rw [e];intro x hx y hy;rcases mAq.mp hy with hy|hy
  .exact m.ua x (by rw[c];exact az _ hx) y hy
  .exact q3 x hx y (cv.mp hy)
 .rw [e];intro x hx y hy;rcases mAq.mp hy with hy|hy
  .exact m.ub x hx y hy
  .exact h x hx y (cv.mp hy)
theorem MH.moreB(m:MH lt a b out na nb) (sb:xX lt b.toList) (hk:k<=nb) (h:∀x∈a.toList.take na,∀y∈(b.toList.take nb).drop k,lt y x=false):MH lt a b (out++(b.extract k nb).reverse) na k:=by
 have e:(out++(b.extract k nb).reverse).toList=out.toList++((b.toList.take nb).drop k).reverse:=by rw[aQ,cY,rR]
 have er:(out++(b.extract k nb).reverse).toList.reverse=(b.toList.take nb).drop k++out.toList.reverse:=by rw[e,iT,iN]
 have c:=AX b.toList k nb hk;have sd:xX lt (b.toList.take nb):=sb.sublist (bK _ _);have sd2:=sd;rw[c]at sd2;obtain⟨q1,q2,q3⟩:=aV.mp sd2;have sub:∀y,y∈(b.toList.take nb).drop k->y∈b.toList.take nb:=λy hy=>bx hy
 refine⟨m.la,bQ hk m.lb,?_,?_,?_,?_⟩
 .rw [er];refine aW.trans ?_ m.pm;rw[←aq];refine aW.append_right _ ?_
  conv=>rhs;rw[c]
  rw[aq]
 .rw [er];exact aV.mpr ⟨q2,m.so,λx hx y hy=>m.ub x (sub x hx) y (cv.mp hy)⟩
 .rw [e];intro x hx y hy;rcases mAq.mp hy with hy|hy
  .exact m.ua x hx y hy
  .exact h x hx y (cv.mp hy)
 .rw [e];intro x hx y hy;rcases mAq.mp hy with hy|hy
  .exact m.ub x (by rw[c];exact az _ hx) y hy
  .exact q3 x hx y (cv.mp hy)
theorem yg{l:List kc}{i:Nat}{x:kc}(h:l[i]?=some x):(l.take (i+1)).drop i=[x]:=by
 rw[bZ,h,jn];have hl:(l.take i).length=i:=by
  have:=(gSq.mp h).1;rw[lTq];lia
 rw[fS (by lia),hl,eO]
 rfl
theorem MH.pushA{x:kc}(m:MH lt a b out (na+1) nb) (sa:xX lt a.toList) (hx:a[na]?=some x) (h:∀y∈b.toList.take nb,lt x y=false):MH lt a b (out.push x) na nb:=by
 have hx':a.toList[na]?=some x:=by rw[ax];exact hx
 refine(m.moreA sa (k:=na) (cu _) λz hz y hy=>?_).congr ?_
 .rw [yg hx',mSq]at hy;rw[hy];exact h z hz
 .rw [cA,aQ,cY,rR,yg hx'];rfl
theorem MH.pushB{x:kc}(m:MH lt a b out na (nb+1)) (sb:xX lt b.toList) (hx:b[nb]?=some x) (h:∀y∈a.toList.take na,lt x y=false):MH lt a b (out.push x) na nb:=by
 have hx':b.toList[nb]?=some x:=by rw[ax];exact hx
 refine(m.moreB sb (k:=nb) (cu _) λz hz y hy=>?_).congr ?_
 .rw [yg hx',mSq]at hy;rw[hy];exact h z hz
 .rw [cA,aQ,cY,rR,yg hx'];rfl
theorem MH.end(m:MH lt a b out na nb) (sa:xX lt a.toList) (sb:xX lt b.toList) (e:na=0∨nb=0):PN lt a b (a.extract 0 na++b.extract 0 nb++out.reverse):=by
 have et:(a.extract 0 na++b.extract 0 nb++out.reverse).toList=(a.toList.take na++b.toList.take nb)++out.toList.reverse:=by
  rw[aQ,aQ,AY,AY,cY]
 refine⟨by rw[et];exact m.pm,?_⟩
 rw[et];refine aV.mpr ⟨?_,m.so,λx hx y hy=>?_⟩
 .rcases e with rfl|rfl
  .rw [fI,eF];exact sb.sublist (bK _ _)
  .rw [fI,aNq];exact sa.sublist (bK _ _)
 .rcases mAq.mp hx with hx|hx
  .exact m.ua x hx y (cv.mp hy)
  .exact m.ub x hx y (cv.mp hy)
theorem MH.firstB(m:MH lt a b out na nb) (sa:xX lt a.toList) (sb:xX lt b.toList) (h:∀x∈b.toList.take nb,∀y∈a.toList.take na,lt y x=false):PN lt a b (b.extract 0 nb++a.extract 0 na++out.reverse):=by
 have et:(b.extract 0 nb++a.extract 0 na++out.reverse).toList=(b.toList.take nb++a.toList.take na)++out.toList.reverse:=by
  rw[aQ,aQ,AY,AY,cY]
 refine⟨?_,?_⟩
 .rw [et];exact(aW.append_right _ bb).trans m.pm
 .rw [et];refine aV.mpr ⟨aV.mpr ⟨sb.sublist (bK _ _),sa.sublist (bK _ _),h⟩,m.so,λx hx y hy=>?_⟩
  rcases mAq.mp hx with hx|hx
  .exact m.ub x hx y (cv.mp hy)
  .exact m.ua x hx y (cv.mp hy)
end
def Dl:Array kc->Array kc->StateT SortSt Sem (Array kc):=sortPriv% PySem.Builtin.mergeHi
section
variable (a b:Array kc)
abbrev dH(o:Array kc) (i j:Nat):=a.extract 0 i++b.extract 0 j++o.reverse
abbrev fH(o:Array kc) (i j:Nat):=b.extract 0 j++a.extract 0 i++o.reverse
abbrev SH(α:Type):=ForInStep (Option (Array kc)×Nat×Nat×Array kc×α)
def WN(o:Array kc) (i j m k l:Nat):StateT SortSt Sem (SH (Nat×Nat×Nat)):=do
 let x ←kX a (i-1)
 if i-1 == 0 then pure (.done (some (dH a b (o.push x) (i-1) j),i-1,j,o.push x,m,k,l))
 else if decide (k<7) && decide (l<7) then pure (.done (none,i-1,j,o.push x,m,k,l))
 else pure (.yield (none,i-1,j,o.push x,m,k,l))
def WG(o:Array kc) (i j m k q:Nat):StateT SortSt Sem (SH (Nat×Nat×Nat)):=do
 let x ←kX b (j-1)
 if j-1 == 1 then pure (.done (some (fH a b (o.push x) i (j-1)),i,j-1,o.push x,m,k,q))
 else do
  let y ←kX a (i-1)
  match ←wW true y b 0 (j-1) (j-1-1) with
  |some l =>
   if j-1-l>0 then
    if l == 1 then pure (.done (some (fH a b (o.push x++(b.extract l (j-1)).reverse) i l),i,l,o.push x++(b.extract l (j-1)).reverse,m,k,j-1-l))
    else if l == 0 then pure (.done (some (dH a b (o.push x++(b.extract l (j-1)).reverse) i l),i,l,o.push x++(b.extract l (j-1)).reverse,m,k,j-1-l))
    else WN a b (o.push x++(b.extract l (j-1)).reverse) i l m k (j-1-l)
   else WN a b (o.push x) i (j-1) m k (j-1-l)
  |_=>pure (.done (some (dH a b (o.push x) i (j-1)),i,j-1,o.push x,m,k,q))
def WM(o:Array kc) (i j m p q:Nat):StateT SortSt Sem (SH (Nat×Nat×Nat)):=do
 tj m
 let x ←kX b (j-1)
 match ←wW false x a 0 i (i-1) with
 |some k =>
  if i-k>0 then
   if k == 0 then pure (.done (some (dH a b (o++(a.extract k i).reverse) k j),k,j,o++(a.extract k i).reverse,m,i-k,q))
   else WG a b (o++(a.extract k i).reverse) k j m (i-k) q
  else WG a b o i j m (i-k) q
 |_=>pure (.done (some (dH a b o i j),i,j,o,m,p,q))
def LX(m:Nat) (o:Array kc) (i j p q:Nat):StateT SortSt Sem (SH (Nat×Nat)):=do
 let y ←kX b (j-1)
 let x ←kX a (i-1)
 match ←lt' y x with
 |some c =>
  if c then do
   let z ←kX a (i-1)
   if i-1 == 0 then pure (.done (some (dH a b (o.push z) (i-1) j),i-1,j,o.push z,p+1,0))
   else if p+1 ≥ m then pure (.done (none,i-1,j,o.push z,p+1,0))
   else pure (.yield (none,i-1,j,o.push z,p+1,0))
  else do
   let z ←kX b (j-1)
   if j-1 == 1 then pure (.done (some (fH a b (o.push z) i (j-1)),i,j-1,o.push z,0,q+1))
   else if q+1 ≥ m then pure (.done (none,i,j-1,o.push z,0,q+1))
   else pure (.yield (none,i,j-1,o.push z,0,q+1))
 |_=>pure (.done (some (dH a b o i j),i,j,o,p,q))
def WH(o:Array kc) (i j m:Nat):StateT SortSt Sem (SH Nat):=do
 let r ←forIn [0:a.size+b.size] (none,i,j,o,0,0) λ_ s=>LX a b m s.2.2.2.1 s.2.1 s.2.2.1 s.2.2.2.2.1 s.2.2.2.2.2
 Break.runK.match_1 (λ_=>StateT SortSt Sem (SH Nat)) r.1 (λv=>pure (.done (some v,r.2.1,r.2.2.1,r.2.2.2.1,m))) λ_=>do
  rule "list.sort.gallop"
  let r ←forIn [0:a.size+b.size] (none,r.2.1,r.2.2.1,r.2.2.2.1,m+1,r.2.2.2.2.1,r.2.2.2.2.2) λ_ s=>if s.2.2.2.2.1>1 then WM a b s.2.2.2.1 s.2.1 s.2.2.1 (s.2.2.2.2.1-1) s.2.2.2.2.2.1 s.2.2.2.2.2.2 else WM a b s.2.2.2.1 s.2.1 s.2.2.1 s.2.2.2.2.1 s.2.2.2.2.2.1 s.2.2.2.2.2.2
  Break.runK.match_1 (λ_=>StateT SortSt Sem (SH Nat)) r.1 (λv=>pure (.done (some v,r.2.1,r.2.2.1,r.2.2.2.1,r.2.2.2.2.1))) λ_=>do
   tj (r.2.2.2.2.1+1)
   pure (.yield (none,r.2.1,r.2.2.1,r.2.2.2.1,r.2.2.2.2.1+1))
theorem GW:Dl a b=(do
 rule "list.sort.merge-hi"
 let x ←kX a (a.size-1)
 if a.size-1 == 0 then pure (dH a b #[x] (a.size-1) b.size)
 else if b.size == 1 then pure (fH a b #[x] (a.size-1) b.size)
 else do
  let st ←get
  let r ←forIn [0:a.size+b.size] (none,a.size-1,b.size,#[x],mT st) λ_ s=>WH a b s.2.2.2.1 s.2.1 s.2.2.1 s.2.2.2.2
  Break.runK.match_1 (λ_=>StateT SortSt Sem (Array kc)) r.1 (λv=>pure v) λ_=>lz "internal:list.sort.merge-bound"):=rfl
end
section
variable {prog:kq}{w:kr}{A:Around}{E:Value->Shared->Prop}{s:Shared}{κ:kQ}{P:kc->Prop}{lt:kc->kc->Bool}
theorem Co(C:zw prog w A s κ P lt) {a:Array kc}{i:Nat}{x:kc}(ha:∀x,x∈a->P x) (sa:xX lt a.toList) (hx:a[i]?=some x):∀y∈a.toList.take (i+1),lt x y=false:=by
 obtain⟨hi,e⟩:=aY.mp hx;have hx':a.toList[i]?=some x:=by rw[ax];exact hx
 have sd:xX lt (a.toList.take (i+1)):=sa.sublist (bK _ _);rw[bZ,hx']at sd ⊢;intro y hy;rcases mAq.mp hy with hy|hy
 .exact (aV.mp sd).2.2 y hy x (by simp)
 .have:y=x:=by simpa using hy
  rw[this];exact C.refl (ha _ (by rw[←e];exact bu hi))
theorem wJ{a:Array kc}{i:Nat}{y:kc}(h:y∈a.toList.take i):y∈a:=by simpa using bG h
theorem zb{a:Array kc}{n:Nat}{x:kc}(h:x∈a.toList.take n):∃j,j<n/\a[0+j]?=some x:=by
 have h':x∈(a.toList.drop 0).take n:=by rw[dS];exact h
 exact xl h'
theorem wC{a:Array kc}{k n:Nat}{x:kc}(h:x∈(a.toList.take n).drop k):∃j,k<=j/\j<n/\a[0+j]?=some x:=by
 obtain⟨j,hj,e⟩:=cX.mp h;rw[aL,lTq,au]at hj;refine⟨k+j,by lia,by lia,?_⟩
 rw[fL,gP]at e;rw[aY];exact⟨by lia,by simpa using e⟩
structure MG (lt:kc->kc->Bool) (a b:Array kc) (n:Nat) (x:Ls):Prop where
 m:MH lt a b x.o x.i x.j
 p:0<x.i
 q:1<x.j
 r:x.i+x.j+n<=a.size+b.size
abbrev H6(x:Ls):=(x.i,x.j,x.o,x.m,x.p,x.q)
abbrev H5(x:Ls):=(x.i,x.j,x.o,x.p,x.q)
abbrev H4(x:Ls):=(x.i,x.j,x.o,x.m)
variable {a b:Array kc}{st:SortSt}{Q:Array kc->SortSt->Prop}{n:Nat}{x:Ls}{o:Array kc}{u v i j m k l g:Nat}
abbrev Hf(lt:kc->kc->Bool) (a b:Array kc):=∀x∈b.toList.take 1,∀y∈a.toList,lt y x=false
theorem WE(H:Lo prog w A s κ P lt a b st Q) (hf:Hf lt a b) (m:MH lt a b o i 1):Q (b.extract 0 1++a.extract 0 i++o.reverse) (sg st g):=H.h _ _ (m.firstB H.sa H.sb λx hx y hy=>hf x hx y (bG hy))
theorem MD(H:Lo prog w A s κ P lt a b st Q) (q:MG lt a b n ⟨o,u+1,j,m,k,l,g⟩) (hi:∀z,a[u]?=some z->∀y∈b.toList.take j,lt z y=false) :
  wpS (ki prog w) A E s (WN a b o (u+1) j m k l) (Lp H6 (λx=>sg st x.g) (MG lt a b n) (MG lt a b n) Q) (sg st g):=by
 dsimp only [WN,eY];have ea:a[u]?=some (a[u]'q.m.la):=af q.m.la;refine kj (pV ea ?_);have m6:=q.m.pushA H.sa ea (hi _ ea)
 by_cases d6:u=0
 .rw [pe (by simp[d6])]
  exact km (.r _ _ _ (H.h _ _ (m6.end H.sa H.sb (.inl d6))))
 rw[pD (by simpa using d6)]
 have R:MG lt a b n ⟨_,_,_,m,k,l,g⟩:=⟨m6,fq d6,q.q,by have:=q.r;dsimp only at *;lia⟩
 split
 .exact km (.d _ R)
 .exact km (.y _ R)
theorem OF(H:Lo prog w A s κ P lt a b st Q) (hf:Hf lt a b) (q:MG lt a b n ⟨o,u+1,v+1,m,k,l,g⟩) (hi:∀z,b[v]?=some z->∀y∈a.toList.take (u+1),lt z y=false) :
  wpS (ki prog w) A E s (WG a b o (u+1) (v+1) m k l) (Lp H6 (λx=>sg st x.g) (MG lt a b n) (MG lt a b n) Q) (sg st g):=by
 dsimp only [WG,eY];have la:u<a.size:=q.m.la;have lb:v<b.size:=q.m.lb;have p2:1<v+1:=q.q;have p3:u+1+(v+1)+n<=a.size+b.size:=q.r;have eb:b[v]?=some b[v]:=af lb;refine kj (pV eb ?_);have m4:=q.m.pushB H.sb eb (hi _ eb)
 by_cases d3:v=1
 .rw [pe (by simp[d3])]
  subst d3;exact km (.r _ _ _ (WE H hf m4))
 rw[pD (by simpa using d3)]
 have ea:a[u]?=some a[u]:=af la;have pa:=H.ha _ (bu la);refine kj (pV ea (kj (vx H.C (base:=0) (n:=v) (by lia) (by lia) H.hb pa H.hk (Bd H.C (by lia) H.hb pa (by rw[dS];exact H.sb)) λl l1 l2 l3=>?_)))
 have hB:∀z,a[u]?=some z->∀y∈b.toList.take l,lt z y=false:=λz hz y hy=>by
  obtain⟨j',hj',ey⟩:=zb hy;have q:=l2 j' hj';rw[uR ey,pe rfl]at q;rw[ea]at hz;cases hz;exact H.C.asym _ _ (H.hb _ (wJ hy)) pa q
 dsimp only
 by_cases cl:v-l>0
 .rw [pe cl];have m5:=m4.moreB H.sb (k:=l) l1 λx hx y hy=>by
   obtain⟨j',hj1,hj',ey⟩:=wC hy;have q:=l3 j' hj1 hj';rw[uR ey,pe rfl]at q;exact H.C.trans _ _ _ (H.ha _ (wJ hx)) pa (H.hb y (bx hy |> wJ)) (Co H.C H.ha H.sa ea x hx) q
  by_cases d5:l=1
  .rw [pe (by simp[d5])]
   subst d5;exact km (.r _ _ _ (WE H hf m5))
  rw[pD (by simpa using d5)]
  by_cases d6:l=0
  .rw [pe (by simp[d6])]
   exact km (.r _ _ _ (H.h _ _ (m5.end H.sa H.sb (.inr d6))))
  rw[pD (by simpa using d6)]
  exact MD H ⟨m5,q.p,by dsimp only;lia,by dsimp only;lia⟩ hB
 .rw [pD cl];have:l=v:=by lia
  subst this;exact MD H ⟨m4,q.p,by dsimp only;lia,by dsimp only;lia⟩ hB
theorem Nb(H:Lo prog w A s κ P lt a b st Q) (hf:Hf lt a b) (q:MG lt a b n x) :
  wpS (ki prog w) A E s (WM a b x.o x.i x.j x.m x.p x.q) (Lp H6 (λx=>sg st x.g) (MG lt a b n) (MG lt a b n) Q) (sg st x.g):=by
 obtain⟨o,i,j,m,p,q',g⟩:=x;have la:i<=a.size:=q.m.la;have p1:0<i:=q.p;have p2:1<j:=q.q;have p3:i+j+n<=a.size+b.size:=q.r;obtain⟨v,rfl⟩:∃v,j=v+1:=⟨j-1,by lia⟩
 have lb:v<b.size:=q.m.lb;dsimp only [WM,eY];have eb:b[v]?=some b[v]:=af lb;have pb:=H.hb _ (bu lb);refine kj (yh (kj (pV eb (kj (vx H.C (base:=0) (n:=i) (by lia) (by lia) H.ha pb H.hk (Bd H.C (by lia) H.ha pb (by rw[dS];exact H.sa)) λk k1 k2 k3=>?_)))))
 have hA:∀z,b[v]?=some z->∀y∈a.toList.take k,lt z y=false:=λz hz y hy=>by
  obtain⟨j',hj',ey⟩:=zb hy;have q:=k2 j' hj';rw[uR ey,pD (by decide)]at q
  rw[eb]at hz;cases hz;simpa using q
 dsimp only
 by_cases ck:i-k>0
 .rw [pe ck];have m3:=q.m.moreA H.sa (k:=k) k1 λx hx y hy=>by
   obtain⟨j',hj1,hj',ey⟩:=wC hy;have q:=k3 j' hj1 hj';rw[uR ey,pD (by decide)]at q
   have py:=H.ha y (bx hy |> wJ);exact H.C.trans _ _ _ (H.hb _ (wJ hx)) pb py (Co H.C H.hb H.sb eb x hx) (H.C.asym _ _ pb py (by simpa using q))
  by_cases d2:k=0
  .rw [pe (by simp[d2])]
   exact km (.r _ _ _ (H.h _ m (m3.end H.sa H.sb (.inl d2))))
  rw[pD (by simpa using d2)]
  obtain⟨u,rfl⟩:∃u,k=u+1:=⟨k-1,by lia⟩
  exact OF H hf (g:=m) ⟨m3,Nat.succ_pos _,p2,by dsimp only;lia⟩ hA
 .rw [pD ck];have:k=i:=by lia
  subst this;obtain⟨u,rfl⟩:∃u,k=u+1:=⟨k-1,by lia⟩
  exact OF H hf (g:=m) ⟨q.m,p1,p2,p3⟩ hA
theorem Ti(H:Lo prog w A s κ P lt a b st Q) (hf:Hf lt a b) (q:MG lt a b (n+j) x) :
  wpS (ki prog w) A E s (LX a b m x.o x.i x.j x.p x.q) (Lp H5 (λx=>sg st x.g) (MG lt a b (n+(j+1))) (MG lt a b (n+1)) Q) (sg st x.g):=by
 obtain⟨o,i,k,m',p,q',g⟩:=x;have p1:0<i:=q.p;have p2:1<k:=q.q;have p3:i+k+(n+j)<=a.size+b.size:=q.r;obtain⟨u,rfl⟩:∃u,i=u+1:=⟨i-1,by lia⟩
 obtain⟨v,rfl⟩:∃v,k=v+1:=⟨k-1,by lia⟩
 have la:u<a.size:=q.m.la;have lb:v<b.size:=q.m.lb;dsimp only [LX,eY];have ea:a[u]?=some a[u]:=af la;have eb:b[v]?=some b[v]:=af lb;have pa:=H.ha _ (bu la);have pb:=H.hb _ (bu lb);refine kj (pV eb (kj (pV ea (kj (H.C.cmp pb pa H.hk ?_)))));cases e:lt b[v] a[u] with
 |true =>
  dsimp only;rw[pe rfl];refine kj (pV ea ?_);have m2:=q.m.pushA H.sa ea λy hy=>H.C.trans _ _ _ (H.hb _ (wJ hy)) pb pa (Co H.C H.hb H.sb eb y hy) (H.C.asym _ _ pb pa e)
  by_cases d1:u=0
  .rw [pe (by simp[d1])]
   exact km (.r _ _ _ (H.h _ _ (m2.end H.sa H.sb (.inl d1))))
  rw[pD (by simpa using d1)]
  have R:∀n,u+(v+1)+n<=a.size+b.size->MG lt a b n ⟨_,_,_,0,p+1,0,g⟩:=λn hn=>⟨m2,fq d1,p2,hn⟩
  split
  .exact km (.d _ (R _ (by lia)))
  .exact km (.y _ (R _ (by lia)))
 |false =>
  dsimp only;rw[pD (by decide)]
  refine kj (pV eb ?_);have m2:=q.m.pushB H.sb eb λy hy=>H.C.trans _ _ _ (H.ha _ (wJ hy)) pa pb (Co H.C H.ha H.sa ea y hy) e
  by_cases d1:v=1
  .rw [pe (by simp[d1])]
   subst d1;exact km (.r _ _ _ (WE H hf m2))
  rw[pD (by simpa using d1)]
  have R:∀n,u+1+v+n<=a.size+b.size->MG lt a b n ⟨_,_,_,0,0,q'+1,g⟩:=λn hn=>⟨m2,p1,by dsimp only;lia,hn⟩
  split
  .exact km (.d _ (R _ (by lia)))
  .exact km (.y _ (R _ (by lia)))
theorem SJ(H:Lo prog w A s κ P lt a b st Q) (hf:Hf lt a b) (q:MG lt a b n x) :
  wpS (ki prog w) A E s (WH a b x.o x.i x.j x.m) (Lp H4 (λx=>sg st x.g) (MG lt a b (n+1)) (λ_=>False) Q) (sg st x.g):=by
 refine xF H5 (λx=>sg st x.g) (λj=>MG lt a b (n+j)) (MG lt a b (n+1)) Q ⟨x.o,x.i,x.j,0,0,0,x.g⟩ ⟨q.m,q.p,q.q,q.r⟩ (λj x q=>Ti H hf q) (λy h=>⟨h.m,h.p,h.q,by have:=h.r;have:=h.p;have:=h.q;lia⟩) (λy q=>?_) λr y st' hr=>km (.r _ _ _ hr)
 refine kj (xC ?_);refine xF H6 (λx=>sg st x.g) (λ_=>MG lt a b (n+1)) (MG lt a b (n+1)) Q ⟨y.o,y.i,y.j,x.m+1,y.p,y.q,y.g⟩ ⟨q.m,q.p,q.q,q.r⟩ (λj z q=>?_) (λ_ h=>h) (λz q=>?_) λr y st' hr=>km (.r _ _ _ hr)
 .dsimp only;split
  .exact Nb H hf (x:=⟨_,_,_,z.m-1,_,_,z.g⟩) ⟨q.m,q.p,q.q,q.r⟩
  .exact Nb H hf q
 .refine kj (yh (km ?_));exact Lp.y (t:=H4) (v:=λx=>sg st x.g) ⟨_,_,_,z.m+1,0,0,z.m+1⟩ ⟨q.m,q.p,q.q,q.r⟩
theorem G6(C:zw prog w A s κ P lt) (ha:∀x,x∈a->P x) (hb:∀x,x∈b->P x) (hk:kindOf st=κ) (sa:xX lt a.toList) (sb:xX lt b.toList)
  (na0:0<a.size) (nb0:0<b.size) (h0:∀x∈b.toList.take 1,∀y∈a.toList,lt y x=false) (hl:∀x,a[a.size-1]?=some x->∀y∈b.toList,lt x y=false)
  (h:∀r g,PN lt a b r->Q r (sg st g)):wpS (ki prog w) A E s (Dl a b) Q st:=by
 have H:Lo prog w A s κ P lt a b st Q:=⟨C,ha,hb,hk,sa,sb,h⟩;rw[GW];refine kj (xC ?_);have ea0:a[a.size-1]?=some (a[a.size-1]'(by lia)):=af (by lia)
 refine kj (pV ea0 ?_);have m0:MH lt a b #[] (a.size-1+1) b.size:=⟨by lia,ai _,by
  rw[show a.size-1+1=a.toList.length by simp;lia,bw,←au,bw];simp,by simp[xX],by simp,by simp⟩
 have m1:MH lt a b #[a[a.size-1]'(by lia)] (a.size-1) b.size:=m0.pushA sa ea0 λy hy=>hl _ ea0 y (bG hy)
 by_cases c1:a.size-1=0
 .rw [pe (by simp[c1])]
  exact km (h _ (mT st) (m1.end sa sb (.inl c1)))
 rw[pD (by simpa using c1)]
 by_cases c2:b.size=1
 .rw [pe (by simp[c2])]
  have m1':=m1;rw[c2]at m1' ⊢;exact km (WE H h0 (g:=mT st) m1')
 rw[pD (by simpa using c2)]
 refine kj (mG ?_);exact xF H4 (λx=>sg st x.g) (λi=>MG lt a b (i+1)) (λ_=>False) Q ⟨_,a.size-1,b.size,_,0,0,mT st⟩ ⟨m1,fq c1,show 1<b.size by lia,show a.size-1+b.size+1<=a.size+b.size by lia⟩ (λi x q=>SJ H h0 q) (λx h=>by have:=h.p;have:=h.q;have:=h.r;lia) (λx h=>h.elim) λr y st' hr=>km hr
end
def Aj(lt:kc->kc->Bool) (xs:Array kc) (i j:Nat):Prop:=∀p q x y,i<=p->p<=q->q<j->xs[p]?=some x->xs[q]?=some y->lt y x=false
def PK(lt:kc->kc->Bool) (xs:Array kc) (i j:Nat):Prop:=∀p q x y,i<=p->p<=q->q<j->xs[p]?=some x->xs[q]?=some y->lt x y=false
def U7(lt:kc->kc->Bool) (xs:Array kc) (i j:Nat):Prop:=∀p q x y,i<=p->p<j->i<=q->q<j->xs[p]?=some x->xs[q]?=some y->lt x y=false
section
variable {lt:kc->kc->Bool}{xs:Array kc}{i j lo n:Nat}
theorem IE(hj:j<=xs.size) (h:PK lt xs i j):Aj lt (mirror xs i j ((j-i) / 2)) i j:=by
 intro p q x y h1 h2 h3 ex ey;rw[mH hj,pe ⟨h1,by lia⟩]at ex
 rw[mH hj,pe ⟨by lia,h3⟩]at ey
 exact h _ _ _ _ (by lia) (by lia) (by lia) ey ex
theorem Ar(hj:j<=xs.size) (hi:lo<=i) (hn:j<=n) (e:U7 lt xs i j) (h:PK lt xs lo n):PK lt (mirror xs i j ((j-i) / 2)) lo n:=by
 intro p q x y h1 h2 h3 ex ey;rw[mH hj]at ex ey
 by_cases cp:i<=p/\p<j
 .rw [pe cp]at ex
  by_cases cq:i<=q/\q<j
  .rw [pe cq]at ey;exact e _ _ _ _ (by lia) (by lia) (by lia) (by lia) ex ey
  .rw [pD cq]at ey;exact h _ _ _ _ (by lia) (by lia) h3 ex ey
 .rw [pD cp]at ex
  by_cases cq:i<=q/\q<j
  .rw [pe cq]at ey;exact h _ _ _ _ h1 (by lia) (by lia) ex ey
  .rw [pD cq]at ey;exact h _ _ _ _ h1 h2 h3 ex ey
end
section
variable (lo:Nat)
def W6(n:Nat):StateT SortSt Sem (ForInStep (Option (Option Nat)×Nat)):=do
 match ←ltAt' (lo+n) (lo+n-1) with
 |some c=>if c then pure (.done (none,n)) else pure (.yield (none,n+1))
 |_=>pure (.done (some none,n))
def Yq(n q:Nat):StateT SortSt Sem (ForInStep (Option (Option Nat)×Nat×Nat)):=do
 match ←ltAt' (lo+n) (lo+n-1) with
 |some c =>
  if c then
   if q>0 then do
    let _ ←mQ (lo+n-(q+1)) (lo+n)
    pure (.yield (none,n+1,0))
   else pure (.yield (none,n+1,0))
  else do
   match ←ltAt' (lo+n-1) (lo+n) with
   |some c=>if c then pure (.done (none,n,q)) else pure (.yield (none,n+1,q+1))
   |_=>pure (.done (some none,n,q))
 |_=>pure (.done (some none,n,q))
def W7(nrem n:Nat):StateT SortSt Sem (Option Nat):=do
 mQ lo (lo+n)
 let r ←forIn [n:nrem] (none,n) λ_ s=>W6 lo s.2
 Break.runK.match_1 (λ_=>StateT SortSt Sem (Option Nat)) r.1 (λv=>pure v) λ_=>pure (some r.2)
def Xd(nrem n:Nat):StateT SortSt Sem (Option Nat):=do
 rule "list.sort.descending-run"
 let r ←forIn [n+1:nrem] (none,n+1,0) λ_ s=>Yq lo s.2.1 s.2.2
 Break.runK.match_1 (λ_=>StateT SortSt Sem (Option Nat)) r.1 (λv=>pure v) λ_ =>
  if r.2.2>0 then do
   let _ ←mQ (lo+r.2.1-(r.2.2+1)) (lo+r.2.1)
   W7 lo nrem r.2.1
  else W7 lo nrem r.2.1
theorem Wc(nrem:Nat):countRun' lo nrem=(do
 let r ←forIn [1:nrem] (none,1) λ_ s=>W6 lo s.2
 Break.runK.match_1 (λ_=>StateT SortSt Sem (Option Nat)) r.1 (λv=>pure v) λ_ =>
  if r.2 == nrem then pure (some r.2)
  else if r.2>1 then do
   match ←ltAt' lo (lo+r.2-1) with
   |some c =>
    if c then pure (some r.2)
    else do
     let _ ←mQ lo (lo+r.2)
     Xd lo nrem r.2
   |_=>pure none
  else Xd lo nrem r.2):=countRun'_eq lo nrem
end
section
variable {prog:kq}{w:kr}{A:Around}{E:Value->Shared->Prop}{s:Shared}{κ:kQ}{P:kc->Prop}{lt:kc->kc->Bool}
theorem Qq(C:zw prog w A s κ P lt) {xs:Array kc}(hp:∀x,x∈xs->P x) (lo:Nat):Aj lt xs lo (lo+1):=by
 intro p q x y h1 h2 h3 ex ey;have e:p=q:=by lia
 subst e;rw[ex]at ey;cases ey;exact C.refl (hp _ (aQq ex))
theorem Pu(C:zw prog w A s κ P lt) {xs:Array kc}(hp:∀x,x∈xs->P x) {lo n:Nat}(h:Aj lt xs lo (lo+(n+1))) (hx:∀x y,xs[lo+(n+1)]?=some x->xs[lo+n]?=some y->lt x y=false) (hz:lo+(n+1)<xs.size):Aj lt xs lo (lo+(n+2)):=by
 intro p q x y h1 h2 h3 ex ey
 by_cases c:q<lo+(n+1)
 .exact h p q x y h1 h2 c ex ey
 .have eq:q=lo+(n+1):=by lia
  subst eq
  by_cases c2:p=lo+(n+1)
  .subst c2;rw[ex]at ey;cases ey;exact C.refl (hp _ (aQq ex))
  .have em:xs[lo+n]?=some (xs[lo+n]'(by lia)):=af (by lia)
   exact C.trans _ _ _ (hp _ (aQq ex)) (hp _ (aQq em)) (hp _ (aQq ey)) (h p (lo+n) _ _ h1 (by lia) (by lia) ex em) (hx _ _ ey em)
theorem GG(C:zw prog w A s κ P lt) {xs:Array kc}(hp:∀x,x∈xs->P x) {lo n:Nat}(h:PK lt xs lo (lo+(n+1))) (hx:∀x y,xs[lo+(n+1)]?=some x->xs[lo+n]?=some y->lt y x=false) (hz:lo+(n+1)<xs.size):PK lt xs lo (lo+(n+2)):=by
 intro p q x y h1 h2 h3 ex ey
 by_cases c:q<lo+(n+1)
 .exact h p q x y h1 h2 c ex ey
 .have eq:q=lo+(n+1):=by lia
  subst eq
  by_cases c2:p=lo+(n+1)
  .subst c2;rw[ex]at ey;cases ey;exact C.refl (hp _ (aQq ex))
  .have em:xs[lo+n]?=some (xs[lo+n]'(by lia)):=af (by lia)
   exact C.trans _ _ _ (hp _ (aQq ey)) (hp _ (aQq em)) (hp _ (aQq ex)) (hx _ _ ey em) (h p (lo+n) _ _ h1 (by lia) (by lia) ex em)
theorem GK(C:zw prog w A s κ P lt) {lo nrem a:Nat}{st:SortSt}(hp:∀x,x∈kz st->P x) (hk:kindOf st=κ) (ha:1<=a) (han:a<=nrem) (hz:lo+nrem<=(kz st).size) (hs:Aj lt (kz st) lo (lo+a)) :
  wpS (ki prog w) A E s (forIn [a:nrem] ((none,a):Option (Option Nat)×Nat) λ_ s=>W6 lo s.2)
   (λc st'=>∃n,c=(none,n)/\st'=st/\a<=n/\n<=nrem/\Aj lt (kz st) lo (lo+n)/\(n=nrem∨∃x y,(kz st)[lo+n]?=some x/\(kz st)[lo+n-1]?=some y/\lt x y=true)) st:=by
 refine kM (I:=λi c st'=>c=(none,i)/\st'=st/\a<=i/\i<=nrem/\Aj lt (kz st) lo (lo+i)) ?step ?fin ⟨rfl,rfl,ai _,han,hs⟩
 case step =>
  rintro i c st' h1 h2 ⟨rfl,rfl,h3,h4,h5⟩;obtain⟨k,rfl⟩:∃k,i=k+1:=⟨i-1,by lia⟩
  have ex:(kz st')[lo+(k+1)]?=some ((kz st')[lo+(k+1)]'(by lia)):=af (by lia)
  have ey:(kz st')[lo+(k+1)-1]?=some ((kz st')[lo+k]'(by lia)):=af (by lia)
  refine kj (C.at ex ey (hp _ (aQq ex)) (hp _ (aQq ey)) hk ?_);cases e:lt ((kz st')[lo+(k+1)]'(by lia)) ((kz st')[lo+k]'(by lia)) with
  |true=>exact km ⟨_,rfl,rfl,h3,h4,h5,.inr ⟨_,_,ex,ey,e⟩⟩
  |false =>
   refine km ⟨rfl,rfl,by lia,h2,Pu C hp h5 (λx y hx hy=>?_) (by lia)⟩
   have hy':(kz st')[lo+(k+1)-1]?=some y:=hy;rw[ex]at hx;rw[ey]at hy';cases hx;cases hy';exact e
 case fin =>
  rintro c st' ⟨rfl,rfl,h3,h4,h5⟩;have e:max a nrem=nrem:=jo han;rw[e]at h3 h4 h5 ⊢;exact⟨nrem,rfl,rfl,h3,ai _,h5,.inl rfl⟩
theorem Cc{i j:Nat}{st:SortSt}{Q:Unit->SortSt->Prop}(h:Q () (kO st (mirror (kz st) i j ((j-i) / 2)))):wpS (ki prog w) A E s (mQ i j) Q st:=by
 rw[reverseSlice'_eq];exact mv h
structure yK (xs ys:Array kc) (lo hi:Nat):Prop where
 pm:ys.Perm xs
 out:∀k,(k<lo∨hi<=k)->ys[k]?=xs[k]?
theorem yK.refl(xs:Array kc) (lo hi:Nat):yK xs xs lo hi:=⟨jz.refl _,λ_ _=>rfl⟩
theorem yK.trans{xs ys zs:Array kc}{lo hi:Nat}(a:yK xs ys lo hi) (b:yK ys zs lo hi):yK xs zs lo hi:=⟨b.pm.trans a.pm,λk h=>(b.out k h).trans (a.out k h)⟩
theorem yK.mono{xs ys:Array kc}{lo hi hi':Nat}(a:yK xs ys lo hi) (h:hi<=hi'):yK xs ys lo hi':=⟨a.pm,λk q=>a.out k (by lia)⟩
theorem yK.size{xs ys:Array kc}{lo hi:Nat}(a:yK xs ys lo hi):ys.size=xs.size:=a.pm.size_eq
theorem yK.mem{xs ys:Array kc}{lo hi:Nat}(a:yK xs ys lo hi) {P:kc->Prop}(h:∀x,x∈xs->P x):∀x,x∈ys->P x:=λx hx=>h x (a.pm.mem_iff.mp hx)
theorem yk{xs:Array kc}{lo hi i j:Nat}(hj:j<=xs.size) (h1:lo<=i) (h2:j<=hi):yK xs (mirror xs i j ((j-i) / 2)) lo hi :=
 ⟨mirror_perm _ _ _ _,λk hk=>by rw[mH hj,pD (by lia)]⟩
structure CR (lt:kc->kc->Bool) (as:Array kc) (lo i q:Nat) (ys:Array kc):Prop where
 b:yK as ys lo (lo+i)
 d:PK lt ys lo (lo+i)
 e:U7 lt ys (lo+i-(q+1)) (lo+i)
 p:q+1<=i
theorem Cj(C:zw prog w A s κ P lt) {ys:Array kc}(hp:∀x,x∈ys->P x) {i j:Nat}(h:j<=i+1):U7 lt ys i j:=by
 intro p q x y g1 g2 g3 g4 gx gy;have e:p=q:=by lia
 subst e;rw[gx]at gy;cases gy;exact C.refl (hp _ (aQq gx))
theorem TH(C:zw prog w A s κ P lt) {lo nrem k neq:Nat}{st:SortSt}{ys:Array kc}(hp:∀x,x∈kz st->P x) (hk:kindOf st=κ) (hz:lo+nrem<=(kz st).size) (hi:k+1<nrem) (g:CR lt (kz st) lo (k+1) neq ys) :
  wpS (ki prog w) A E s (Yq lo (k+1) neq) (λr DI=>∃m q zs,DI=kO st zs/\m<=nrem/\CR lt (kz st) lo m q zs/\(r = .done (none,m,q)∨r = .yield (none,m,q)/\m=k+1+1)) (kO st ys):=by
 have g1:=g.b;have g2:=g.d;have g3:=g.e;have g4:=g.p;have hpy:=g1.mem hp;have hsz:=g1.size;have ex:ys[lo+(k+1)]?=some (ys[lo+(k+1)]'(by lia)):=af (by lia)
 have ey:ys[lo+(k+1)-1]?=some (ys[lo+k]'(by lia)):=af (by lia)
 have px:=hpy _ (aQq ex);have py:=hpy _ (aQq ey);have des:lt (ys[lo+k]'(by lia)) (ys[lo+(k+1)]'(by lia))=false->PK lt ys lo (lo+(k+1+1)):=λe=>GG C hpy g2 (λx y hx hy=>by
  have hy':ys[lo+(k+1)-1]?=some y:=hy;rw[ex]at hx;rw[ey]at hy';cases hx;cases hy';exact e) (by lia)
 refine kj (C.at (st:=kO st ys) ex ey px py hk ?_);cases e:lt (ys[lo+(k+1)]'(by lia)) (ys[lo+k]'(by lia)) with
 |true =>
  have g2':=des (C.asym _ _ px py e);dsimp only;rw[pe rfl]
  by_cases cn:neq>0
  .rw [pe cn];refine kj (Cc (km ?_));have bt:yK (kz st) (mirror ys (lo+(k+1)-(neq+1)) (lo+(k+1)) ((lo+(k+1)-(lo+(k+1)-(neq+1))) / 2)) lo (lo+(k+1)):=g1.trans (yk (by lia) (by lia) (ai _))
   exact⟨_,0,_,rfl,hi,⟨bt.mono (by lia),Ar (by lia) (by lia) (by lia) g3 g2',Cj C (bt.mem hp) (by lia),by lia⟩,.inr ⟨rfl,rfl⟩⟩
  .rw [pD cn];exact km ⟨_,0,ys,rfl,hi,⟨g1.mono (by lia),g2',Cj C hpy (by lia),by lia⟩,.inr ⟨rfl,rfl⟩⟩
 |false =>
  dsimp only;rw[pD (by decide)]
  refine kj (C.at (st:=kO st ys) ey ex py px hk ?_);cases e':lt (ys[lo+k]'(by lia)) (ys[lo+(k+1)]'(by lia)) with
  |true=>exact km ⟨_,neq,ys,rfl,bA hi,g,.inl rfl⟩
  |false =>
   refine km ⟨_,neq+1,ys,rfl,hi,⟨g1.mono (by lia),des e',?_,by lia⟩,.inr ⟨rfl,rfl⟩⟩
   intro p q x y h1 h2 h3 h4 gx gy;have qx:=hpy _ (aQq gx);have qy:=hpy _ (aQq gy)
   by_cases cp:p=lo+(k+1)
   .subst cp;rw[ex]at gx;cases gx
    by_cases cq:q=lo+(k+1)
    .subst cq;rw[ex]at gy;cases gy;exact C.refl px
    .exact C.trans _ _ _ qy py px (g3 (lo+(k+1)-1) q _ _ (by lia) (by lia) (by lia) (by lia) ey gy) e
   .by_cases cq:q=lo+(k+1)
    .subst cq;rw[ex]at gy;cases gy;exact C.trans _ _ _ px py qx e' (g3 p (lo+(k+1)-1) _ _ (by lia) (by lia) (by lia) (by lia) gx ey)
    .exact g3 p q x y (by lia) (by lia) (by lia) (by lia) gx gy
abbrev VS(lt:kc->kc->Bool) (st:SortSt) (lo nrem:Nat) (Q:Option Nat->SortSt->Prop):=∀n xs,1<=n->n<=nrem->yK (kz st) xs lo (lo+n)->Aj lt xs lo (lo+n)->Q (some n) (kO st xs)
theorem L8(C:zw prog w A s κ P lt) {lo nrem m:Nat}{st:SortSt}{ys:Array kc}{Q:Option Nat->SortSt->Prop}(hp:∀x,x∈kz st->P x) (hk:kindOf st=κ) (hz:lo+nrem<=(kz st).size) (h:VS lt st lo nrem Q)
  (h1:1<=m) (h2:m<=nrem) (b:yK (kz st) ys lo (lo+m)) (d:PK lt ys lo (lo+m)):wpS (ki prog w) A E s (W7 lo nrem m) Q (kO st ys):=by
 refine kj (Cc ?_);have hsz:=b.size;have f1:=IE (by lia) d
 have f2:=b.trans (yk (i:=lo) (j:=lo+m) (by lia) (ai _) (ai _))
 refine kj (kW (GK (st:=kO st _) C (f2.mem hp) hk h1 h2 (bQ hz (eN f2.size.symm)) f1) ?_);rintro c DI ⟨n',rfl,rfl,n1',n2',s1',_⟩;exact km (h n' _ (by lia) n2' (f2.mono (by lia)) s1')
theorem Ol(C:zw prog w A s κ P lt) {lo nrem n:Nat}{st:SortSt}{xs:Array kc}{Q:Option Nat->SortSt->Prop}(hp:∀x,x∈kz st->P x) (hk:kindOf st=κ) (hz:lo+nrem<=(kz st).size) (h:VS lt st lo nrem Q)
  (hn:n<nrem) (b:yK (kz st) xs lo (lo+n)) (d:PK lt xs lo (lo+(n+1))):wpS (ki prog w) A E s (Xd lo nrem n) Q (kO st xs):=by
 refine kj (xC (kj (kW (kM
  (I:=λi c DI=>∃q ys,c=(none,i,q)/\DI=kO st ys/\i<=nrem/\CR lt (kz st) lo i q ys)
  (Q:=λc DI=>∃m q ys,c=(none,m,q)/\DI=kO st ys/\m<=nrem/\CR lt (kz st) lo m q ys)
  ?_ ?_ ⟨0,xs,rfl,rfl,hn,b.mono (by lia),d,Cj C (b.mem hp) (by lia),by lia⟩) ?_)))
 .rintro i c DI _ hi ⟨q,ys,rfl,rfl,_,g⟩;obtain⟨k,rfl⟩:∃k,i=k+1:=⟨i-1,by have:=g.p;lia⟩
  refine kW (TH C hp hk hz hi g) λr DI hr=>?_
  obtain⟨m,q,zs,rfl,hm,g',rfl|⟨rfl,rfl⟩⟩:=hr
  .exact ⟨m,q,zs,rfl,rfl,hm,g'⟩
  .exact ⟨q,zs,rfl,rfl,hm,g'⟩
 .rintro c DI ⟨q,ys,rfl,rfl,hm,g⟩;exact⟨_,q,ys,rfl,rfl,hm,g⟩
 .rintro c DI ⟨m,q,ys,rfl,rfl,hm,g⟩;have hsz:=g.b.size;have gp:=g.p;dsimp only
  by_cases cn:q>0
  .rw [pe cn];exact kj (Cc (L8 (st:=st) (ys:=mirror ys (lo+m-(q+1)) (lo+m) ((lo+m-(lo+m-(q+1))) / 2)) C hp hk hz h (by lia) hm (g.b.trans (yk (by lia) (by lia) (ai _))) (Ar (by lia) (by lia) (ai _) g.e g.d)))
  .rw [pD cn];exact L8 C hp hk hz h (by lia) hm g.b g.d
theorem FL(C:zw prog w A s κ P lt) {lo nrem:Nat}{st:SortSt}{Q:Option Nat->SortSt->Prop}(hp:∀x,x∈kz st->P x) (hk:kindOf st=κ) (h1:1<=nrem) (hz:lo+nrem<=(kz st).size)
  (h:∀n xs,1<=n->n<=nrem->yK (kz st) xs lo (lo+n)->Aj lt xs lo (lo+n)->Q (some n) (kO st xs)):wpS (ki prog w) A E s (countRun' lo nrem) Q st:=by
 rw[Wc];refine kj (kW (GK C hp hk (ai 1) h1 hz (Qq C hp lo)) ?_);rintro c st' ⟨n,rfl,rfl,n1,n2,sg1,brk⟩;dsimp only;have triv:Q (some n) st':=h n (kz st') n1 n2 (yK.refl _ _ _) sg1
 by_cases c1:n=nrem
 .rw [pe (by simp[c1])]
  exact km triv
 rw[pD (by simpa using c1)]
 obtain⟨xb,yb,exb,eyb,eb⟩:=brk.resolve_left c1;obtain⟨m,rfl⟩:∃m,n=m+1:=⟨n-1,by lia⟩
 have pxb:=hp _ (aQq exb);have pyb:=hp _ (aQq eyb);have go:U7 lt (kz st') lo (lo+(m+1))->PK lt (kz st') lo (lo+(m+1+1)):=λe1 =>
  GG C hp (λp q x y g1 g2 g3 ex ey=>e1 p q x y g1 (by lia) (by lia) g3 ex ey) (λx y hx hy=>by
   have hy':(kz st')[lo+(m+1)-1]?=some y:=hy;rw[exb]at hx;rw[eyb]at hy';cases hx;cases hy';exact C.asym _ _ pxb pyb eb) (by lia)
 by_cases c2:m+1>1
 .rw [pe c2];have ex:(kz st')[lo]?=some ((kz st')[lo]'(by lia)):=af (by lia)
  have pex:=hp _ (aQq ex);refine kj (C.at ex eyb pex pyb hk ?_);cases e:lt ((kz st')[lo]'(by lia)) yb with
  |true=>exact km triv
  |false =>
   dsimp only;rw[pD (by decide)]
   have eqv:U7 lt (kz st') lo (lo+(m+1)):=by
    intro p q x y g1 g2 g3 g4 gx gy;have px:=hp _ (aQq gx);have py:=hp _ (aQq gy);have q1:=sg1 q (lo+(m+1)-1) _ _ g3 (by lia) (by lia) gy eyb
    have q2:=sg1 lo p _ _ (ai _) g1 g2 ex gx;exact C.trans _ _ _ py pex px (C.trans _ _ _ py pyb pex q1 e) q2
   exact kj (Cc (Ol C hp hk hz h (by lia) (yk (by lia) (ai _) (ai _)) (Ar (by lia) (ai _) (by lia) eqv (go eqv))))
 .rw [pD c2];exact Ol C hp hk hz h (by lia) (yK.refl _ _ _) (go (Cj C hp (by lia)))
end
section
variable {prog:kq}{w:kr}{A:Around}{E:Value->Shared->Prop}{s:Shared}{κ:kQ}{P:kc->Prop}{lt:kc->kc->Bool}
theorem Q0(C:zw prog w A s κ P lt) {xs:Array kc}(hp:∀x,x∈xs->P x) {lo k l:Nat}(hz:lo+k<xs.size) (hl:l<=k) (hs:Aj lt xs lo (lo+k)) {x:kc}(hx:xs[lo+k]?=some x)
  (h1:∀j y,j<l->xs[lo+j]?=some y->lt x y=false) (h2:∀j y,l<=j->j<k->xs[lo+j]?=some y->lt x y=true):Aj lt (bubble xs (lo+k) (k-l)) lo (lo+(k+1)):=by
 have px:=hp _ (aQq hx);have g:∀p,(bubble xs (lo+k) (k-l))[p]?=if p=lo+l then some x else if lo+l<p/\p<=lo+k then xs[p-1]? else xs[p]?:=λp=>by
  rw[getElem?_bubble hz (k-l) (by lia) p,show lo+k-(k-l)=lo+l by lia,hx]
 intro p q u v a1 a2 a3 eu ev;rw[g]at eu ev
 by_cases cp:p=lo+l
 .rw [pe cp]at eu;cases eu
  by_cases cq:q=lo+l
  .rw [pe cq]at ev;cases ev;exact C.refl px
  .rw [pD cq,pe ⟨by lia,by lia⟩]at ev
   have pv:=hp _ (aQq ev);exact C.asym _ _ px pv (h2 (q-1-lo) v (by lia) (by lia) (by rw[show lo+(q-1-lo)=q-1 by lia];exact ev))
 .rw [pD cp]at eu
  by_cases cp2:lo+l<p/\p<=lo+k
  .rw [pe cp2]at eu;rw[pD (by lia),pe ⟨by lia,by lia⟩]at ev
   exact hs (p-1) (q-1) _ _ (by lia) (by lia) (by lia) eu ev
  .rw [pD cp2]at eu
   by_cases cq:q=lo+l
   .rw [pe cq]at ev;cases ev;exact h1 (p-lo) u (by lia) (by rw[show lo+(p-lo)=p by lia];exact eu)
   .rw [pD cq]at ev
    by_cases cq2:lo+l<q/\q<=lo+k
    .rw [pe cq2]at ev;exact hs p (q-1) _ _ a1 (by lia) (by lia) eu ev
    .rw [pD cq2]at ev;exact hs p q _ _ a1 a2 (by lia) eu ev
theorem Iy{xs:Array kc}{lo k l n:Nat}(hz:lo+k<xs.size) (hl:l<=k) (hn:k<n):yK xs (bubble xs (lo+k) (k-l)) lo (lo+n) :=
 ⟨bubble_perm _ _ _,λp hp=>by rw[getElem?_bubble hz (k-l) (by lia) p,pD (by lia),pD (by lia)]⟩
theorem Mx{src dst:Nat}{st:SortSt}{Q:Unit->SortSt->Prop}(h:Q () (kO st (bubble (kz st) src (src-dst)))):wpS (ki prog w) A E s (moveDown' src dst) Q st:=by
 rw[moveDown'_eq];exact mv h
theorem HM(C:zw prog w A s κ P lt) {lo n ok:Nat}{st:SortSt}{Q:Bool->SortSt->Prop}(hp:∀x,x∈kz st->P x) (hk:kindOf st=κ) (h1:1<=ok) (h2:ok<=n) (hz:lo+n<=(kz st).size) (hs:Aj lt (kz st) lo (lo+ok))
  (h:∀xs,yK (kz st) xs lo (lo+n)->Aj lt xs lo (lo+n)->Q true (kO st xs)):wpS (ki prog w) A E s (binarySort' lo n ok) Q st:=by
 rw[binarySort'_eq];dsimp only;rw[Nat.max_eq_left h1];refine kj (kW (kM (I:=λk c st'=>∃ys,c=(none,())/\st'=kO st ys/\yK (kz st) ys lo (lo+n)/\Aj lt ys lo (lo+k)/\k<=n)
  (Q:=λc st'=>∃ys,c=(none,())/\st'=kO st ys/\yK (kz st) ys lo (lo+n)/\Aj lt ys lo (lo+n)) ?step ?fin ⟨kz st,rfl,rfl,yK.refl _ _ _,hs,h2⟩) ?post)
 case fin =>
  rintro c st' ⟨ys,rfl,rfl,b1,s1,q⟩;have e:max ok n=n:=by lia
  rw[e]at s1;exact⟨ys,rfl,rfl,b1,s1⟩
 case post =>
  rintro c st' ⟨ys,rfl,rfl,b1,s1⟩;exact km (h ys b1 s1)
 case step =>
  rintro k c st' hk1 hk2 ⟨ys,rfl,rfl,b1,s1,q⟩;have hpy:=b1.mem hp;have hsz:=b1.size;have ex:ys[lo+k]?=some (ys[lo+k]'(by lia)):=af (by lia)
  have px:=hpy _ (aQq ex);refine kj (kW (kM (I:=λi c st'=>∃l r,c=(none,l,r)/\st'=kO st ys/\l<=r/\r<=k/\(∀j y,j<l->ys[lo+j]?=some y->lt (ys[lo+k]'(by lia)) y=false)/\(∀j y,r<=j->j<k->ys[lo+j]?=some y->lt (ys[lo+k]'(by lia)) y=true)/\(r-l)+i<=k)
   (Q:=λc st'=>∃l r,c=(none,l,r)/\st'=kO st ys/\l=r/\r<=k/\(∀j y,j<l->ys[lo+j]?=some y->lt (ys[lo+k]'(by lia)) y=false)/\(∀j y,r<=j->j<k->ys[lo+j]?=some y->lt (ys[lo+k]'(by lia)) y=true))
   ?step1 ?fin1 ⟨0,k,rfl,rfl,bg _,ai _,λj y hj=>absurd hj (cK _),λj y g1 g2=>absurd g2 (by lia),by lia⟩) ?post1)
  case fin1 =>
   rintro c st' ⟨l,r,rfl,rfl,a1,a2,a3,a4,a5⟩;exact⟨l,r,rfl,rfl,by lia,a2,a3,a4⟩
  case step1 =>
   rintro i c st' _ hi ⟨l,r,rfl,rfl,a1,a2,a3,a4,a5⟩;dsimp only
   by_cases c1:l ≥ r
   .rw [pe c1];exact km ⟨l,r,rfl,rfl,by lia,a2,a3,a4⟩
   rw[pD c1];have em:ys[lo+(l+r) / 2]?=some (ys[lo+(l+r) / 2]'(by lia)):=af (by lia)
   have pm:=hpy _ (aQq em);refine kj (C.at (st:=kO st ys) ex em px pm hk ?_);cases e:lt (ys[lo+k]'(by lia)) (ys[lo+(l+r) / 2]'(by lia)) with
   |true =>
    dsimp only;rw[pe rfl];refine km ⟨l,_,rfl,rfl,by lia,by lia,a3,λj y g1 g2 ey=>?_,by lia⟩
    have py:=hpy _ (aQq ey);cases e':lt (ys[lo+k]'(by lia)) y with
    |true=>rfl
    |false =>
     have q1:=s1 (lo+(l+r) / 2) (lo+j) _ _ (by lia) (by lia) (by lia) em ey
     have q2:=C.trans _ _ _ pm py px q1 e';rw[e]at q2;cases q2
   |false =>
    dsimp only;rw[pD (by decide)]
    refine km ⟨_,r,rfl,rfl,by lia,a2,λj y g1 ey=>?_,a4,by lia⟩
    have py:=hpy _ (aQq ey);exact C.trans _ _ _ py pm px (s1 (lo+j) (lo+(l+r) / 2) _ _ (by lia) (by lia) (by lia) ey em) e
  case post1 =>
   rintro c st' ⟨l,r,rfl,rfl,rfl,a2,a3,a4⟩;dsimp only;refine kj (Mx (km ?_));have e:lo+k-(lo+l)=k-l:=by lia
   show ∃ys',_/\kO st (bubble ys (lo+k) (lo+k-(lo+l)))=kO st ys'/\_;rw[e];exact⟨_,rfl,rfl,b1.trans (Iy (by lia) a2 hk2),Q0 C hpy (by lia) a2 s1 ex a3 a4,hk2⟩
end
def tH(lt:kc->kc->Bool) (xs:Array kc):Nat->List (Nat×Nat×Nat)->Nat->Prop
 |s,[],e=>s=e
 |s,p::r,e=>p.1=s/\0<p.2.1/\Aj lt xs s (s+p.2.1)/\tH lt xs (s+p.2.1) r e
theorem vk{lt:kc->kc->Bool}{xs:Array kc}:∀{q r:List (Nat×Nat×Nat)}{s e:Nat},tH lt xs s (q++r) e↔∃m,tH lt xs s q m/\tH lt xs m r e
 | [],r,s,e=>by
  constructor
  .intro h;exact⟨s,rfl,h⟩
  .rintro ⟨m,rfl,h⟩;exact h
 |p::q,r,s,e=>by
  constructor
  .rintro ⟨h1,h2,h3,h4⟩;obtain⟨m,a,b⟩:=vk.mp h4;exact⟨m,⟨h1,h2,h3,a⟩,b⟩
  .rintro ⟨m,⟨h1,h2,h3,a⟩,b⟩;exact⟨h1,h2,h3,vk.mpr ⟨m,a,b⟩⟩
theorem yP{lt:kc->kc->Bool}{xs:Array kc}:∀{q:List (Nat×Nat×Nat)}{s e:Nat},tH lt xs s q e->s+q.length<=e
 | [],s,e,h=>by have:s=e:=h;simp[this]
 |p::q,s,e,hz=>by
  obtain⟨_,h2,_,h4⟩:=hz;have:=yP h4;rw[lCq];lia
theorem xf{lt:kc->kc->Bool}{xs ys:Array kc}:∀{q:List (Nat×Nat×Nat)}{s e:Nat},(∀k,s<=k->k<e->ys[k]?=xs[k]?)->tH lt xs s q e->tH lt ys s q e
 | [],s,e,_,h=>h
 |p::q,s,e,g,hz=>by
  obtain⟨h1,h2,h3,h4⟩:=hz;have l:=yP h4;refine⟨h1,h2,λa b x y a1 a2 a3 ex ey=>h3 a b x y a1 a2 a3 ?_ ?_,xf (λk k1 k2=>g k (by lia) k2) h4⟩
  .rw [←g a a1 (by lia)];exact ex
  .rw [←g b (by lia) (by lia)];exact ey
theorem AL{lt:kc->kc->Bool}{xs:Array kc}:∀{q q':List (Nat×Nat×Nat)}{s e:Nat},q'.map (λp=>(p.1,p.2.1))=q.map (λp=>(p.1,p.2.1))->tH lt xs s q e->tH lt xs s q' e
 | [],q',s,e,g,h=>by
  have:q'=[]:=by simpa using g
  subst this;exact h
 |p::q,[],s,e,g,h=>by simp at g
 |p::q,p'::q',s,e,g,hz=>by
  obtain⟨h1,h2,h3,h4⟩:=hz;simp only[ao,jM.injEq,Prod.mk.injEq]at g;obtain⟨⟨g1,g2⟩,g3⟩:=g;rw[←g2]at h2 h3 h4;exact⟨g1.trans h1,h2,h3,AL g3 h4⟩
theorem Em(o:Nat):∀(M:List kc) (n:Nat) (xs:Array kc),o+n+M.length<=xs.size ->
  ((M.zipIdx n).foldl (λa x=>a.setIfInBounds (o+x.2) x.1) xs).toList=xs.toList.take (o+n)++M++xs.toList.drop (o+n+M.length)
 | [],n,xs,h=>by simp
 |y::r,n,xs,h=>by
  rw[List.zipIdx_cons,cj];rw[lCq]at h;rw[Em o r (n+1) _ (by rw[Array.size_setIfInBounds];lia),gM]
  have hl:o+n<xs.toList.length:=by rw[au];lia
  have e1:(xs.toList.set (o+n) y).take (o+(n+1))=xs.toList.take (o+n)++[y]:=by
   rw[←eX,bZ,aZ hl,List.take_set_of_le (ai _)];rfl
  have e2:(xs.toList.set (o+n) y).drop (o+(n+1)+r.length)=xs.toList.drop (o+n+(r.length+1)):=by
   rw[List.drop_set_of_lt (by lia)]
   congr 1;lia
  rw[e1,e2,lCq,aq,aq,aq];rfl
section
variable {prog:kq}{w:kr}{A:Around}{E:Value->Shared->Prop}{s:Shared}{κ:kQ}{P:kc->Prop}{lt:kc->kc->Bool}
theorem Jp(C:zw prog w A s κ P lt) {left:Bool}{key:kc}{arr:Array kc}{base n:Nat}(hb:base+n<=arr.size) (ha:∀x,x∈arr->P x) (hkey:P key) (so:Aj lt arr base (base+n)) :
  ∀i j,i<=j->j<n->yo lt left key arr base j=true->yo lt left key arr base i=true:=by
 intro i j hij hj h;have ei:arr[base+i]?=some (arr[base+i]'(by lia)):=af (by lia)
 have ej:arr[base+j]?=some (arr[base+j]'(by lia)):=af (by lia)
 have pi:=ha _ (aQq ei);have pj:=ha _ (aQq ej);have le:=so (base+i) (base+j) _ _ (by lia) (by lia) (by lia) ei ej
 rw[uR ej]at h;rw[uR ei];cases left with
 |true =>
  rw[pe rfl]at h ⊢;cases q:lt (arr[base+i]'(by lia)) key with
  |true=>rfl
  |false =>
   have:=C.trans _ _ _ hkey pi pj q le;rw[h]at this;cases this
 |false =>
  rw[pD (by decide)]at h ⊢
  have h':lt key (arr[base+j]'(by lia))=false:=by simpa using h
  have:=C.trans _ _ _ pi pj hkey le h';simp[this]
theorem uy{a:Array kc}{i j:Nat}{x:kc}(h:x∈(a.extract i j).toList):∃k,i<=k/\k<j/\a[k]?=some x:=by
 rw[rR]at h;obtain⟨k,k1,k2,e⟩:=wC h;rw[bF]at e;exact⟨k,k1,k2,e⟩
theorem BV{a:Array kc}{i j:Nat}(h:Aj lt a i j):xX lt (a.extract i j).toList:=by
 rw[rR];refine bW.mpr λp q hp hq hpq=>?_
 rw[aL,lTq,au]at hp hq;have e:∀k (hk:k<((a.toList.take j).drop i).length),a[i+k]?=some ((a.toList.take j).drop i)[k]:=λk hk=>by
  rw[aL,lTq,au]at hk;rw[fL,gP,aY];exact⟨by lia,by simp⟩
 exact h (i+p) (i+q) _ _ (by lia) (by lia) (by lia) (e p _) (e q _)
theorem Hv(i:Nat):mergeAt' i=(do
 let s ←get
 let (some (sa,na,power),some (sb,nb,_)):=((lV s)[i]?,(lV s)[i+1]?)|lz "internal:list.sort.pending"
 set (setPending s (((lV s).setIfInBounds i (sa,na+nb,power)).eraseIdxIfInBounds (i+1)))
 let some k ←wW false (←kX (kz s) sb) (kz s) sa na 0|return false
 let (sa,na):=(sa+k,na-k)
 if na == 0 then return true
 let some nb ←wW true (←kX (kz s) (sa+na-1)) (kz s) sb nb (nb-1)|return false
 if nb == 0 then return true
 let x:=(kz s).extract sa sb
 let y:=(kz s).extract sb (sb+nb)
 let merged ←if na<=nb then Cv x y else Dl x y
 modify λs=>kO s (merged.toList.zipIdx.foldl (λa (p,j)=>a.setIfInBounds (sa+j) p) (kz s))
 return (failedOf (←get)).isNone):=rfl
theorem LG{st st':SortSt}{Q:PUnit->SortSt->Prop}(h:Q ⟨⟩ st'):wpS (ki prog w) A E s (set st':StateT SortSt Sem PUnit) Q st:=by
 unfold wpS;rw[StateT.run_set];exact jZ ⟨rfl,h⟩
theorem NZ(C:zw prog w A s κ P lt) {xs zs M:Array kc}{sa na nb k l:Nat}(hp:∀x,x∈xs->P x) (hz:sa+na+nb<=xs.size) (hk:k<=na) (hl:l<=nb) (h1:Aj lt xs sa (sa+na)) (h2:Aj lt xs (sa+na) (sa+na+nb)) {key last:kc}
  (ek:xs[sa+na]?=some key) (el:xs[sa+na-1]?=some last)
  (k2:∀j y,j<k->xs[sa+j]?=some y->lt key y=false) (l3:∀j y,l<=j->j<nb->xs[sa+na+j]?=some y->lt y last=false) (hna:0<na) (hnb:0<nb)
  (m:PN lt (xs.extract (sa+k) (sa+na)) (xs.extract (sa+na) (sa+na+l)) M)
  (hzs:zs.toList=xs.toList.take (sa+k)++M.toList++xs.toList.drop (sa+k+M.toList.length)):yK xs zs sa (sa+na+nb)/\Aj lt zs sa (sa+na+nb):=by
 have lM:M.toList.length=(na-k)+l:=by
  have:=m.pm.length_eq;simp only[lAq,au,ft]at this ⊢;lia
 have hlx:xs.toList.length=xs.size:=au;have gz:∀p,zs[p]?=if p<sa+k then xs[p]? else if p<sa+na+l then M[p-(sa+k)]? else xs[p]?:=λp=>by
  rw[←ax,hzs]
  by_cases c1:p<sa+k
  .rw [pe c1,aq,gZq (by rw[lTq];lia),cV c1,ax]
  .rw [pD c1,aq,gYq (by rw[lTq];lia),lTq,show min (sa+k) xs.toList.length=sa+k by lia]
   by_cases c2:p<sa+na+l
   .rw [pe c2,gZq (by lia),ax]
   .rw [pD c2,gYq (by lia),cT,ax]
    congr 1;lia
 have pk:=hp _ (aQq ek);have pl:=hp _ (aQq el);have from_:∀q v,M[q]?=some v->(∃j,k<=j/\j<na/\xs[sa+j]?=some v)∨∃j,j<l/\xs[sa+na+j]?=some v:=λq v e=>by
  have hv:v∈M.toList:=by simpa using aQq e
  rcases mAq.mp (m.pm.mem_iff.mp hv) with hv|hv
  .obtain ⟨j,j1,j2,ej⟩:=uy hv;exact .inl ⟨j-sa,by lia,by lia,by rw[show sa+(j-sa)=j by lia];exact ej⟩
  .obtain ⟨j,j1,j2,ej⟩:=uy hv;exact .inr ⟨j-(sa+na),by lia,by rw[show sa+na+(j-(sa+na))=j by lia];exact ej⟩
 refine⟨⟨?_,λp hp'=>?_⟩,?_⟩
 .rw [Array.perm_iff_toList_perm,hzs];have c:xs.toList=xs.toList.take (sa+k)++((xs.extract (sa+k) (sa+na)).toList++(xs.extract (sa+na) (sa+na+l)).toList)++xs.toList.drop (sa+k+M.toList.length):=by
   rw[rR,rR,lM];have a1:=AX xs.toList (sa+k) (sa+na) (by lia)
   have a2:=AX xs.toList (sa+na) (sa+na+l) (by lia)
   have a3:sa+k+(na-k+l)=sa+na+l:=by lia
   rw[a3,←aq,←a1,←a2,aM]
  conv=>rhs;rw[c]
  exact aW.append_right _ (aW.append_left _ m.pm)
 .rw [gz]
  by_cases c1:p<sa+k
  .rw [pe c1]
  .rw [pD c1,pD (by lia)]
 .intro p q x y a1 a2 a3 ex ey;rw[gz]at ex ey
  by_cases p1:p<sa+k
  .rw [pe p1]at ex;have px:=hp _ (aQq ex);have lx:lt key x=false:=k2 (p-sa) x (by lia) (by rw[show sa+(p-sa)=p by lia];exact ex)
   by_cases q1:q<sa+k
   .rw [pe q1]at ey;exact h1 p q _ _ a1 a2 (by lia) ex ey
   .rw [pD q1]at ey
    by_cases q2:q<sa+na+l
    .rw [pe q2]at ey;rcases from_ _ _ ey with ⟨j,j1,j2,ej⟩|⟨j,j1,ej⟩
     .exact h1 p (sa+j) _ _ a1 (by lia) (by lia) ex ej
     .exact C.trans _ _ _ px pk (hp _ (aQq ej)) lx (h2 (sa+na) (sa+na+j) _ _ (ai _) (by lia) (by lia) ek ej)
    .rw [pD q2]at ey;exact C.trans _ _ _ px pk (hp _ (aQq ey)) lx (h2 (sa+na) q _ _ (ai _) (by lia) (by lia) ek ey)
  .rw [pD p1]at ex;rw[pD (by lia)]at ey
   by_cases p2:p<sa+na+l
   .rw [pe p2]at ex
    by_cases q2:q<sa+na+l
    .rw [pe q2]at ey;rcases fm a2 with c|c
     .have ex':M.toList[p-(sa+k)]?=some x:=by rw[ax];exact ex
      have ey':M.toList[q-(sa+k)]?=some y:=by rw[ax];exact ey
      obtain⟨hx,e1⟩:=gSq.mp ex';obtain⟨hy,e2⟩:=gSq.mp ey';have:=bW.mp m.so (p-(sa+k)) (q-(sa+k)) hx hy (by lia)
      rw[e1,e2]at this;exact this
     .subst c;rw[ex]at ey;cases ey;rcases from_ _ _ ex with ⟨j,j1,j2,ej⟩|⟨j,j1,ej⟩
      .exact C.refl (hp _ (aQq ej))
      .exact C.refl (hp _ (aQq ej))
    .rw [pD q2]at ey;have py:=hp _ (aQq ey);rcases from_ _ _ ex with ⟨j,j1,j2,ej⟩|⟨j,j1,ej⟩
     .exact C.trans _ _ _ (hp _ (aQq ej)) pl py (h1 (sa+j) (sa+na-1) _ _ (by lia) (by lia) (by lia) ej el) (l3 (q-(sa+na)) y (by lia) (by lia) (by rw[show sa+na+(q-(sa+na))=q by lia];exact ey))
     .exact h2 (sa+na+j) q _ _ (by lia) (by lia) (by lia) ej ey
   .rw [pD p2]at ex;rw[pD (by lia)]at ey
    exact h2 p q _ _ (by lia) a2 (by lia) ex ey
end
section
variable {prog:kq}{w:kr}{A:Around}{E:Value->Shared->Prop}{s:Shared}{κ:kQ}{P:kc->Prop}{lt:kc->kc->Bool}
theorem OL{α:Type}{l:List α}{i:Nat}{a b:α}(h1:l[i]?=some a) (h2:l[i+1]?=some b):l=l.take i++a::b::l.drop (i+2):=by
 obtain⟨h3,e3⟩:=gSq.mp h1;obtain⟨h4,e4⟩:=gSq.mp h2
 conv=>lhs;rw[←aM i l]
 rw[ba h3,ba h4,e3,e4]
theorem Ly{α:Type}{q r:List α}{a b c:α}:((q++a::b::r).set q.length c).eraseIdx (q.length+1)=q++c::r:=by
 rw[List.set_append_right _ _ (ai _),eO,eC,List.eraseIdx_append_of_length_le (by lia),hZ]
 rfl
theorem B7(C:zw prog w A s κ P lt) {i lo:Nat}{st:SortSt}{Q:Bool->SortSt->Prop}(hp:∀x,x∈kz st->P x) (hk:kindOf st=κ) (hf:failedOf st=none) (hlo:lo<=(kz st).size) (hch:tH lt (kz st) 0 (lV st).toList lo)
  (hi:i+1<(lV st).size) (h:∀xs p g,yK (kz st) xs 0 lo->p.size+1=(lV st).size->tH lt xs 0 p.toList lo->Q true (SortSt.mk' κ xs p g none)):wpS (ki prog w) A E s (mergeAt' i) Q st:=by
 obtain⟨κ',arr,pend,g0,fl⟩:=st;have hk:κ'=κ:=hk;have hf:fl=none:=hf;subst hk hf;have hp:∀x,x∈arr->P x:=hp;have hlo:lo<=arr.size:=hlo;have hch:tH lt arr 0 pend.toList lo:=hch;have hi:i+1<pend.size:=hi;have e1:pend[i]?=some (pend[i]'(by lia)):=af (by lia)
 have e2:pend[i+1]?=some (pend[i+1]'(by lia)):=af (by lia)
 generalize pend[i]'(by lia)=a at e1
 generalize pend[i+1]'(by lia)=b at e2
 obtain⟨sa,na,pa⟩:=a;obtain⟨sb,nb,pb⟩:=b;have e1':pend.toList[i]?=some (sa,na,pa):=by rw[ax];exact e1
 have e2':pend.toList[i+1]?=some (sb,nb,pb):=by rw[ax];exact e2
 have ep:=OL e1' e2';have lq:(pend.toList.take i).length=i:=by rw[lTq,au];lia
 generalize pend.toList.take i=q at ep lq;generalize pend.toList.drop (i+2)=r at ep;rw[ep]at hch;obtain⟨m0,c1,c2⟩:=vk.mp hch;obtain⟨x1,x2,x3,x4,x5,x6,x7⟩:=c2;have d1:sa=m0:=x1;have d2:0<na:=x2;have d3:Aj lt arr m0 (m0+na):=x3;have f1:sb=m0+na:=x4;have f2:0<nb:=x5;have f3:Aj lt arr (m0+na) (m0+na+nb):=x6;have f4:tH lt arr (m0+na+nb) r lo:=x7
 clear x1 x2 x3 x4 x5 x6 x7
 subst d1 f1;have hrl:sa+na+nb+r.length<=lo:=yP f4;have hql:0+q.length<=sa:=yP c1;have hz:sa+na+nb<=arr.size:=by lia
 have np:((pend.setIfInBounds i (sa,na+nb,pa)).eraseIdxIfInBounds (i+1)).toList=q++(sa,na+nb,pa)::r:=by
  rw[Array.toList_eraseIdxIfInBounds,gM,ep,←lq];exact Ly
 have ns:((pend.setIfInBounds i (sa,na+nb,pa)).eraseIdxIfInBounds (i+1)).size+1=pend.size:=by
  rw[←au,np,←au,ep];simp only[lAq,lCq];lia
 have fin:∀zs g,yK arr zs sa (sa+na+nb)->Aj lt zs sa (sa+na+nb)->Q true (SortSt.mk' κ' zs ((pend.setIfInBounds i (sa,na+nb,pa)).eraseIdxIfInBounds (i+1)) g none):=λzs g b1 s1=>by
  refine h zs _ g ⟨b1.pm,λk hk=>b1.out k (by lia)⟩ ns ?_
  rw[np];refine vk.mpr ⟨sa,xf (λk _ k2=>b1.out k (.inl k2)) c1,rfl,by show 0<na+nb;lia,?_,?_⟩
  .show Aj lt zs sa (sa+(na+nb));rw[←eX];exact s1
  .show tH lt zs (sa+(na+nb)) r lo;rw[←eX];exact xf (λk k1 _=>b1.out k (.inr k1)) f4
 rw[Hv];refine kj (mG ?_);dsimp only;rw[e1,e2];dsimp only;refine kj (LG ?_);have ek:arr[sa+na]?=some (arr[sa+na]'(by lia)):=af (by lia)
 have el:arr[sa+na-1]?=some (arr[sa+na-1]'(by lia)):=af (by lia)
 have pk:=hp _ (aQq ek);have pl:=hp _ (aQq el);refine kj (pV ek ?_);refine kj (vx C d2 (by lia) hp pk rfl (Jp C (by lia) hp pk d3) λk k1 k2 k3=>?_)
 dsimp only;have kl:∀j y,j<k->arr[sa+j]?=some y->lt (arr[sa+na]'(by lia)) y=false:=λj y hj ey=>by
  have:=k2 j hj;rw[uR ey,pD (by decide)]at this
  simpa using this
 have kh:∀j y,k<=j->j<na->arr[sa+j]?=some y->lt (arr[sa+na]'(by lia)) y=true:=λj y h1 h2 ey=>by
  have:=k3 j h1 h2;rw[uR ey,pD (by decide)]at this
  simpa using this
 by_cases c1':na-k=0
 .rw [pe (by simp[c1'])]
  refine km (fin arr g0 (yK.refl _ _ _) λp q x y a1 a2 a3 ex ey=>?_)
  have px:=hp _ (aQq ex);have py:=hp _ (aQq ey)
  by_cases q1:q<sa+na
  .exact d3 p q _ _ a1 a2 q1 ex ey
  .by_cases p1:p<sa+na
   .exact C.trans _ _ _ px pk py (kl (p-sa) x (by lia) (by rw[show sa+(p-sa)=p by lia];exact ex)) (f3 (sa+na) q _ _ (ai _) (by lia) a3 ek ey)
   .exact f3 p q _ _ (by lia) a2 a3 ex ey
 rw[pD (by simpa using c1')]
 have ea:sa+k+(na-k)-1=sa+na-1:=by lia
 rw[ea];refine kj (pV el ?_);refine kj (vx C (by lia) (by lia) hp pl rfl (Jp C (by lia) hp pl f3) λl l1 l2 l3=>?_)
 dsimp only;have ll:∀j y,j<l->arr[sa+na+j]?=some y->lt y (arr[sa+na-1]'(by lia))=true:=λj y hj ey=>by
  have:=l2 j hj;rw[uR ey,pe rfl]at this;exact this
 have lh:∀j y,l<=j->j<nb->arr[sa+na+j]?=some y->lt y (arr[sa+na-1]'(by lia))=false:=λj y h1 h2 ey=>by
  have:=l3 j h1 h2;rw[uR ey,pe rfl]at this;exact this
 by_cases c2':l=0
 .rw [pe (by simp[c2'])]
  refine km (fin arr g0 (yK.refl _ _ _) λp q x y a1 a2 a3 ex ey=>?_)
  have px:=hp _ (aQq ex);have py:=hp _ (aQq ey)
  by_cases q1:q<sa+na
  .exact d3 p q _ _ a1 a2 q1 ex ey
  .by_cases p1:p<sa+na
   .exact C.trans _ _ _ px pl py (d3 p (sa+na-1) _ _ a1 (by lia) (by lia) ex el) (lh (q-(sa+na)) y (by lia) (by lia) (by rw[show sa+na+(q-(sa+na))=q by lia];exact ey))
   .exact f3 p q _ _ (by lia) a2 a3 ex ey
 rw[pD (by simpa using c2')]
 have sx:xX lt (arr.extract (sa+k) (sa+na)).toList:=BV λp q x y a1 a2 a3 ex ey=>d3 p q x y (by lia) a2 a3 ex ey
 have sy:xX lt (arr.extract (sa+na) (sa+na+l)).toList:=BV λp q x y a1 a2 a3 ex ey=>f3 p q x y a1 a2 (by lia) ex ey
 have hx:∀x,x∈arr.extract (sa+k) (sa+na)->P x:=λx hx=>by
  obtain⟨j,_,_,e⟩:=uy (iO.mpr hx);exact hp _ (aQq e)
 have hy:∀x,x∈arr.extract (sa+na) (sa+na+l)->P x:=λx hx=>by
  obtain⟨j,_,_,e⟩:=uy (iO.mpr hx);exact hp _ (aQq e)
 have zx:(arr.extract (sa+k) (sa+na)).size=na-k:=by rw[ft];lia
 have zy:(arr.extract (sa+na) (sa+na+l)).size=l:=by rw[ft];lia
 have g0':(arr.extract (sa+na) (sa+na+l))[0]?=some (arr[sa+na]'(by lia)):=by
  rw[iw,pe (by lia),gA]
  exact ek
 have gl':(arr.extract (sa+k) (sa+na))[na-k-1]?=some (arr[sa+na-1]'(by lia)):=by
  rw[iw,pe (by lia),show sa+k+(na-k-1)=sa+na-1 by lia]
  exact el
 have low:∀y∈(arr.extract (sa+k) (sa+na)).toList,lt y (arr[sa+na]'(by lia))=false:=λy hy=>by
  obtain⟨j,j1,j2,ej⟩:=uy hy;exact C.asym _ _ pk (hp _ (aQq ej)) (kh (j-sa) y (by lia) (by lia) (by rw[show sa+(j-sa)=j by lia];exact ej))
 have high:∀x∈(arr.extract (sa+na) (sa+na+l)).toList,lt (arr[sa+na-1]'(by lia)) x=false:=λx hx=>by
  obtain⟨j,j1,j2,ej⟩:=uy hx;exact C.asym _ _ (hp _ (aQq ej)) pl (ll (j-(sa+na)) x (by lia) (by rw[show sa+na+(j-(sa+na))=j by lia];exact ej))
 have done:∀M g,PN lt (arr.extract (sa+k) (sa+na)) (arr.extract (sa+na) (sa+na+l)) M ->
   Q true (SortSt.mk' κ' (M.toList.zipIdx.foldl (λa x=>a.setIfInBounds (sa+k+x.snd) x.fst) arr) ((pend.setIfInBounds i (sa,na+nb,pa)).eraseIdxIfInBounds (i+1)) g none):=λM g mg=>by
  have lM:M.toList.length=(na-k)+l:=by
   have:=mg.pm.length_eq;simp only[lAq,au,ft]at this ⊢;lia
  have wb:=Em (sa+k) M.toList 0 arr (by lia)
  obtain⟨b1,s1⟩:=NZ C hp hz k1 l1 d3 f3 ek el kl lh d2 f2 mg wb;exact fin _ g b1 s1
 by_cases c3:na-k<=l
 .rw [pe c3];refine kj (GI (κ:=κ') (a:=arr.extract (sa+k) (sa+na)) (b:=arr.extract (sa+na) (sa+na+l)) C hx hy rfl sx sy (by rw[zx];lia) (by rw[zy];lia) (λx ex y hy=>?_) (λj hj x hx y hy=>?_) λM g mg=>?_)
  .rw [g0']at ex;cases ex;exact low y hy
  .have hj':j=na-k-1:=by lia
   subst hj';have:y=arr[sa+na-1]'(by lia):=by
    obtain⟨t,t1,t2⟩:=yZ hy;rw[zx]at t1;have t0:t=0:=by lia
    subst t0;rw[gA,gl']at t2;exact(aJ.inj t2).symm
   rw[this];exact high x hx
  .refine kj (mv ?_);refine kj (mG ?_);exact km (done M g mg)
 .rw [pD c3];refine kj (G6 (κ:=κ') (a:=arr.extract (sa+k) (sa+na)) (b:=arr.extract (sa+na) (sa+na+l)) C hx hy rfl sx sy (by rw[zx];lia) (by rw[zy];lia) (λx hx y hy=>?_) (λx ex y hy=>?_) λM g mg=>?_)
  .have:x=arr[sa+na]'(by lia):=by
    obtain⟨t,t1,t2⟩:=zb hx;have t0:t=0:=by lia
    subst t0;rw[bF,g0']at t2;exact(aJ.inj t2).symm
   rw[this];exact low y hy
  .rw [zx,gl']at ex;cases ex;exact high y hy
  .refine kj (mv ?_);refine kj (mG ?_);exact km (done M g mg)
end
section
variable {prog:kq}{w:kr}{A:Around}{E:Value->Shared->Prop}{s:Shared}{κ:kQ}{P:kc->Prop}{lt:kc->kc->Bool}
abbrev yf(κ:kQ) (xs:Array kc) (p:Array (Nat×Nat×Nat)) (g:Nat):SortSt:=SortSt.mk' κ xs p g none
theorem Dn{xs:Array kc}{p:Array (Nat×Nat×Nat)}{lo n:Nat}(h:tH lt xs 0 p.toList lo) (hn:0<n) (hs:Aj lt xs lo (lo+n)):tH lt xs 0 (p.push (lo,n,0)).toList (lo+n):=by
 rw[cA];exact vk.mpr ⟨lo,h,rfl,hn,hs,rfl⟩
theorem DB(p:Array (Nat×Nat×Nat)) (i pw:Nat):(p.modify i λx=>(x.fst,x.2.fst,pw)).toList.map (λp=>(p.1,p.2.1))=p.toList.map (λp=>(p.1,p.2.1)):=by
 apply fM;intro k;rw[gMq,gMq,ax,ax,Array.getElem?_modify];split
 .cases p[k]? <;> rfl
 .rfl
theorem EA(C:zw prog w A s κ P lt) {arr:Array kc}{g:Nat}{Q:Unit->SortSt->Prop}(hp:∀x,x∈arr->P x) (h2:2<=arr.size)
    (h:∀xs p g',xs.Perm arr->Aj lt xs 0 arr.size->Q () (yf κ xs p g')):wpS (ki prog w) A E s sortRuns' Q (yf κ arr #[] g):=by
  rw[sortRuns'_eq];refine kj (mG ?_);dsimp only;have e0:kz (yf κ arr #[] g)=arr:=rfl;rw[e0];generalize minRun' arr.size arr.size 0=mr;refine kj (kW (kM
    (I:=λi c st'=>∃lo xs p g',c=(none,lo)/\st'=yf κ xs p g'/\xs.Perm arr/\lo<=arr.size/\tH lt xs 0 p.toList lo/\i<=lo)
    (Q:=λc st'=>∃xs p g',c=(none,arr.size)/\st'=yf κ xs p g'/\xs.Perm arr/\tH lt xs 0 p.toList arr.size)
    ?step ?fin ⟨0,arr,#[],g,rfl,rfl,jz.refl _,bg _,rfl,ai _⟩) ?post)
  case fin =>
    rintro c st' ⟨lo,xs,p,g',rfl,rfl,q1,q2,q3,q4⟩;have e:lo=arr.size:=by lia
    subst e;exact⟨xs,p,g',rfl,rfl,q1,q3⟩
  case step =>
    rintro i c st' _ hi ⟨lo,xs,p,g',rfl,rfl,q1,q2,q3,q4⟩;dsimp only;have hpx:∀x,x∈xs->P x:=λx hx=>hp x (q1.mem_iff.mp hx)
    have hzx:xs.size=arr.size:=q1.size_eq
    by_cases c1:lo ≥ arr.size
    . rw[pe c1]
      have e:lo=arr.size:=by lia
      subst e;exact km ⟨xs,p,g',rfl,rfl,q1,q3⟩
    rw[pD c1];refine kj (FL (st:=yf κ xs p g') C hpx rfl (by lia) (by show lo+(arr.size-lo)<=xs.size;lia) λn ys n1 n2 b1 s1=>?_)
    dsimp only;have hb:yK xs ys lo (lo+n):=b1;show wpS _ _ _ _ _ _ (yf κ ys p g')
    by_cases c2:n<mr
    all_goals
      first
        | (rw[pe c2]
           refine kj (xC ?_);refine kj (HM (st:=yf κ ys p g') (n:=min (arr.size-lo) mr) C (hb.mem hpx) rfl n1 (by lia) (by show lo+min (arr.size-lo) mr<=ys.size;have:=hb.size;lia) s1 λzs b2 s2=>?_)
           rw[pD (by decide)]
           have hb2:yK xs zs lo (lo+min (arr.size-lo) mr):=(hb.mono (by lia)).trans b2
           have nn:1<=min (arr.size-lo) mr:=by lia
           have nl:lo+min (arr.size-lo) mr<=arr.size:=by lia
           show wpS _ _ _ _ _ _ (yf κ zs p g')
           clear b1 s1 hb b2
           generalize min (arr.size-lo) mr=nN at hb2 nn nl s2 ⊢)
        | (rw[pD c2]
           have hb2:=hb;have s2:=s1;have nn:=n1;have nl:lo+n<=arr.size:=by lia
           clear b1 s1 hb
           generalize hnN:n=nN at hb2 nn nl s2 ⊢;generalize hzs:ys=zs at hb2 s2 ⊢)
      have hpz:=hb2.mem hpx;have hzz:=hb2.size;have hcz:tH lt zs 0 p.toList lo:=xf (λk _ k2=>hb2.out k (.inl k2)) q3
      have pz:zs.Perm arr:=hb2.pm.trans q1;refine kj (mG ?_);have ep:lV (yf κ zs p g')=p:=rfl;rw[ep];cases eb:p.back? with
      |none =>
        dsimp only;refine kj (mv (km ?_));exact⟨lo+nN,zs,p.push (lo,nN,0),g',rfl,rfl,pz,nl,Dn hcz nn s2,by lia⟩
      |some t =>
        obtain⟨s1',n1',pw0⟩:=t;dsimp only;refine kj (kW (kM
          (I:=λi c st'=>∃ys q g2,c=(none,())/\st'=yf κ ys q g2/\yK zs ys 0 lo/\tH lt ys 0 q.toList lo)
          (Q:=λc st'=>∃ys q g2,c=(none,())/\st'=yf κ ys q g2/\yK zs ys 0 lo/\tH lt ys 0 q.toList lo)
          ?step1 (λc st' hh=>hh) ⟨zs,p,g',rfl,rfl,yK.refl _ _ _,hcz⟩) ?post1)
        case step1 =>
          rintro j c st' _ hj ⟨ys2,q,g2,rfl,rfl,b3,ch3⟩;refine kj (mG ?_);have eq:lV (yf κ ys2 q g2)=q:=rfl;rw[eq]
          by_cases d1:q.size>1
          . rw[pe d1]
            have eo:q[q.size-2]?=some (q[q.size-2]'(by lia)):=af (by lia)
            rw[eo];generalize q[q.size-2]'(by lia)=o
            obtain⟨o1,o2,older⟩:=o;dsimp only;split
            . exact km ⟨ys2,q,g2,rfl,rfl,b3,ch3⟩
            . refine kj (B7 (st:=yf κ ys2 q g2) C (b3.mem hpz) rfl rfl (by show lo<=ys2.size;have:=b3.size;lia) ch3 (by show q.size-2+1<q.size;lia) λxs3 p3 g3 b4 _ ch4=>?_)
              rw[pD (by decide)]
              exact km ⟨xs3,p3,g3,rfl,rfl,b3.trans b4,ch4⟩
          . rw[pD d1]
            exact km ⟨ys2,q,g2,rfl,rfl,b3,ch3⟩
        case post1 =>
          rintro c st' ⟨ys2,q,g2,rfl,rfl,b3,ch3⟩;dsimp only;refine kj (mv (kj (mv (km ?_))));have s3:Aj lt ys2 lo (lo+nN):=λa b x y a1 a2 a3 ex ey=>s2 a b x y a1 a2 a3 (by rw[←b3.out a (.inr a1)];exact ex) (by rw[←b3.out b (.inr (by lia))];exact ey)
          exact⟨lo+nN,ys2,_,g2,rfl,rfl,b3.pm.trans pz,nl,Dn (AL (DB q _ _) ch3) nn s3,by lia⟩
  case post =>
    rintro c st' ⟨xs,p,g',rfl,rfl,q1,q3⟩;dsimp only;refine kj (kW (kM
      (I:=λi c st'=>∃ys q g2,c=(none,())/\st'=yf κ ys q g2/\ys.Perm arr/\tH lt ys 0 q.toList arr.size/\q.size+i<=arr.size)
      (Q:=λc st'=>∃ys q g2,c=(none,())/\st'=yf κ ys q g2/\ys.Perm arr/\tH lt ys 0 q.toList arr.size/\q.size<=1)
      ?step2 ?fin2 ⟨xs,p,g',rfl,rfl,q1,q3,by have:=yP q3;rw[au]at this;lia⟩) ?post2)
    case fin2 =>
      rintro c st' ⟨ys,q,g2,rfl,rfl,r1,r2,r3⟩;exact⟨ys,q,g2,rfl,rfl,r1,r2,by lia⟩
    case step2 =>
      rintro j c st' _ hj ⟨ys,q,g2,rfl,rfl,r1,r2,r3⟩;refine kj (mG ?_);have eq:lV (yf κ ys q g2)=q:=rfl;rw[eq]
      by_cases d1:q.size<=1
      . rw[pe d1]
        exact km ⟨ys,q,g2,rfl,rfl,r1,r2,d1⟩
      rw[pD d1];have hi':∀(b:Prop) [Decidable b],(if b then q.size-2-1 else q.size-2)+1<q.size:=λb _=>by split <;> lia
      refine kj (B7 (st:=yf κ ys q g2) C (λx hx=>hp x (r1.mem_iff.mp hx)) rfl rfl (by show arr.size<=ys.size;have:=r1.size_eq;lia) r2 (hi' _) λxs3 p3 g3 b4 ns ch4=>?_)
      rw[pD (by decide)]
      have ns':p3.size+1=q.size:=ns;exact km ⟨xs3,p3,g3,rfl,rfl,b4.pm.trans r1,ch4,by lia⟩
    case post2 =>
      rintro c st' ⟨ys,q,g2,rfl,rfl,r1,r2,r3⟩;refine km (h ys q g2 r1 ?_);rw[←au]at r3;cases eq:q.toList with
      |nil =>
        rw[eq]at r2;have r2':0=arr.size:=r2;lia
      |cons a r =>
        rw[eq]at r2 r3;have er:r=[]:=by
          rw[lCq]at r3;exact aS.mp (by lia)
        subst er;obtain⟨_,_,s3,e3⟩:=r2;have e3':0+a.2.1=arr.size:=e3;rw[e3']at s3;exact s3
end
end MrS
namespace Xe
open PySem
abbrev WU:List Value:=[.type "ValueError", .type "Exception", .type "BaseException", .type "object"]
end Xe
namespace Mr
abbrev St:=L2.St
open PySem PySem.Spec PyProof.Rows L2
section
variable {X:Cx}{oq:List (Addr×Obj)}{σ:List (Option V)}{H H':Hp}{s:Shared}{h':Heap}
theorem Nv{t':Nat}{fp:List Addr}{T:Addr}{o:HO}(I:Inv X oq σ H s) (k:∀b u,b∉fp->s.heap.get? b=some u->h'.get? b=some u)
  (hf:∀b∈fp,CJ X oq H b) (hT:s.heap.objs.size<=T) (new:qW X.prog X.w (qH H T o) h' T o):Inv X oq σ (qH H T o) { s with heap:=h',toks:=t' }:=by
 have hn:H T=none:=I.hok.fresh hT;have nf:∀b u,H b=some u->b∉fp:=λb u e z=>by rw[(hf b z).1]at e;cases e
 refine I.step (g':=s.gens) (d':=s.drawn) (ch:=fp) (λb hb=>?_) (λb u _ _ hc e _=>k b u hc e) (λb u _ _ hc e _=>⟨u.slots,k b u hc e⟩)
  (λb u _ e n=>by rw[oQ (ay (aN (ak e) hT))];exact n) (λb u hc e=>⟨u,k b u hc e⟩)
  (λb xs e=>by rw[oQ (rq e hn)];exact e) (λb u xs e=>by rw[oQ (rq e hn)];exact e) (λb ps e=>⟨#[],by rw[oQ (rq e hn),e];simp⟩) (λm hm=>?_) (λb u e=>?_) I.bare
 .obtain ⟨_,f1,_,f3,f4,f5⟩:=hf b hb;exact⟨f3,f1,f4,f5⟩
 .obtain ⟨u,es,ep,ho,r⟩:=hm;exact⟨u,es,ep,k _ u (λz=>(hf _ z).2.1 rfl) ho,r⟩
 .by_cases hb:b=T
  .subst hb;rw[oW]at e;cases e;exact new
  .rw [oQ hb]at e;refine(I.hok b u e).stay (λc v hc q=>k c v ?_ q) (λc q=>by rw[oQ (rq q hn)];exact q) λc xs q=>by rw[oQ (rq q hn)];exact q
   rcases hc with rfl|hc
   .exact nf _ u e
   .exact nf c _ hc
theorem Rv{t':Nat}{fp:List Addr}(I:Inv X oq σ H s) (k:∀b u,b∉fp->s.heap.get? b=some u->h'.get? b=some u)
  (hf:∀b∈fp,CJ X oq H b):Inv X oq σ H { s with heap:=h',toks:=t' }:=by
 have nf:∀b u,H b=some u->b∉fp:=λb u e z=>by rw[(hf b z).1]at e;cases e
 refine I.step (g':=s.gens) (d':=s.drawn) (ch:=fp) (λb hb=>?_) (λb u _ _ hc e _=>k b u hc e) (λb u _ _ hc e _=>⟨u.slots,k b u hc e⟩)
  (λ_ _ _ _ n=>n) (λb u hc e=>⟨u,k b u hc e⟩) (λ_ _ e=>e) (λ_ _ _ e=>e) (λb ps e=>⟨#[],by rw[e];simp⟩) (λm hm=>?_) (λb u e=>?_) I.bare
 .obtain ⟨_,f1,_,f3,f4,f5⟩:=hf b hb;exact⟨f3,f1,f4,f5⟩
 .obtain ⟨u,es,ep,ho,r⟩:=hm;exact⟨u,es,ep,k _ u (λz=>(hf _ z).2.1 rfl) ho,r⟩
 .refine (I.hok b u e).stay (λc v hc q=>k c v ?_ q) (λ_ q=>q) λ_ _ q=>q
  rcases hc with rfl|hc
  .exact nf _ u e
  .exact nf c _ hc
end
def Wj(K:W.Frag) (a:Addr):It :=
  ⟨λi H=>∃xs x,tu K H a xs/\xs[i]?=some x,
   λi H v H'=>∃T x,H T=none/\v = .ref T/\H'=qH H T (.tup [.int i,x])/\∀xs,tu K H a xs->xs[i]?=some x,
   λi H=>∃xs,tu K H a xs/\xs.length<=i⟩
theorem LP{P:kq}{w:kr}{K:W.Frag}{elts:List Expr}{k:Nat}{pos:Pos}(a e it:Addr) (hne:e≠it) :
  HP P w K (.Tuple elts k pos) (Wj K a) [e,it] e (λi h=>(∃old,IsEnum h e it i old)/\h.IsListIter it a i) where
 mem:=by simp
 obj:=λi h st b hb=>by
  obtain⟨⟨old,he⟩,o,ho,_,d⟩:=st;rcases ag.mp hb with rfl|hb
  .exact ⟨_,he,λv z=>by
    have z':Data.fields _=Data.cell v:=z;cases z'⟩
  .have e:b=it:=by simpa using hb
   subst e;exact⟨o,ho,λv z=>by rw[d]at z;cases z⟩
 keep:=λi h h' st kp=>by
  obtain⟨⟨old,he⟩,hit⟩:=st;exact⟨⟨old,kp e (by simp) _ he⟩,hit.at λo q=>kp it (by simp) o q⟩
 item:=by
  intro X hP hw hK hc i oq s σ H E I hf st hg;subst hP hw hK;obtain⟨xs,x,hq,hx⟩:=hg;obtain⟨its,rv,p,hz⟩:=I.list hq;obtain⟨u,hu,ru⟩:=rv.get hx;obtain⟨⟨old,he⟩,hit⟩:=st;have hil:it<s.heap.objs.size:=by obtain⟨_,q,_⟩:=hit;exact ak q
  have hel:e<s.heap.objs.size:=ak he;refine wpAny_pyNext_enum_item he hit p.isList (x:=u) (by simpa using hu) hne λh1 he1 hit1 ht1 hz1 hk1=>⟨_,rfl,?_⟩
  refine wpAny_letOwnedTupleGo_enum he1 λh2 he2 hs2=>?_
  replace hs2:bL e h1 h2:=hs2;have hn:H s.heap.objs.size=none:=I.hok.fresh (ai _);refine⟨.ref s.heap.objs.size,qH H s.heap.objs.size (.tup [.int i,x]),?_,rfl,⟨_,x,hn,rfl,rfl,λys hy=>by rw[I.list_inj hy hq];exact hx⟩,⟨⟨_,by simpa using he2⟩,hit1.extBut hs2.extBut (Ne.symm hne)⟩,λb hb=>?_⟩
  .show L2.Inv X oq σ _ { s with heap:=h2,toks:=s.toks+1 }
   refine Nv (s:=s) (fp:=[e,it]) I (λb o hb q=>?_) hf (ai _) ⟨by simp only[lCq,dh];rw[kN];decide,[.int i s.toks,u],.cons ⟨_,rfl⟩ (.cons ru .nil),_,hs2.extBut _ _ (bM hel) ht1,rfl,_,rfl⟩
   have b1:b≠e:=λz=>hb (by simp[z])
   exact hs2.extBut b o b1 (hk1 b o b1 (λz=>hb (by simp[z])) q)
  .have hb2:b<s.heap.objs.size:=by
    rcases ag.mp hb with rfl|hb
    .exact hel
    .have e:b=it:=by simpa using hb
     subst e;exact hil
   rw[oQ (ay hb2)];exact(hf b hb).1
 done:=by
  intro X hP hw hK hc i oq s σ H E I hf st hg;subst hP hw hK;obtain⟨xs,hq,hx⟩:=hg;obtain⟨its,rv,p,hz⟩:=I.list hq;obtain⟨⟨old,he⟩,hit⟩:=st;have hl:=rv.length;exact wpAny_pyNext_enum_end (I.ok.hd hc) he hit p.isList (by simp;lia) λh1 eb=>⟨rfl,Rv (t':=s.toks) (fp:=[e,it]) I (λb o hb q=>eb b o (λz=>hb (by simp[z])) q) hf⟩
 self:=λ_ _ _ _ _ st h=>by
  obtain⟨⟨old,he⟩,_⟩:=st;exact wpAny_pyIter_enum he h
structure Z5 (z TI TO i1 i2:Addr):Prop where
 a:TI≠z
 b:TO≠z
 c:i1≠z
 d:i2≠z
 e:TI≠TO
 f:TI≠i1
 g:TI≠i2
 h:TO≠i1
 i:TO≠i2
 j:i1≠i2
theorem Wp(n:Nat):Z5 (n+4) (n+2) (n+3) n (n+1) where
 a:=λ(q:n+2=n+4)=>by lia
 b:=λ(q:n+3=n+4)=>by lia
 c:=λ(q:n=n+4)=>by lia
 d:=λ(q:n+1=n+4)=>by lia
 e:=λ(q:n+2=n+3)=>by lia
 f:=λ(q:n+2=n)=>by lia
 g:=λ(q:n+2=n+1)=>by lia
 h:=λ(q:n+3=n)=>by lia
 i:=λ(q:n+3=n+1)=>by lia
 j:=λ(q:n=n+1)=>by lia
section
variable {X:Cx}{elts:List Expr}{kk:Nat}{tpos:Pos}
def RK(K:W.Frag) (ta:TA):TI:=λσ H R=>ta σ H λvs H1=>∃a,vs=[.ref a]/\(∃xs,tu K H1 a xs)/\R (Wj K a) H1
theorem Ff{e:Expr}{ta:TA}{p pos:Pos}(hg:Gl X "enumerate") (hm:X.mg "enumerate" = none) (ha:PA X [e] ta) (hs:kx [e] X.env=[(false,eval e X.env)]:=by rfl) :
  PI X (.Tuple elts kk tpos) (.Call (.Name "enumerate" p) [e] [] pos) (RK X.K ta):=by
 intro oq s σ H R I h;refine Call_ (xk I hg hm boot_enumerate (bN (thn (ha pos oq s σ H _ I h) λus s1 hz1=>?_) hs rfl))
 obtain⟨vs,H1,I1,r1,q1⟩:=hz1;obtain⟨a,e1,⟨xs,hq⟩,q⟩:=q1;subst e1;obtain⟨u,rfl,ru⟩:=zh r1;cases ru;obtain⟨its,rv,p1,hz⟩:=I1.list hq;refine call_enumerate_list p1.isList λg he hit hsz hk=>wpAny_pyIter_enum he ?_
 refine⟨s1.heap.objs.size+1,[s1.heap.objs.size+1,s1.heap.objs.size],_,_,H1,rfl,I1.kept (t':=s1.toks) hk,LP a _ _ (Nat.succ_ne_self _),⟨⟨_,he⟩,hit⟩,λb hb=>?_,q⟩
 have hb2:s1.heap.objs.size<=b:=by
  simp only[ag,dX,or_false]at hb;rcases hb with rfl|rfl
  .exact cu _
  .exact ai _
 exact I1.fpOk hb2 (I1.hok.fresh hb2)
end
theorem Nz{K:W.Frag}{a:Addr}{xs:List V}{i1 i2:Nat}{tb:TS}{D:Bw}{σ:St}{H:Hp}(Pv:Nat->St->Hp->Prop) (h0:Pv 0 σ H) (hl:∀i σ H,i<=xs.length->Pv i σ H->tu K H a xs)
  (hs:∀i x σ H T,xs[i]?=some x->Pv i σ H->H T=none->tb { D with nx:=Pv (i+1),ct:=Pv (i+1),bk:=D.nx } ((σ.set i1 (some (.int i))).set i2 (some x)) (qH H T (.tup [.int i,x]))) (hd:∀σ H,Pv xs.length σ H->D.nx σ H) :
  ∃W:Nat->Nat->St->Hp->Prop,(∃m,W 0 m σ H)/\∀i m σ H,W i m σ H ->
   ((Wj K a).stop i H/\D.nx σ H)∨((Wj K a).go i H/\∃N:St->Hp->Prop,(∀σ' H',N σ' H'->∃m',m'<m/\W (i+1) m' σ' H')/\∀x H',(Wj K a).yld i H x H'->Me K 2 (Bf (tX i1) (Bf (tX i2) L9)) x σ H' λσ2 H2=>tb { D with nx:=N,ct:=N,bk:=D.nx } σ2 H2):=by
 refine⟨λi m σ H=>m=xs.length-i/\i<=xs.length/\Pv i σ H,⟨xs.length,by simp,bg _,h0⟩,?_⟩
 rintro i m σ H ⟨rfl,hi,p⟩;have q:=hl i σ H hi p
 by_cases hlt:i<xs.length
 .refine .inr ⟨⟨xs,xs[i],q,by simp[hlt]⟩,Pv (i+1),λσ' H' p'=>⟨xs.length-(i+1),by lia,rfl,hlt,p'⟩,λv H' y=>?_⟩
  obtain⟨T,x,hT,rfl,rfl,hx⟩:=y;exact⟨T,_,rfl,DP.of oW,rfl,_,_,rfl,_,_,rfl,rfl,hs i x σ H T (hx xs q) p hT⟩
 .have e:i=xs.length:=by lia
  subst e;exact .inl ⟨⟨xs,q,ai _⟩,hd σ H p⟩
section
variable {X:Cx}
theorem C4{oq:List (Addr×Obj)}{σ:St}{H:Hp}{s:Shared}{a:Addr}{ns:List Int}(I:Inv X oq σ H s) (h:tu X.K H a (ns.map V.int)) :
  ∃vs:List Value,s.heap.IsList a vs.toArray/\kH vs ns/\ns.length<=ko:=by
 obtain⟨its,r,p,z⟩:=I.list h;rw[lMq]at z;exact⟨its,p.isList,As r,z⟩
theorem Ea(hc:X.calm=true):zV X (.builtin "min") (λxs H Q=>∃(a:Addr) (ns:List Int),xs=[.ref a]/\tu X.K H a (ns.map V.int)/\0<ns.length/\∀M,M∈ns->(∀x,x∈ns->M<=x)->Q (.int M) H):=by
 intro oq s σ H xs us Q I r h;obtain⟨a,ns,rfl,hS,hne,q⟩:=h;obtain⟨u,rfl,ru⟩:=zh r;cases ru;obtain⟨vs,hl,hi,_⟩:=C4 I hS;obtain⟨xs,e⟩:=hi.allInts.items;have hns:ns=xs.toList.map (·.1):=by
  rw[←hi.numsOf,←nums_intItems,←e]
 have hsz:0<xs.size:=by
  have h3:=hne;rw[hns,lMq,au]at h3;exact h3
 rw[e]at hl;refine min_intList (I.ok.hd hc) hl hsz λv h' tk hv hk=>?_
 obtain⟨t,rfl⟩:=intItems_at hv;obtain⟨h1,h2⟩:=argBest_lt (numAt xs) (xs.size-1);refine⟨.int _,H,I.kept hk,⟨t,rfl⟩,q _ ?_ λx hx=>?_⟩
 .rw [hns,numAt_eq];exact PySem.getD_mem (by rw[lMq,au];lia)
 .rw [hns]at hx;obtain⟨j,hj,rfl⟩:=PySem.mem_getD hx;rw[lMq,au]at hj;rw[←numAt_eq];exact h2 j (by lia)
def Mw(K:W.Frag):V->List V->Hp->VK->Prop:=λx vs H Q=>∃(a:Addr) (ns:List Int) (k:Int),x = .ref a/\vs=[.int k]/\tu K H a (ns.map V.int)/\k∈ns/\Q (.int (ns.idxOf k:Nat)) H
theorem FR:WX X "list.index" (Mw X.K):=by
 intro oq s σ H x xs v us Q I rx r h;obtain⟨a,ns,k,rfl,rfl,hS,hk,q⟩:=h;cases rx;obtain⟨u,rfl,t,rfl⟩:=zh r;obtain⟨its,rv,⟨o,n,ho,hc,hd0,hd⟩,hz⟩:=I.list hS;have hi:=As rv;obtain⟨cls,dd,data,sl⟩:=o;simp only at hc hd0 hd;subst hc hd0 hd;have hlen:=hi.length;have hj:ns.idxOf k<ns.length:=gY.mpr hk;have hs:ko=16777216:=kN;rw[lMq]at hz;refine lS fE ⟨_,ho,rfl⟩ PySem.F.entry_list_index (PySem.F.args_list_index_2 _ _)
  (SeqAt.list_indexAt a its.toArray n none sl (.int k t) (isInt k) (ns.idxOf k) (by simpa [hlen] using hj) (by lia) ?_ ?_) ⟨ho,λy hy=>(eq_isInt k t hi y (by simpa using hy)).at _ _,?_⟩
 .show isInt k its[ns.idxOf k]=true;rw[isInt_at k hi _ (by lia) hj]
  simpa using ja hj
 .intro j hjs hlt;show isInt k its[j]=false;rw[isInt_at k hi j (by simpa using hjs) (by lia)]
  exact ne_of_lt_idxOf hlt _
 .exact ⟨.int _,H,I.tok _,⟨_,rfl⟩,q⟩
def U3(K:W.Frag) (x:V) (H:Hp) (T:String) (b:Bool):Prop :=
 match x with
 | .int _=>(T = "int" /\ b=true)∨(T = "bool" /\ b=false)
 | .bl _=>(T = "bool" /\ b=true)∨(T = "int" /\ b=true)
 | .str _=>T = "str" /\ b=true
 | .ref p=>(T = "list" /\ b=true/\∃xs,tu K H p xs)∨(T = "dict" /\ b=true/\∃kvs,H p=some (.dK kvs))∨(T = "tuple" /\ b=true/\∃xs,DP K H p xs)
 |_=>False
theorem Ny:zV X (.builtin "isinstance") (λxs H Q=>∃x T b,xs=[x,.ty T]/\U3 X.K x H T b/\Q (.bl b) H):=by
 intro oq s σ H xs us Q I r h;obtain⟨x,T,b,rfl,e,q⟩:=h;obtain⟨u,v,rfl,rx,rT⟩:=Sb r;cases rT;cases x with
 |int i =>
  obtain⟨t,rfl⟩:=rx;rcases e with ⟨rfl,rfl⟩|⟨rfl,rfl⟩
  .exact kU (lj (Tx := "int") F.isi_meta_int F.sub_int_int) ⟨(show s.TypeIs (.int i t) "int" from rfl),⟨.bl true,H,I,rfl,q⟩⟩
  .exact kU (isinstance_false_int (by decide +kernel) F.isi_meta_bool F.sub_int_bool) (show EP X oq σ Q (.bool false) { s with toks:=s.toks+1 } from ⟨.bl false,H,I.tok _,rfl,q⟩)
 |bl i =>
  cases rx;rcases e with ⟨rfl,rfl⟩|⟨rfl,rfl⟩
  .exact kU (lj (Tx := "bool") F.isi_meta_bool F.sub_bool_bool) ⟨(show s.TypeIs (.bool i) "bool" from rfl),⟨.bl true,H,I,rfl,q⟩⟩
  .exact kU (lj (Tx := "bool") F.isi_meta_int F.sub_bool_int) ⟨(show s.TypeIs (.bool i) "bool" from rfl),⟨.bl true,H,I,rfl,q⟩⟩
 |str i =>
  obtain⟨t,rfl⟩:=rx;obtain⟨rfl,rfl⟩:=e;exact kU (lj (Tx := "str") F.isi_meta_str F.sub_str_str) ⟨(show s.TypeIs (.str i t) "str" from rfl),⟨.bl true,H,I,rfl,q⟩⟩
 |ref p =>
  cases rx;rcases e with ⟨rfl,rfl,xs,hS⟩|⟨rfl,rfl,kvs,hp⟩|⟨rfl,rfl,xs,hS⟩
  .obtain ⟨its,rv,pl,hz⟩:=I.list hS;exact kU (lj (Tx := "list") F.isi_meta_list (by rw[mn];kernel_rfl)) ⟨pl.isList.typeIs,⟨.bl true,H,I,rfl,q⟩⟩
  .have ty:s.TypeIs (.ref p) "dict" := (Pg I (.inl ⟨kvs,.inl hp⟩)).1;exact kU (lj (Tx := "dict") F.isi_meta_dict (by rw[mn];kernel_rfl)) ⟨ty,⟨.bl true,H,I,rfl,q⟩⟩
  .obtain ⟨its,rv,⟨o,ho,hc,_⟩,hz⟩:=I.tuple hS;exact kU (lj (Tx := "tuple") F.isi_meta_tuple (by rw[mn];kernel_rfl)) ⟨⟨o,ho,hc⟩,⟨.bl true,H,I,rfl,q⟩⟩
 |_=>exact(show False from e).elim
end
end Mr
namespace Mr
open PySem L2
structure Av (K:W.Frag) (mg:Str->Option Value) (x:Str) (st:Stmt) (ps:List Str) (f:Addr) (fd:kG):Prop where
 F:Sg K x x st f fd
 m:mg x=some (.ref f)
 b:Ab K fd ps []
theorem uW{H:Hp}{p:Addr}{o:HO}(h:H p=none):qk H (qH H p o):=λb u e=>by
 rw[oQ (rq e h)];exact e
end Mr
namespace Mr
open PySem PySem.Spec PyProof.Rows L2
theorem GH{prog:kq}{w:kr}{A:Around}{R:Y9->Shared->Prop}{s:Shared}{elt target iter:Expr}{ifs:List Expr}{scope:mD}{pos:Pos}{it acc:Value}{env:Env}(I:Nat->Shared->Prop)
  (turn:∀n s,I n s->kf (ki prog w) A (kT it) (λr s₁=>match r with
   |none=>R (.ok .next) s₁
   |some v=>kf (ki prog w) A (mZ target it v) (λ_ s₂=>kf (ki prog w) A (nV target env v) (λ_ s₃ =>
     kf (ki prog w) A (forIn ifs true λc r=>if r=true then do let ok ←isTrue c env (eval c env);pure (ForInStep.yield ok) else pure (ForInStep.yield r)) (λok s₄ =>
      if ok=true then kf (ki prog w) A (eval elt env) (λx s₅ =>
       kf (ki prog w) A (call (.builtin "list.append") [acc,x]) (λ_ s₆=>∃m,m<n/\I m s₆) (λ_ _=>False) s₅) (λ_ _=>False) s₄
      else ∃m,m<n/\I m s₄) (λ_ _=>False) s₃) (λ_ _=>False) s₂) (λ_ _=>False) s₁) (λ_ _=>False) s)
  (n:Nat) (h:I n s):lO (ki prog w) A (.compLoop (.ListComp elt [⟨target,iter,ifs,0⟩] scope pos) 0 it acc env) R s:=by
 refine codeAny_loop rfl I (λn s hI=>?_) n h
 show kf _ A ((compTurn (.ListComp elt [⟨target,iter,ifs,0⟩] scope pos) 0 it acc env).onRaise (λx=>do noteFrame x env;theTreesLotGoes x)) _ _ s
 refine wpAny_noted ?_;rw[compTurn_list];refine jY (Zf (jY (kJ (turn n s hI) (λr s₁ h₁=>?_) λ_ _ z=>z.elim)))
 cases r with
 |none=>exact jZ h₁
 |some v =>
  refine jY (kJ h₁ (λ_ s₂ h₂=>?_) λ_ _ z=>z.elim)
  refine jY (kJ h₂ (λ_ s₃ h₃=>?_) λ_ _ z=>z.elim)
  refine jY (kJ h₃ (λok s₄ h₄=>?_) λ_ _ z=>z.elim)
  cases ok with
  |false=>exact jZ ⟨rfl,h₄⟩
  |true=>exact jY (jY (kJ h₄ (λx s₅ h₅=>jY (kJ h₅ (λ_ s₆ h₆=>jZ (jZ ⟨rfl,h₆⟩)) λ_ _ z=>z.elim)) λ_ _ z=>z.elim))
abbrev tS(X:Cx) (scope:mD) (cl:List (Str×Addr)) (N:List Str) (C:Addr) (s:Shared) (H:Hp) (fp:List Addr):Cx where
 prog:=X.prog
 w:=X.w
 K:=X.K
 mg:=X.mg
 base:=X.base
 A:=X.A
 N:=N
 s₀:=s
 H₀:=H
 env:=compEnvC scope cl C X.env
 outer:=X.stack
 stack:=X.stack
 ex:=fp
 fn:=λ_=>false
 calm:=X.calm
 pn:=[]
 xe:=λ_ _=>False
def PF(X:Cx) (ifs:List Expr) (t:TT):Prop :=
 ∀(oq:List (Addr×Obj)) (s:Shared) (σ:St) (H:Hp) (Q:Bool->Hp->Prop),Inv X oq σ H s->t σ H Q ->
  kf (ki X.prog X.w) X.A (forIn ifs true λc r=>if r=true then do let ok ←isTrue c X.env (eval c X.env);pure (ForInStep.yield ok) else pure (ForInStep.yield r)) (TP X oq σ Q) X.xe s
def VH:TT:=λ_ H Q=>Q true H
theorem vv{X:Cx}:PF X [] VH:=λ_ _ _ H _ I h=>wpAny_tests_nil ⟨H,I,h⟩
theorem EC{X:Cx}{c:Expr}{t:TT}(h:PT X c t):PF X [c] t:=λoq s σ H Q I q=>wpAny_tests_one (h oq s σ H Q I q)
structure tq (X:Cx) (scope:mD) (cl:List (Str×Addr)) (x:Str) (N:List Str) (fr:List Nat):Prop where
 names:N.Nodup
 own:N[0]?=some x
 len:N.length=fr.length+1
 sub:∀y c,cl.lookup y=some c->X.env.cells.lookup y=some c
 has:∀y,((nG scope X.env).names.lookup y=some .cell∨(nG scope X.env).names.lookup y=some .free)->∃c,cl.lookup y=some c
 get:∀(k j:Nat) (y:Str),fr[k]?=some j->N[k+1]?=some y->X.N[j]?=some y/\X.env.scope.names.lookup y=some .cell/\(nG scope X.env).names.lookup y=some .cell
theorem tq.none{X:Cx}{scope:mD}{x:Str}(h:∀p∈scope.names,p.2 ≠ .cell/\p.2 ≠ .free):tq X scope [] x [x] [] where
 names:=by simp
 own:=rfl
 len:=rfl
 sub:=λy c e=>by cases e
 has:=λy e=>by
  exfalso;have key:∀p∈(nG scope X.env).names,p.2 ≠ .cell/\p.2 ≠ .free:=by
   intro p hp;obtain⟨q,hq,rfl⟩:=mMq.mp hp;obtain⟨n,k⟩:=q;obtain⟨h1,h2⟩:=h _ hq;have hk:(k == NameKind.free)=false:=by simpa using h2
   simp only[hk,jC];exact⟨h1,h2⟩
  rcases e with e|e
  .exact (key _ (PySem.mem_of_lookup e)).1 rfl
  .exact (key _ (PySem.mem_of_lookup e)).2 rfl
 get:=λk j y e _=>by cases e
def slots(σ:St) (fr:List Nat):St:=fr.map λj=>(σ[j]?).join
def DL(wi:TI) (fr:List Nat) (tf:TT) (te:TE):TE:=λσ H Q=>wi σ H λJ H1=>∀acc,H1 acc=none->∃W:Nat->Nat->Hp->Prop,(∃m,W 0 m (qH H1 acc (.lst [])))/\∀i m H,W i m H ->
 (J.stop i H/\Q (.ref acc) H) ∨
 (J.go i H/\∃N:Hp->Prop,(∀H',N H'->∃m',m'<m/\W (i+1) m' H')/\∀x H',J.yld i H x H'->tf (some x::slots σ fr) H' λb H2 =>
  if b=true then te (some x::slots σ fr) H2 λy H3=>∃ys,H3 acc=some (.lst ys)/\ys.length<ko/\N (qH H3 acc (.lst (ys++[y]))) else N H2)
section
variable {X:Cx}{scope:mD}{cl:List (Str×Addr)}{N:List Str}{fr:List Nat}{x:Str}{px pos:Pos}{elt iter:Expr}{ifs:List Expr}{tf:TT}{te:TE}
theorem Dh{oq:List (Addr×Obj)}{σ:St}{H:Hp}{s:Shared}{E:Value->Shared->Prop}{J:It}{fp:List Addr}{it:Addr}{tn:Nat->Heap->Prop}{RR:Value->Addr->Y9->Shared->Prop}{Q:VK}
  (hc:X.calm=true) (hcell:∀y∈scope.names,y.2 ≠ .cell) (hkind:scope.kind = .function) (hx:scope.names.lookup x=some .local) (hF:tq X scope cl x N fr)
  (hf:∀C s H fp,PF (tS X scope cl N C s H fp) ifs tf) (he:∀C s H fp,PE (tS X scope cl N C s H fp) elt te)
  (I:Inv X oq σ H s) (T:HP X.prog X.w X.K (.Name x px) J fp it tn) (st:tn 0 s.heap) (fpo:∀b∈fp,CJ X oq H b)
  (h:∀acc,H acc=none->∃W:Nat->Nat->Hp->Prop,(∃m,W 0 m (qH H acc (.lst [])))/\∀i m H,W i m H ->
   (J.stop i H/\Q (.ref acc) H) ∨
   (J.go i H/\∃N:Hp->Prop,(∀H',N H'->∃m',m'<m/\W (i+1) m' H')/\∀x H',J.yld i H x H'->tf (some x::slots σ fr) H' λb H2 =>
    if b=true then te (some x::slots σ fr) H2 λy H3=>∃ys,H3 acc=some (.lst ys)/\ys.length<ko/\N (qH H3 acc (.lst (ys++[y]))) else N H2))
  (fin:∀acc C s' Hf m,Inv X oq σ Hf s'->s'.heap.Ns C m->CJ X oq Hf C->Q (.ref acc) Hf->RR (.ref acc) C (.ok .next) s') :
  kf (ki X.prog X.w) X.A (newList []) (λacc s₃=>kf (ki X.prog X.w) X.A (newFunctionEnv scope X.env.globals cl [] X.env.qual none .none (some X.env)) (λcenv s₄ =>
   lO (ki X.prog X.w) X.A (.compStart (.ListComp elt [⟨.Name x px,iter,ifs,0⟩] scope pos) 0 (.ref it) acc { cenv with scope:=nG scope X.env }) (RR acc cenv.locals) s₄) E s₃) E s:=by
 refine ly (wpAny_newFunctionEnv hcell (by intro y hy;simp at hy) (λh₁ hns₁ hsb₁=>?_) hkind)
 dsimp only at hns₁ hsb₁ ⊢;generalize hG:s.heap.push { cls:=.type "list", dict:=none,data:=.seq ([]:List Value).toArray }=G at hns₁ hsb₁ ⊢;have hC:G.objs.size=s.heap.objs.size+1:=by rw[←hG,fJ]
 have hCle:s.heap.objs.size<=G.objs.size:=by rw[hC];exact cu _
 have hDC:s.heap.objs.size≠G.objs.size:=by rw[hC];exact ay (dw _)
 have below:∀b,b<s.heap.objs.size->b≠G.objs.size:=λb hb=>by rw[hC];exact ay (bR hb)
 have old:∀b o,s.heap.get? b=some o->h₁.get? b=some o:=λb o e=>hsb₁.extBut b o (below b (ak e)) (ae _ (hG ▸ ae _ e))
 have hacc:h₁.get? s.heap.objs.size=some { cls:=.type "list", data:=.seq ([]:List Value).toArray }:=hsb₁.extBut _ _ hDC (ae _ (hG ▸ aC _ rfl));have hn:H s.heap.objs.size=none:=I.hok.fresh (ai _);have hnC:H G.objs.size=none:=I.hok.fresh hCle;have fpl:∀b∈fp,b<s.heap.objs.size:=λb hb=>by
  obtain⟨o,q,_⟩:=T.obj 0 _ st b hb;exact ak q
 obtain⟨W,⟨m0,w0⟩,turn⟩:=h _ hn;have ok':(tS X scope cl N G.objs.size s H fp).Ok:=by
  refine⟨I.ok.mod,by show (nG scope X.env).kind = .function;exact hkind,I.ok.glob,I.ok.blt,hCle,λy z c h1 h2=>I.ok.inj y z c (hF.sub y c h1) (hF.sub z c h2),hF.has,λ_ _ z _=>(by cases z),I.ok.hd,I.ok.frames,.inl rfl,
   λb hb=>⟨below b (fpl b hb),λy c e=>(fpo b hb).2.2.2.2.1 y c (hF.sub y c e)⟩,λb o e=>⟨(I.bs b o e).1,(I.bs b o e).2⟩,bQ I.ok.bsz I.sz,λb o e hb=>?_,λb hb z=>?_,I.stack,I.stkFree⟩
  .rcases (fpo b hb).2.2.2.1 with q|q
   .exact I.ok.noex b o e q
   .exact absurd (aN (ak (I.ok.bs b o e).1) q) (eE _)
  .rcases ag.mp (I.stkSub b z) with q|q
   .exact (fpo b hb).2.1 q
   .exact (fpo b hb).2.2.1 q
 have I0:Inv (tS X scope cl N G.objs.size s H fp) [] (none::slots σ fr) (qH H s.heap.objs.size (.lst [])) { s with heap:=h₁,toks:=s.toks+([]:List (Str×Value)).length }:=by
  have hok1:Aw X.prog X.w (qH H s.heap.objs.size (.lst [])) h₁:=I.hok.laid old (ai _) ⟨bg _,[],0,.nil,hacc⟩;refine⟨ok',rfl,I.bare,Un.laid old (ai _) hn,⟨_,hns₁,λk y v e1 e2 e3=>?_⟩,λy c e=>?_,?_,λy c e=>?_,λp hp=>absurd (show p∈([]:List (Addr×Obj)) from hp) (by simp),hok1,?_⟩
  .cases k with
   |zero=>cases e2
   |succ k =>
    have e2':(slots σ fr)[k]?=some (some v):=e2;unfold slots at e2';rw[gMq]at e2';cases ej:fr[k]? with
    |none=>rw[ej]at e2';cases e2'
    |some j =>
     rw[ej]at e2';have e2j:(σ[j]?).join=some v:=aJ.inj e2';have e2s:σ[j]?=some (some v):=by
      cases q:σ[j]? with
      |none=>rw[q]at e2j;cases e2j
      |some z=>rw[q]at e2j;exact congrArg some e2j
     obtain⟨g1,g2,g3⟩:=hF.get k j y ej e1;obtain⟨m,_,hl⟩:=I.loc;obtain⟨u,r,l⟩:=hl j y v g1 e2s (.inr (.inl g2));refine⟨u,r,.inr ⟨.inl g3,?_⟩⟩;obtain⟨c,e⟩:=hF.has y (.inl g3);have e':=hF.sub y c e;rcases l with ⟨l1,_⟩|⟨_,c',ec,hcell'⟩
     .have l1':X.env.scope.names.lookup y=some .local:=l1;rw[g2]at l1';cases l1'
     .rw [e']at ec;cases ec;obtain⟨o,ho,hd⟩:=hcell';exact⟨c,e,o,old c o ho,hd⟩
  .obtain ⟨v,o,ho,hd⟩:=I.cell y c (hF.sub y c e);exact⟨v,o,old c o ho,hd⟩
  .show qH H s.heap.objs.size (.lst []) G.objs.size=none;rw[oQ (Ne.symm hDC)];exact hnC
  .obtain ⟨v,o,ho,hd⟩:=I.cell y c (hF.sub y c e);rw[oQ (ay (ak ho))];exact I.freeC y c (hF.sub y c e)
  .show (none::slots σ fr).length=N.length;rw[hF.len,lCq];unfold slots;rw[lMq]
 have WW:tn 0 h₁:=T.keep 0 _ _ st λb _ o e=>old b o e
 have nd:N.Nodup:=hF.names;have nf0:∀b∈fp,qH H s.heap.objs.size (.lst []) b=none:=λb hb=>by
  rw[oQ (ay (fpl b hb))];exact(fpo b hb).1
 have stat:∀{H':Hp},(∀b∈fp,H' b=none)->∀b∈fp,CJ (tS X scope cl N G.objs.size s H fp) [] H' b:=λhn' b hb =>
  ⟨hn' b hb,below b (fpl b hb),ok'.exfs b hb,.inl hb,λy c e=>(ok'.exf b hb).2 y c e,λp hp=>absurd (show p∈([]:List (Addr×Obj)) from hp) (by simp)⟩
 have loop:∀s₃:Shared,s₃={ s with heap:=h₁,toks:=s.toks+([]:List (Str×Value)).length } ->
   lO (ki X.prog X.w) X.A (.compLoop (.ListComp elt [⟨.Name x px,iter,ifs,0⟩] scope pos) 0 (.ref it) (.ref s.heap.objs.size) (compEnvC scope cl G.objs.size X.env)) (RR (.ref s.heap.objs.size) G.objs.size) s₃:=by
  rintro s₃ rfl;refine GH (λn s'=>∃i v0 H',Inv (tS X scope cl N G.objs.size s H fp) [] (v0::slots σ fr) H' s'/\tn i s'.heap/\(∀b∈fp,H' b=none)/\W i n H') ?_ m0 ⟨0,none,_,I0,WW,nf0,w0⟩
  rintro n s4 ⟨i,v0,H4,I4,WR,nf4,w4⟩;rcases turn i n H4 w4 with ⟨stop,q⟩|⟨go,Nx,hNx,step⟩
  .refine thn (T.done (tS X scope cl N G.objs.size s H fp) rfl rfl rfl hc i [] s4 (v0::slots σ fr) H4 (λ_ _=>False) I4 (stat nf4) WR stop) λr s5 hz1=>?_
   obtain⟨hr,I5⟩:=hz1;subst hr;obtain⟨m,hm,_⟩:=I5.loc;have I6:Inv X oq σ H4 s5:=I.call' (ch:=fp) I5.os I5.base I5.hok I5.bare λb hb=>⟨(fpo b hb).2.2.2.1,(fpo b hb).2.1,(fpo b hb).2.2.2.2.1,(fpo b hb).2.2.2.2.2⟩
   exact fin _ _ s5 H4 m I6 hm (I.fpOk hCle I5.free) q
  .refine thn (T.item (tS X scope cl N G.objs.size s H fp) rfl rfl rfl hc i [] s4 (v0::slots σ fr) H4 (λ_ _=>False) I4 (stat nf4) WR go) λr s5 hz1=>?_
   obtain⟨u,hr,h5⟩:=hz1;subst hr;refine thn h5 λ_ s6 hz1=>?_
   obtain⟨y,H6,I6,r6,y6,st6,nf6⟩:=hz1;have I6':=I6.pinned (stat nf6) (T.obj _ _ st6);have pg:PG (tS X scope cl N G.objs.size s H fp) (.Name x px) (tX 0):=EE nd hF.own (.inl (Za hx)) (.inr (Za hx));refine thn (pg _ s6 (v0::slots σ fr) H6 y u (λσ2 H2=>σ2=some y::slots σ fr/\H2=H6) I6' r6 ⟨rfl,rfl⟩) λ_ s7 hz1=>?_
   obtain⟨σ7,H7,I7,e7,e8⟩:=hz1;subst e7 e8;refine thn (hf _ _ _ _ _ s7 _ _ _ I7 (step y _ y6)) λb s8 hz1=>?_
   obtain⟨H8,I8,q8⟩:=hz1;have again:∀{s9:Shared}{H9:Hp},Inv (tS X scope cl N G.objs.size s H fp) ([]++C3 fp s6.heap) (some y::slots σ fr) H9 s9->Nx H9->∃m,m<n/\∃i v0 H',Inv (tS X scope cl N G.objs.size s H fp) [] (v0::slots σ fr) H' s9/\tn i s9.heap/\(∀b∈fp,H' b=none)/\W i m H':=λ{s9 H9} I9 n9=>by
    obtain⟨m',hm,w9⟩:=hNx H9 n9;refine⟨m',hm,i+1,some y,H9,I9.unpinned,T.keep _ _ _ st6 λb hb o e=>(I9.pin (b,o) (ar _ (ar _ (yC hb e)))).1,λb hb=>?_,w9⟩
    obtain⟨o,e,d⟩:=T.obj _ _ st6 b hb;exact(I9.pin (b,o) (ar _ (ar _ (yC hb e)))).2.1
   cases b with
   |false=>exact again I8 q8
   |true =>
    refine thn (he _ _ _ _ _ s8 _ _ _ I8 q8) λz s9 hz1=>?_
    obtain⟨zv,H9,I9,r9,ys,a9,l9,n9⟩:=hz1;refine thn (rP (X:=tS X scope cl N G.objs.size s H fp) _ s9 _ H9 (.ref s.heap.objs.size) [zv] (.ref s.heap.objs.size) [z] (λ_ H'=>H'=qH H9 s.heap.objs.size (.lst (ys++[zv]))) I9 rfl (.cons r9 .nil) ⟨_,ys,zv,rfl,rfl,a9,l9,rfl⟩) λ_ s10 hz1=>?_
    obtain⟨_,H10,I10,_,e10⟩:=hz1;subst e10;exact again I10 n9
 exact codeAny_compStart_list (loop _ rfl) (T.self X.A 0 _ _ _ WW (loop _ rfl))
theorem sU{wi:TI}(hc:X.calm=true) (hclos:closureFor scope X.env=pure cl) (hcell:∀y∈scope.names,y.2 ≠ .cell) (hkind:scope.kind = .function) (hnames:∀y∈scope.names,y.2 = .local->scope.names.lookup y.1=some .local)
  (hx:scope.names.lookup x=some .local) (hF:tq X scope cl x N fr) (hi:PI X (.Name x px) iter wi) (hf:∀C s H fp,PF (tS X scope cl N C s H fp) ifs tf) (he:∀C s H fp,PE (tS X scope cl N C s H fp) elt te)
  (hs:∀x,nK iter X.env x=pure x:=by intro _;rfl):PE X (.ListComp elt [⟨.Name x px,iter,ifs,0⟩] scope pos) (DL wi fr tf te):=by
 intro oq s σ H Q I h;rw[eval_ListComp];refine nP (use:=none) rfl hs hclos hkind hnames (thn (hi oq s σ H _ I h) λv s1 h1=>thn h1 λitv s2 h2=>?_)
 obtain⟨it,fp,tn,J,H2,e,I2,T,DI,f2,q2⟩:=h2;subst e;refine Dh (RR:=λacc C=>compPost (ki X.prog X.w) X.A X.xe none (EP X oq σ Q) acc C) hc hcell hkind hx hF hf he I2 T DI f2 q2 ?_
 intro acc C s' Hf m I' hm fC q;refine⟨m,hm,λh' sb=>⟨.ref acc,Hf,?_,rfl,q⟩⟩
 exact I'.turned (t':=s'.toks) (λb o hb e=>(sb.2 b hb).trans e) fC.1 fC.2.1 fC.2.2.2.1 fC.2.2.2.2.1 fC.2.2.2.2.2
theorem J1{wi:TI}{y:Str}{i:Nat}{py spos:Pos}(hc:X.calm=true) (hN:X.N.Nodup) (WH:X.N[i]?=some y) (hy:SV X.env.scope y) (hclos:closureFor scope X.env=pure cl) (hcell:∀y∈scope.names,y.2 ≠ .cell) (hkind:scope.kind = .function)
  (hnames:∀y∈scope.names,y.2 = .local->scope.names.lookup y.1=some .local)
  (hx:scope.names.lookup x=some .local) (hF:tq X scope cl x N fr) (hi:PI X (.Name x px) iter wi) (hf:∀C s H fp,PF (tS X scope cl N C s H fp) ifs tf) (he:∀C s H fp,PE (tS X scope cl N C s H fp) elt te)
  (hsw:oh (.ListComp elt [⟨.Name x px,iter,ifs,0⟩] scope pos) (some (.Name y py)) spos.line X.env=pure true:=by rfl) (hs:∀x,nK iter X.env x=pure x:=by intro _;rfl)
  (hfn:X.fn y=true∨X.env.scope.names.lookup y=some .local:=by trivial) :
  PS X (.Assign [.Name y py] (.ListComp elt [⟨.Name x px,iter,ifs,0⟩] scope pos) spos) (Fg (DL wi fr tf te) (tX i)):=by
 intro oq s σ H D I h;rw[exec_Assign_Name_used _ _ _ _ hsw];refine jY (Zf (jY ?_));show kf _ X.A (do let _ ←comprehension (.ListComp elt [⟨.Name x px,iter,ifs,0⟩] scope pos) scope X.env _ (newList []) false (eval iter X.env) (some (nV (.Name y py) X.env))) _ _ s
 refine jY (kJ (nP (use:=some (nV (.Name y py) X.env)) (Q:=λ_ s'=>SP X oq D .next s') rfl hs hclos hkind hnames
  (thn (hi oq s σ H _ I h) λv s1 h1=>thn h1 λitv s2 h2=>?_)) (λ_ s' hq=>jZ (jZ hq)) λ_ _ e=>e)
 obtain⟨it,fp,tn,J,H2,e,I2,T,DI,f2,q2⟩:=h2;subst e;refine Dh (RR:=λacc C=>compPost (ki X.prog X.w) X.A X.xe (some (nV (.Name y py) X.env)) (λ_ s'=>SP X oq D .next s') acc C) (Q:=λv H'=>D.nx (σ.set i (some v)) H') hc hcell hkind hx hF hf he I2 T DI f2 q2 ?_
 intro acc C s' Hf m I' hm fC q;obtain⟨o,es,ep,ho,hd,r⟩:=id hm;have I1:Inv X (oq++[(C,o)]) σ Hf s':=I'.pins_of λp hp=>(mAq.mp hp).elim (λz=>I'.pin p (ar _ z)) λz=>by
  have e:p=(C,o):=by simpa using z
  subst e;exact⟨ho,fC.1,fC.2.1,fC.2.2.1,λv z=>by rw[hd]at z;cases z⟩
 refine thn (EE (X:=X) (i:=i) (pos:=py) hN WH hy hfn _ s' σ Hf (.ref acc) (.ref acc) _ I1 rfl q) λ_ s2 hz1=>?_
 obtain⟨σ2,H2,I2,q2⟩:=hz1;have pC:=I2.pin (C,o) (ar _ (ar _ (by simp)))
 refine⟨m,⟨o,es,ep,pC.1,hd,r⟩,λh' sb=>⟨σ2,H2,?_,q2⟩⟩
 exact I2.unpinned.turned (t':=s2.toks) (λb u hb e=>(sb.2 b hb).trans e) pC.2.1 fC.2.1 fC.2.2.2.1 fC.2.2.2.2.1 fC.2.2.2.2.2
end
end Mr
namespace MrS
open PySem PyProof.Rows
section
variable {prog:kq}{w:kr}{A:Around}{E:Value->Shared->Prop}{s:Shared}{Pk:kc->Prop}{lt:kc->kc->Bool}
abbrev tL(h:Heap) (a:Addr) (vs:List Value):Heap:=((h.update a (Obj.mapSeq λ_=>#[])).push (kB "tuple" vs.toArray 0)).push (kB "list" #[] 0)
theorem xp{a:Addr}{vs:List Value}{n:Nat}{P:PySem.Fin->Shared->Prop}(ho:s.heap.get? a=some (kB "list" vs.toArray n)) (hs:vs.length<=ko)
  (hkk:2<=vs.length->∀Q:kQ->Shared->Prop,Q lZ { s with heap:=tL s.heap a vs }->kf (ki prog w) A (Zd vs.toArray) Q E { s with heap:=tL s.heap a vs })
  (C:zw prog w A { s with heap:=tL s.heap a vs } lZ Pk lt) (hp:∀x,x∈lC vs->Pk x)
  (h:∀xs:Array kc,xs.Perm (lC vs)->Aj lt xs 0 (lC vs).size->P (.done (.ret .none)) { s with heap:=mO s.heap a vs (xs.map (·.2)) }) :
  kf (ki prog w) A (Builtin.«list.sort» ⟨[.ref a],[]⟩) P E s:=by
 rw[list_sort_plain];have ha:a<s.heap.objs.size:=ak ho;refine jY (listItems_at ho rfl ?_);refine jY (Zh ho rfl ?_ (hsz:=by simpa using hs))
 obtain⟨e1,ho1⟩:∃e1,(s.heap.update a (Obj.mapSeq λ_=>#[])).get? a=some (kB "list" #[] e1):=⟨_,nZ ho (λ_=>#[])⟩
 refine jY (Zv ho1 rfl ?_);refine jY (Y1 ?_);refine jY (mE ?_);refine kA ?_;have ho6:(tL s.heap a vs).get? a=some (kB "list" #[] e1):=by
  rw[fN _ _ _ (by rw[size_push',eS];exact ay (bR ha)),fN _ _ _ (by rw[eS];exact ay ha)]
  exact ho1
 show kf (ki prog w) A _ P E { s with heap:=tL s.heap a vs }
 dsimp only;have hsz:vs.toArray.size=vs.length:=by simp
 have hs':ko=16777216:=kN
 by_cases h2:vs.toArray.size<2
 .rw [pe h2,pe h2];refine jY (jZ ?_);rw[StateT.run_pure];refine jY (jZ ?_);dsimp only;refine jY (Zv ho6 rfl ?_);refine jY (Zh ho6 rfl ?_ (hsz2:=by rw[jG];show (lC vs).size<=_;rw[nh,kN];lia))
  simp only[bne_self_eq_false,cU,if_false];refine jZ (h _ (jz.refl _) ?_);intro i j x y _ hij hj ex ey;have:i=j:=by rw[nh]at hj;lia
  subst this;rw[ex]at ey;cases ey;exact C.refl (hp x (aQq ex))
 .rw [pD h2,pD h2];refine jY (hkk (by lia) _ ?_)
  refine jY (kJ (EA C (arr:=lC vs) (g:=7) (E:=E)
   (Q:=λ_ st'=>∃xs p g',st'=yf lZ xs p g'/\xs.Perm (lC vs)/\Aj lt xs 0 (lC vs).size) hp (by rw[nh];lia) λxs p g' a1 a2=>⟨xs,p,g',rfl,a1,a2⟩) ?_ λ_ _ e=>e)
  rintro⟨⟨⟩,st'⟩ s' ⟨rfl,xs,p,g',rfl,hpm,hsg⟩;dsimp only;refine jY (Zv ho6 rfl ?_);refine jY (Zh ho6 rfl ?_ (hsz2:=by refine bQ (eN ((jG ..).trans (hpm.size_eq.trans (nh _)))) ?_;lia))
  simp only[bne_self_eq_false,cU,if_false];exact jZ (h xs hpm hsg)
theorem EJ{h:Heap}{a:Addr}{xs:Array Value}{n:Nat}(vs:List Value) (ho:h.get? a=some (kB "list" xs n)):∃e1,(tL h a vs).get? a=some (kB "list" #[] e1):=by
 have ha:a<h.objs.size:=ak ho;obtain⟨e1,ho1⟩:∃e1,(h.update a (Obj.mapSeq λ_=>#[])).get? a=some (kB "list" #[] e1):=⟨_,nZ ho (λ_=>#[])⟩
 refine⟨e1,?_⟩;rw[fN _ _ _ (by rw[size_push',eS];exact ay (bR ha)),fN _ _ _ (by rw[eS];exact ay ha)]
 exact ho1
theorem Ez{h:Heap}{a:Addr}{xs:Array Value}{n:Nat}(ys:Array Value) (ho:h.get? a=some (kB "list" xs n)):∃n1,(h.update a (Obj.mapSeq λ_=>ys)).get? a=some (kB "list" ys n1):=⟨_,nZ ho (λ_=>ys)⟩
theorem vI{vs:List Value}{x:kc}(h:x∈lC vs):x.1∈vs/\x.2=x.1:=by
 obtain⟨i,hi,e⟩:=Array.mem_iff_getElem.mp h;have hi':i<vs.length:=by rw[nh]at hi;exact hi
 have:x=(vs[i],vs[i]):=by
  rw[←e];simp[lC]
 rw[this];exact⟨gRq hi',rfl⟩
theorem zd{vs:List Value}{xs:Array kc}(hp:xs.Perm (lC vs)) (hs:Aj lt xs 0 (lC vs).size) :
  (xs.map (·.2)).toList.Perm vs/\(xs.map (·.2)).toList.Pairwise (λx y=>lt (y,y) (x,x)=false):=by
 constructor
 .have:=hp.toList.map (·.2);have e:(lC vs).toList.map (·.2)=vs:=by
   have:(lC vs).toList=vs.zip vs:=by simp[lC]
   rw[this];apply List.ext_getElem
   .simp
   .intro i h1 h2;simp
  rw[e]at this;rw[Array.toList_map];exact this
 .rw [bW];intro i j hi hj hij;have hi':i<xs.size:=by simpa using hi
  have hj':j<xs.size:=by simpa using hj
  have z:=hs i j xs[i] xs[j] (bg _) (bA hij) (by rw[←hp.size_eq];exact hj') (by simp[hi']) (by simp[hj'])
  have m1:=vI (hp.mem_iff.mp (bu hi'));have m2:=vI (hp.mem_iff.mp (bu hj'));have e1:xs[i]=(xs[i].2,xs[i].2):=jw m1.2.symm rfl;have e2:xs[j]=(xs[j].2,xs[j].2):=jw m2.2.symm rfl;rw[e1,e2]at z;simpa using z
theorem CL{l:Addr}{vs:List Value}{Q:Value->Shared->Prop}(hl:s.heap.IsList l vs.toArray) (hs:vs.length<=ko)
  (hC:∀s':Shared,(∀b o,s.heap.get? b=some o->s'.heap.get? b=some o)->(2<=vs.length->∀Q:kQ->Shared->Prop,Q lZ s'->kf (ki prog w) A.in1.in1 (Zd vs.toArray) Q E s')/\zw prog w A.in1.in1 s' lZ Pk lt)
  (hp:∀v∈vs,Pk (v,v))
  (h:∀(out:List Value) (h':Heap) (n':Nat),out.Perm vs->out.Pairwise (λx y=>lt (y,y) (x,x)=false)->(∀b o,s.heap.get? b=some o->h'.get? b=some o) ->
   h'.get? (s.heap.objs.size+1)=some (kB "list" out.toArray n')->Q (.ref (s.heap.objs.size+1)) { s with heap:=h' }) :
  kf (ki prog w) A (call (.builtin "sorted") [.ref l]) Q E s:=by
 refine Calls.call_function_entry Zw Zk Zn (Zo _) ?_;unfold Builtin.«sorted»;refine jY (m:=checkCount "sorted" 1 1 _) (jZ ?_);refine jY (collect_list hl ?_ hs);refine jY (mE ?_);have hsz:((s.heap.push (kB "list" #[] 0)).update s.heap.objs.size (Obj.mapSeq (· ++ vs.toArray))).objs.size=s.heap.objs.size+1:=by
  rw[eS,size_push']
 have hoL:(((s.heap.push (kB "list" #[] 0)).update s.heap.objs.size (Obj.mapSeq (· ++ vs.toArray))).push (kB "list" vs.toArray 0)).get? (s.heap.objs.size+1)=some (kB "list" vs.toArray 0):=by
  rw[←hsz];exact aC _ rfl
 show kf _ _ _ _ _ { s with heap:=((s.heap.push (kB "list" #[] 0)).update s.heap.objs.size (Obj.mapSeq (· ++ vs.toArray))).push (kB "list" vs.toArray 0) }
 rw[hsz];generalize hG:((s.heap.push (kB "list" #[] 0)).update s.heap.objs.size (Obj.mapSeq (· ++ vs.toArray))).push (kB "list" vs.toArray 0)=G at hoL ⊢;have k1:∀b o,s.heap.get? b=some o->G.get? b=some o:=λb o e=>by
  rw[←hG];refine ae _ ?_;rw[cL _ _ _ _ (ay (ak e))];exact ae _ e
 have k2:∀b o,s.heap.get? b=some o->(tL G (s.heap.objs.size+1) vs).get? b=some o:=λb o e=>by
  refine ae _ (ae _ ?_);rw[cL _ _ _ _ (ay (bR (ak e)))];exact k1 b o e
 obtain⟨q1,q2⟩:=hC { s with heap:=tL G (s.heap.objs.size+1) vs } k2
 refine jY (kA (kF Y2 ⟨_,hoL,rfl⟩ oa (xp (Pk:=Pk) (lt:=lt) hoL hs q1 q2 (λx hx=>?_) λxs a1 a2=>⟨_,rfl,?_⟩) (Y5 _)))
 .obtain ⟨m1,m2⟩:=vI hx;have:x=(x.1,x.1):=jw rfl m2;rw[this];exact hp _ m1
 .obtain ⟨v1,v2⟩:=zd a1 a2;obtain⟨e1,ho1⟩:=EJ vs hoL;obtain⟨n1,g1⟩:=Ez (xs.map (·.2)) ho1;refine jZ ⟨_,rfl,h _ (mO G (s.heap.objs.size+1) vs (xs.map (·.2))) n1 v1 v2 (λb o e=>?_) ?_⟩
  .unfold mO;rw[cL _ _ _ _ (ay (bR (ak e)))];exact k2 b o e
  .rw [show (xs.map (·.2)).toList.toArray=xs.map (·.2) from gq]
   exact g1
end
end MrS
namespace HT
open PySem PyProof.Rows
section
open PySem.SeqAt
open PySem.AutoSeq1 (wpAny_loadPart')
open PySem.MeetsSeq PySem.MeetsSeq2 PySem.MeetsSeq3 PySem.SeqRoads2
theorem FW{vs:List Value}{ns:List Int}(h:kH vs ns):∀{i:Nat}(hi:i<vs.length),∃(z:Int) (t:Tok),vs[i] = .int z t/\ns.drop i=z::ns.drop (i+1):=by
 induction h with
 |nil=>intro i hi;exact absurd hi (cK _)
 |cons a t _ ih =>
  intro i hi;cases i with
  |zero=>exact⟨a,t,rfl,rfl⟩
  |succ i=>exact ih (i:=i) (by simpa using hi)
theorem Ft(l b:Addr) (items items2:Array Value) (n n2:Nat) (dd dd2:Option Addr) (sl sl2:Array (Option Value)) (ns ms:List Int) (hi:kH items.toList ns) (hj:kH items2.toList ms) (k:Nat) :
  ∀i:Nat,min items.size items2.size-i=k->i<=items.size->i<=items2.size->Meets (Builtin.«list.__eq__.loop» ⟨[.ref l,.ref b,kC i,kC 0],[]⟩)
   (λ_ R s=>s.heap.get? l=some { cls:=.type "list", dict:=dd,data:=.seq items n,slots:=sl }/\s.heap.get? b=some { cls:=.type "list", dict:=dd2,data:=.seq items2 n2,slots:=sl2 } /\
    R (.ok (.ret (.bool (tF (ns.drop i) (ms.drop i))))) s):=by
 have z1:ns.length=items.size:=by rw[←hi.length];simp
 have z2:ms.length=items2.size:=by rw[←hj.length];simp
 induction k with
 |zero =>
  intro i hk h1 h2 prog w A R s h;obtain⟨hp,g,d,tk,os⟩:=s;obtain⟨hl,hb,h⟩:=h
  wp_walk using wpAny_loadPart' hl,wpAny_loadPart' hb
  have fin:tF (ns.drop i) (ms.drop i)=decide (items.size<items2.size):=by
   by_cases c:i=items.size
   .have e1:ns.drop i=[]:=dA (by lia)
    rw[e1]
    by_cases c2:i<items2.size
    .rw [ba (by lia:i<ms.length),CA]
     exact(decide_eq_true (by lia)).symm
    .rw [dA (by lia:ms.length<=i),DC]
     exact(decide_eq_false (by lia)).symm
   .have c2:i=items2.size:=by lia
    rw[ba (by lia:i<ns.length),dA (by lia:ms.length<=i),Du]
    exact(decide_eq_false (by lia)).symm
  rw[fin]at h
  by_cases c:i=items.size
  .have LX:items[((i:Nat):Int).toNat]?=none:=by simp;lia
   rw[LX]
   wp_walk using wpAny_loadPart' hl,wpAny_loadPart' hb
   exact h
  .have c2:i=items2.size:=by lia
   have LX:items[((i:Nat):Int).toNat]?=some (items[i]'(by lia)):=by simp
   have hi2:items2[((i:Nat):Int).toNat]?=none:=by simp;lia
   rw[LX,hi2]
   wp_walk using wpAny_loadPart' hl,wpAny_loadPart' hb
   exact h
 |succ k ih =>
  intro i hk h1 h2 prog w A R s h;obtain⟨hp,g,d,tk,os⟩:=s;obtain⟨hl,hb,h⟩:=h
  wp_walk using wpAny_loadPart' hl,wpAny_loadPart' hb
  have hlt:i<items.size:=by lia
  have hlt2:i<items2.size:=by lia
  obtain⟨x,t,ex,dx⟩:=FW hi (i:=i) (by simpa using hlt)
  obtain⟨y,u,ey,dy⟩:=FW hj (i:=i) (by simpa using hlt2)
  have LX:items[((i:Nat):Int).toNat]?=some (.int x t):=by
   rw[←ex];simp[hlt]
  have hi2:items2[((i:Nat):Int).toNat]?=some (.int y u):=by
   rw[←ey];simp[hlt2]
  have hc:((i:Int)+1)=((i+1:Nat):Int):=by push_cast;rfl
  rw[dx,dy,yy]at h;rw[LX,hi2];obtain⟨e,he,hiff⟩:=Oh A.in1 ⟨hp,g,d,tk,os⟩ x t y u;refine jY (he prog w _ _ ?_);cases e with
  |true =>
   rw[pe (hiff.mp rfl)]at h
   wp_walk
   rw[hc];exact⟨kP plain_eq_loop _,kE entry_eq_loop (by
    rw[Around.under_plainId plain_eq_loop _];exact ih (i+1) (by lia) (by lia) (by lia) prog w A R _ ⟨hl,hb,h⟩)⟩
  |false =>
   rw[pD (λq=>absurd (hiff.mpr q) aF)]at h
   have hri:=MQ A.in1 ⟨hp,g,d,tk,os⟩ x t y u prog w
   wp_walk using wpAny_loadPart' hl,wpAny_loadPart' hb
   rw[LX,hi2]
   wp_walk using hri
   exact h
theorem EH(l b:Addr) (items items2:Array Value) (n n2:Nat) (dd dd2:Option Addr) (sl sl2:Array (Option Value)) (ns ms:List Int) (hi:kH items.toList ns) (hj:kH items2.toList ms) :
  Meets (Builtin.«list.__lt__» ⟨[.ref l,.ref b],[]⟩)
   (λ_ R s=>s.heap.get? l=some { cls:=.type "list", dict:=dd,data:=.seq items n,slots:=sl }/\s.heap.get? b=some { cls:=.type "list", dict:=dd2,data:=.seq items2 n2,slots:=sl2 } /\
    R (.ok (.ret (.bool (tF ns ms)))) s):=by
 intro prog w A R s h;obtain⟨hp,g,d,tk,os⟩:=s;obtain⟨hl,hb,h⟩:=h;have f3:=AutoSeq1.sub_list_list
 wp_walk using wpAny_loadPart' hl,wpAny_loadPart' hb
 exact⟨kP plain_eq_loop _,kE entry_eq_loop (by
  rw[Around.under_plainId plain_eq_loop _];exact Ft l b items items2 n n2 dd dd2 sl sl2 ns ms hi hj _ 0 rfl (bg _) (bg _) prog w A R _ ⟨hl,hb,h⟩)⟩
end
end HT
namespace Mr
open PySem PySem.Spec PyProof.Rows L2
section
open HT
theorem Dt:∀xs ys:List Int,tF xs ys=true->tF ys xs=false
 | [],[],_=>rfl
 | [],_::_,_=>rfl
 |_::_,[],h=>by cases h
 |x::xs,y::ys,h=>by
  rw[yy]at h ⊢
  by_cases e:x=y
  .rw [pe e]at h;rw[pe e.symm];exact Dt xs ys h
  .rw [pD e]at h;rw[pD (Ne.symm e)];have h':x<y:=of_decide_eq_true h;exact decide_eq_false (by lia)
theorem Bu:∀xs ys zs:List Int,tF ys xs=false->tF zs ys=false->tF zs xs=false
 | [],[],[],_,_=>rfl
 | [],[],_::_,_,h=>by exact h
 | [],_::_,[],_,h=>by cases h
 | [],_::_,_::_,_,_=>rfl
 |_::_,[],_,h,_=>by cases h
 |_::_,_::_,[],_,h=>by cases h
 |x::xs,y::ys,z::zs,h1,h2=>by
  rw[yy]at h1 h2 ⊢
  by_cases e1:y=x
  .rw [pe e1]at h1;subst e1
   by_cases e2:z=y
   .rw [pe e2]at h2 ⊢;exact Bu xs ys zs h1 h2
   .rw [pD e2]at h2 ⊢;exact h2
  .rw [pD e1]at h1;have h1':¬ y<x:=of_decide_eq_false h1
   by_cases e2:z=y
   .rw [pD (by lia)]
    exact decide_eq_false (by lia)
   .rw [pD e2]at h2;have h2':¬ z<y:=of_decide_eq_false h2;rw[pD (by lia)]
    exact decide_eq_false (by lia)
theorem Gh:∀xs ys:List Int,tF xs ys=false->tF ys xs=false->xs=ys
 | [],[],_,_=>rfl
 | [],_::_,h,_=>by cases h
 |_::_,[],_,h=>by cases h
 |x::xs,y::ys,h1,h2=>by
  rw[yy]at h1 h2
  by_cases e:x=y
  .rw [pe e]at h1;rw[pe e.symm]at h2;rw[e,Gh xs ys h1 h2]
  .rw [pD e]at h1;rw[pD (Ne.symm e)]at h2;have h1':¬ x<y:=of_decide_eq_false h1;have h2':¬ y<x:=of_decide_eq_false h2;lia
def Qc(x y:List Int):Bool:=!HT.tF y x
theorem K1(x y z:List Int) (h1:Qc x y=true) (h2:Qc y z=true):Qc x z=true:=by
 unfold Qc at *;simp only[gQ]at *;exact Bu x y z h1 h2
theorem LF(x y:List Int):(Qc x y || Qc y x)=true:=by
 unfold Qc;cases h:HT.tF y x with
 |false=>rfl
 |true=>rw[Dt y x h];rfl
def qY(rs:List (List Int)):List (List Int):=rs.mergeSort Qc
theorem rm(rs:List (List Int)):(qY rs).Perm rs:=iU _ _
theorem yB(rs:List (List Int)):(qY rs).Pairwise (λx y=>HT.tF y x=false):=by
 refine(ic K1 LF rs).imp λ{a b} h=>?_
 unfold Qc at h;simpa using h
theorem Dz:∀{xs ys:List (List Int)},xs.Perm ys->xs.Pairwise (λx y=>HT.tF y x=false)->ys.Pairwise (λx y=>HT.tF y x=false)->xs=ys
 |xs,ys,hp,h1,h2=>aW.eq_of_pairwise (λa b _ _ e1 e2=>(Gh b a e1 e2).symm) h1 h2 hp
theorem FN{xs rs:List (List Int)}(hp:xs.Perm rs) (h:xs.Pairwise (λx y=>HT.tF y x=false)):xs=qY rs :=
 Dz (hp.trans (rm rs).symm) h (yB rs)
theorem LM{rs ts:List (List Int)}(hp:rs.Perm ts):qY rs=qY ts:=FN ((rm rs).trans hp) (yB rs)
theorem An(rs:List (List Int)):(qY rs).length=rs.length:=(rm rs).length_eq
def qz(ns:List Int):List Int:=ns.mergeSort (λx y=>decide (x<=y))
theorem pK(ns:List Int):(qz ns).Perm ns:=iU _ _
theorem vG(ns:List Int):(qz ns).Pairwise (·<=·):=by
 refine(ic (le:=λx y=>decide (x<=y)) (λa b c h1 h2=>?_) (λa b=>?_) ns).imp λ{a b} h=>by simpa using h
 .simp only [decide_eq_true_eq]at *;lia
 .simp only [jx,decide_eq_true_eq];lia
theorem zL{xs ns:List Int}(hp:xs.Perm ns) (h:xs.Pairwise (·<=·)):xs=qz ns :=
 aW.eq_of_pairwise (λa b _ _ e1 e2=>Int.le_antisymm e1 e2) h (vG ns) (hp.trans (pK ns).symm)
end
def rX(H:Hp) (ps:List Addr) (rs:List (List Int)):Prop:=ps.map H=rs.map (λr=>some (HO.lst (r.map V.int)))
theorem rX.nil{H:Hp}:rX H [] []:=rfl
theorem rX.length{H:Hp}{ps:List Addr}{rs:List (List Int)}(h:rX H ps rs):ps.length=rs.length:=by
 have:=congrArg bD h;simpa using this
theorem rX.cons_iff{H:Hp}{ps:List Addr}{rs:List (List Int)}{p:Addr}{r:List Int}:rX H (p::ps) (r::rs)↔H p=some (.lst (r.map V.int))/\rX H ps rs:=by
 unfold rX;rw[ao,ao,jM.injEq]
theorem rX.get{H:Hp}{ps:List Addr}{rs:List (List Int)}(h:rX H ps rs) {i:Nat}{p:Addr}(e:ps[i]?=some p):∃r,rs[i]?=some r/\H p=some (.lst (r.map V.int)):=by
 have:=congrArg (λl=>l[i]?) h
 simp only[gMq,e,cM]at this;cases er:rs[i]? with
 |none=>rw[er]at this;cases this
 |some r=>rw[er]at this;exact⟨r,rfl,aJ.inj this⟩
theorem rX.mem{H:Hp}{ps:List Addr}{rs:List (List Int)}(h:rX H ps rs) {p:Addr}(hp:p∈ps):∃r,r∈rs/\H p=some (.lst (r.map V.int)):=by
 obtain⟨i,hi⟩:=List.getElem?_of_mem hp;obtain⟨r,er,e⟩:=h.get hi;exact⟨r,mGq er,e⟩
theorem rX.keep{H H':Hp}{ps:List Addr}{rs:List (List Int)}(h:rX H ps rs) (k:∀p∈ps,H' p=H p):rX H' ps rs:=by
 unfold rX at *;rw[←h];exact mCq k
theorem rX.same{H H':Hp}{ps:List Addr}{rs:List (List Int)}(h:rX H ps rs) (s:qk H H'):rX H' ps rs :=
 h.keep λp hp=>by
  obtain⟨r,_,e⟩:=h.mem hp;rw[s _ _ e,e]
def Yy:V->Int
 | .int i=>i
 |_=>0
def zZ(H:Hp) (p:Addr):List Int:=match H p with
 |some (.lst xs)=>xs.map Yy
 |_=>[]
theorem HA{H:Hp}{p:Addr}{r:List Int}(h:H p=some (.lst (r.map V.int))):zZ H p=r:=by
 unfold zZ;rw[h];simp only[mPq];exact List.map_id'' (λ_=>rfl) r
theorem rX.fn{H:Hp}{ps:List Addr}{rs:List (List Int)}(h:rX H ps rs):rs=ps.map (zZ H):=by
 induction rs generalizing ps with
 |nil =>
  have:=h.length;have:ps=[]:=aS.mp this;rw[this];rfl
 |cons r rs ih =>
  cases ps with
  |nil=>have:=h.length;simp at this
  |cons p ps =>
   obtain⟨h1,h2⟩:=rX.cons_iff.mp h;rw[ao,←ih h2,HA h1]
theorem rX.fn_row{H:Hp}{ps:List Addr}{rs:List (List Int)}(h:rX H ps rs) {p:Addr}(hp:p∈ps):H p=some (.lst ((zZ H p).map V.int)):=by
 obtain⟨r,_,e⟩:=h.mem hp;rw[HA e];exact e
theorem rX.of_fn{H:Hp}{ps:List Addr}(h:∀p∈ps,H p=some (.lst ((zZ H p).map V.int))):rX H ps (ps.map (zZ H)):=by
 unfold rX;rw[mPq];exact mCq h
theorem rX.perm{H:Hp}{ps qs:List Addr}{rs:List (List Int)}(h:rX H ps rs) (hp:qs.Perm ps):∃ts,rX H qs ts/\ts.Perm rs/\ts=qs.map (zZ H) :=
 ⟨_,rX.of_fn λp m=>h.fn_row (hp.mem_iff.mp m),by rw[h.fn];exact hp.map _,rfl⟩
theorem rX.free{H H':Hp}{ps:List Addr}{rs:List (List Int)}(h:rX H' ps rs) {q:Addr}(n:H' q=none):q∉ps:=λm=>by
 obtain⟨r,_,e⟩:=h.mem m;rw[n]at e;cases e
theorem BR:∀{ps:List Addr}{vs:List Value},pO (ps.map V.ref) vs->vs=ps.map bH
 | [],vs,r=>by cases r;rfl
 |p::ps,vs,r=>by
  rw[ao]at r;cases r with
  |cons h1 h2 =>
   have e:_=bH p:=h1;rw[e,BR h2];rfl
theorem DN:∀(ps:List Addr),pO (ps.map V.ref) (ps.map bH)
 | []=>.nil
 |p::ps=>.cons rfl (DN ps)
def Bo:Value->Addr
 | .ref p=>p
 |_=>0
def intOf:Value->Int
 | .int i _=>i
 |_=>0
theorem EX{vs:List Value}{ns:List Int}(h:kH vs ns):ns=vs.map intOf/\∀v∈vs,∃a t,v = .int a t:=by
 induction h with
 |nil=>exact⟨rfl,λv hv=>by cases hv⟩
 |cons a t _ ih =>
  refine⟨by rw[ao,←ih.1];rfl,λv hv=>?_⟩
  rcases ag.mp hv with rfl|hv
  .exact ⟨a,t,rfl⟩
  .exact ih.2 v hv
theorem vals_ints:∀{vs:List Value},(∀v∈vs,∃a t,v = .int a t)->pO ((vs.map intOf).map V.int) vs
 | [],_=>.nil
 |v::vs,h=>by
  obtain⟨a,t,rfl⟩:=h _ (aj ..);exact .cons ⟨t,rfl⟩ (vals_ints λv hv=>h v (mCo _ hv))
theorem Qi{M:Model}{A:Around}{E:Value->Shared->Prop}{s:Shared}{vs:List Value}{T:String}{Q:kQ->Shared->Prop}(h2:2<=vs.length) (hT:∀v∈vs,W.Looks M s.heap (typeOf v) (.type T)) (hT1:(dG T != dG "tuple")=true) (hT2:(dG T == dG T)=true) (h:Q lZ s) :
  kf M A (Zd vs.toArray) Q E s:=W.kas_kind h2 hT hT1 hT2 h
def WQ(x y:kc):Bool:=match x.1,y.1 with
 | .int a _,.int b _=>decide (a<b)
 |_,_=>false
theorem To(prog:kq) (w:kr) (A:Around) (s:Shared):MrS.zw prog w A s lZ (λx=>∃a t,x.1 = .int a t) WQ where
 ask:=by
  rintro⟨_,x⟩ ⟨_,y⟩ ⟨a,t,e1⟩ ⟨b,u,e2⟩ E Q q;dsimp only at e1 e2;subst e1 e2;rw[keyLt'_oneType];exact oneLt_int q
 asym:=by
  rintro⟨_,x⟩ ⟨_,y⟩ ⟨a,t,e1⟩ ⟨b,u,e2⟩ h;dsimp only at e1 e2;subst e1 e2;have h':a<b:=of_decide_eq_true h;exact decide_eq_false (by lia)
 trans:=by
  rintro⟨_,x⟩ ⟨_,y⟩ ⟨_,z⟩ ⟨a,t,e1⟩ ⟨b,u,e2⟩ ⟨c,v,e3⟩ h1 h2;dsimp only at e1 e2 e3;subst e1 e2 e3;have h1':¬ b<a:=of_decide_eq_false h1;have h2':¬ c<b:=of_decide_eq_false h2;exact decide_eq_false (by lia)
def Ya(r:Addr->List Int) (x y:kc):Bool:=match x.1,y.1 with
 | .ref p,.ref q=>HT.tF (r p) (r q)
 |_,_=>false
theorem XC{prog:kq}{w:kr}{A:Around}{s:Shared}{ps:List Addr}{r:Addr->List Int}(hu:A.units<mC)
  (h:∀p∈ps,∃vs:List Value,PlainL s.heap p vs.toArray/\kH vs (r p)):MrS.zw prog w A s lZ (λx=>∃p,x.1 = .ref p/\p∈ps) (Ya r) where
 ask:=by
  rintro⟨_,x⟩ ⟨_,y⟩ ⟨p,e1,hp⟩ ⟨q,e2,hq⟩ E Q k;dsimp only at e1 e2;subst e1 e2;obtain⟨vs,⟨o,n,ho,hc,hd0,hd⟩,hi⟩:=h p hp;obtain⟨ws,⟨o2,n2,ho2,hc2,hd02,hd2⟩,hj⟩:=h q hq;obtain⟨cls,dd,data,sl⟩:=o;obtain⟨cls2,dd2,data2,sl2⟩:=o2;simp only at hc hd0 hd hc2 hd02 hd2;subst hc hd0 hd hc2 hd02 hd2;rw[keyLt'_oneType,oneLt'_eq];simp only[if_true];refine jY (wpAny_cRoomFor hu ?_);refine jY (wpAny_callSpecialIfBound?_slot ⟨_,ho,rfl⟩ F.slot_list_lt (lS F.slot_list_lt ⟨_,ho,rfl⟩ F.entry_list_lt (F.args_list_lt_2 _ _)
   (HT.EH p q vs.toArray ws.toArray n n2 none none sl sl2 (r p) (r q) (by simpa using hi) (by simpa using hj)) ⟨ho,ho2,?_⟩))
  exact mh k
 asym:=by
  rintro⟨_,x⟩ ⟨_,y⟩ ⟨a,e1,_⟩ ⟨b,e2,_⟩ h;dsimp only at e1 e2;subst e1 e2;exact Dt _ _ h
 trans:=by
  rintro⟨_,x⟩ ⟨_,y⟩ ⟨_,z⟩ ⟨a,e1,_⟩ ⟨b,e2,_⟩ ⟨c,e3,_⟩ h1 h2;dsimp only at e1 e2 e3;subst e1 e2 e3;exact Bu _ _ _ h1 h2
section
variable {X:Cx}
theorem ED:zV X (.builtin "sorted") (λxs H Q=>∃(a:Addr) (ns:List Int),xs=[.ref a]/\tu X.K H a (ns.map V.int)/\∀p,H p=none->Q (.ref p) (qH H p (.lst ((qz ns).map V.int)))):=by
 intro oq s σ H xs us Q I r h;obtain⟨a,ns,rfl,hS,q⟩:=h;obtain⟨u,rfl,ru⟩:=zh r;cases ru;obtain⟨vs,hl,hi,hz⟩:=C4 I hS;obtain⟨en,hv⟩:=EX hi;have hlen:=hi.length;refine MrS.CL (Pk:=λx=>∃a t,x.1 = .int a t) (lt:=WQ) hl (by lia) (λs' _=>⟨λh2 Q q=>?_,To _ _ _ _⟩) (λv m=>hv v m) λout h' n' o1 o2 o3 o4=>?_
 .match vs,hi,h2 with
  | [],_,h2=>simp at h2
  | [_],_,h2=>simp at h2
  |v₁::v₂::uJ,hi,_ =>
   rw[Zm hi];exact jZ q
 .have ho:∀v∈out,∃a t,v = .int a t:=λv m=>hv v (o1.mem_iff.mp m)
  have e:out.map intOf=qz ns:=by
   refine zL (by rw[en];exact o1.map _) ?_
   rw[bz];refine o2.imp_of_mem λ{x y} mx my h=>?_
   obtain⟨a,t,rfl⟩:=ho x mx;obtain⟨b,u,rfl⟩:=ho y my;have h':¬ b<a:=of_decide_eq_false h;show a<=b;lia
  have hp:H (s.heap.objs.size+1)=none:=I.hok.fresh (cu _);refine⟨.ref (s.heap.objs.size+1),_,I.laid (t':=s.toks) o3 (cu _) (show qW X.prog X.w _ h' _ (.lst ((qz ns).map V.int)) from ⟨?_,out,n',?_,o4⟩),rfl,q _ hp⟩
  .rw [lMq,(pK ns).length_eq];exact hz
  .rw [←e];exact vals_ints ho
theorem ye(hu:X.A.units+64<mC):zV X (.builtin "sorted") (λxs H Q=>∃(a:Addr) (ps:List Addr) (rs:List (List Int)),xs=[.ref a]/\tu X.K H a (ps.map V.ref)/\rX H ps rs /\
  ∀p qs,H p=none->qs.Perm ps->rX (qH H p (.lst (qs.map V.ref))) qs (qY rs)->Q (.ref p) (qH H p (.lst (qs.map V.ref)))):=by
 intro oq s σ H xs us Q I r h;obtain⟨a,ps,rs,rfl,hS,hE,q⟩:=h;obtain⟨u,rfl,ru⟩:=zh r;cases ru;obtain⟨its,rv,hl,hz⟩:=I.list hS;have ei:=BR rv;subst ei;have hrow:∀p∈ps,∃vs:List Value,PlainL s.heap p vs.toArray/\kH vs (zZ H p):=λp hp=>by
  obtain⟨its,rv,pl,_⟩:=I.list (tu.of (hE.fn_row hp));exact⟨its,pl,As rv⟩
 have keepL:∀(s':Shared),(∀b o,s.heap.get? b=some o->s'.heap.get? b=some o)->∀p∈ps,∃vs:List Value,PlainL s'.heap p vs.toArray/\kH vs (zZ H p):=λs' k p hp=>by
  obtain⟨vs,⟨o,n,ho,uJ⟩,hi⟩:=hrow p hp;exact⟨vs,⟨o,n,k _ _ ho,uJ⟩,hi⟩
 refine MrS.CL (Pk:=λx=>∃p,x.1 = .ref p/\p∈ps) (lt:=Ya (zZ H)) hl.isList (by simpa using hz) (λs' k=>⟨λh2 Q q=>?_,XC (by show X.A.units+1+1<mC;lia) (keepL s' k)⟩) (λv m=>?_) λout h' n' o1 o2 o3 o4=>?_
 .refine Qi (T := "list") h2 (λv hv=>?_) (by rfl) (by rfl) q
  obtain⟨p,hp,rfl⟩:=mMq.mp hv;obtain⟨vs,pl,_⟩:=keepL s' k p hp;intro A Q E s2 k2 q2;obtain⟨o,ho,hc,_⟩:=pl.isList;exact mq (T := "list") ⟨o,k2 _ _ ho,hc⟩ q2
 .obtain ⟨p,hp,rfl⟩:=mMq.mp m;exact⟨p,rfl,hp⟩
 .have ho:∀v∈out,∃p∈ps,v = .ref p:=λv m=>by
   obtain⟨p,hp,rfl⟩:=mMq.mp (o1.mem_iff.mp m);exact⟨p,hp,rfl⟩
  have eo:out=(out.map Bo).map bH:=by
   rw[mPq];have e:=mCq (l:=out) (f:=id) (g:=bH∘Bo) λv hv=>by
    obtain⟨p,_,rfl⟩:=ho v hv;rfl
   rw[←e,eM]
  have hq:(out.map Bo).Perm ps:=by
   have:=o1.map Bo;rw[mPq,show Bo∘bH=id from rfl,eM]at this
   exact this
  have hp:H (s.heap.objs.size+1)=none:=I.hok.fresh (cu _);generalize out.map Bo=qs at eo hq;obtain⟨ts,e1,e2,e3⟩:=hE.perm hq;have es:ts=qY rs:=by
   refine FN e2 ?_;rw[e3,bz];rw[eo,bz]at o2;exact o2
  refine⟨.ref (s.heap.objs.size+1),_,I.laid (t':=s.toks) o3 (cu _) (show qW X.prog X.w _ h' _ (.lst (qs.map V.ref)) from ⟨?_,out,n',?_,o4⟩),rfl,q _ qs hp hq (by rw[←es];exact e1.same (uW hp))⟩
  .rw [lMq,hq.length_eq];simpa using hz
  .rw [eo];exact DN qs
def xh(r:List Int):PyData:=.list (r.map PyData.int)
def AB(rs:List (List Int)):PyData:=.list (rs.map xh)
theorem BZ:∀rs:List (List Int),PyData.canLayAll0 (rs.map xh)=true
 | []=>by simp[PyData.canLayAll0]
 |r::rs=>by simp[PyData.canLayAll0,xh,PyData.canLay0,W.canLayAll0_ints r,BZ rs]
theorem CO:∀rs:List (List Int),PyData.depthAll (rs.map xh)<=3
 | []=>by simp[PyData.depthAll]
 |r::rs=>by
  have h1:=CO rs;have h2:=W.depthAll_ints r;simp only[ao,PyData.depthAll,xh,PyData.depth];lia
theorem BU(rs:List (List Int)):SeqAt.shaped (AB rs)=true:=by
 have h1:=CO rs;have h2:PyData.depth (AB rs)<=64:=by simp only[AB,PyData.depth];lia
 show (PyData.canLay0 (AB rs) && decide (PyData.depth (AB rs)<=64))=true;rw[eR];exact⟨by simp only[AB,PyData.canLay0];exact BZ rs,decide_eq_true h2⟩
theorem Dm:∀rs ts:List (List Int),SeqAt.noMixAll (rs.map xh) (ts.map xh)=true
 | [],[]=>by simp[SeqAt.noMixAll]
 | [],_::_=>by simp[SeqAt.noMixAll]
 |_::_,[]=>by simp[SeqAt.noMixAll]
 |r::rs,t::ts=>by simp[SeqAt.noMixAll,xh,SeqAt.noMix,W.noMix_ints r t,Dm rs ts]
theorem DV:∀rs ts:List (List Int),PySem.Spec.sameAll (rs.map xh) (ts.map xh)=decide (rs=ts)
 | [],[]=>by simp[PySem.Spec.sameAll]
 | [],_::_=>by simp[PySem.Spec.sameAll]
 |_::_,[]=>by simp[PySem.Spec.sameAll]
 |r::rs,t::ts=>by
  simp only[ao,PySem.Spec.sameAll,xh,PySem.Spec.same,W.same_ints r t];rw[DV rs ts]
  by_cases h:r=t <;> simp[h]
end
end Mr
namespace Mr
open PySem L2
structure Bt (mg:Str->Option Value):Prop where
 len:mg "len" = none
 min:mg "min" = none
 max:mg "max" = none
 abs:mg "abs" = none
 all:mg "all" = none
 sorted:mg "sorted" = none
 isi:mg "isinstance" = none
 list:mg "list" = none
 int:mg "int" = none
 bool:mg "bool" = none
 str:mg "str" = none
 dict:mg "dict" = none
 zip:mg "zip" = none
 enum:mg "enumerate" = none
 range:mg "range" = none
 reversed:mg "reversed" = none
structure Fn (P:kq) (w:kr) (K:W.Frag) (mg:Str->Option Value) (base:Heap) (k:Nat) (x:Str) (st:Stmt) (ps:List Str) (sp:Sp) (f:Addr) (fd:kG):Prop where
 D:Av K mg x st ps f fd
 ok:B8 P w K mg base RI k f fd ps sp
theorem vP.units65{k:Nat}{A:Around}(r:vP k A):A.units+65<mC:=by have:=r.un;lia
section
variable {X:Cx}{k:Nat}{f:Addr}{fd:kG}{ps:List Str}{sp:Sp}{x:Str}{p pos:Pos}{e:Expr}{es:List Expr}{t:TA}{st:Stmt}
theorem Vg(G:Fn X.prog X.w X.K X.mg X.base k x st ps sp f fd) (hr:vP k X.A) (ha:PA X (e::es) t) (hg:Gl X x:=by rfl) (hdb:(x == ("__debug__" : Str))=false:=by decide)
  (he:kx (e::es) X.env=(false,eval e X.env)::kx es X.env:=by rfl) (hpl:(lF pos (kx es X.env)).any (·.1)=false:=by rfl) :
  PE X (.Call (.Name x p) (e::es) [] pos) (Gj sp [] E0 t):=PP G.ok hr hg G.D.m G.D.F.kp G.D.b .nil WC ha hdb he hpl
end
section
variable (K:W.Frag)
def Jr:Sp:=λvs H Q _=>∃(a:Addr) (ns:List Int),vs=[.ref a]/\tu K H a (ns.map V.int)/\ns.length<=63/\∀H',Q (.bl true) H'
end
theorem qE{α:Type}{l:List α}{i:Nat}{x:α}(h:l[i]?=some x):l.take (i+1)=l.take i++[x]:=by
 rw[bZ,h];rfl
end Mr
namespace Xe
open PySem PySem.Spec PySem.W PyProof.Rows L2 Mr
abbrev YH(K:Frag) (C:Addr):Bool:=findIn K (.ref C) "__setattr__" == some (some (.builtin "object.__setattr__")) && findIn K (.ref C) "__getattribute__" == some (some (.builtin "BaseException.__getattribute__")) &&
 findIn K (.ref C) "__getattr__" == some none && findIn K (.ref C) "__class__" == some (some (.builtin "object.__class__"))
def Tw(K:Frag) (c:Str) (C:Addr) (bm:List Value):Bool:=match K.lookup C with
 |some ⟨.type "type", _,.cls cd,sl⟩=>(match sl.toList with
  | [_,_,_,_,some (.builtin n),_]=>cd.name == c && cd.mro == .ref C::bm && n == "ValueError.__new__" && !cd.hasDel && cd.hasDict && tailIn K WU bm
  |_=>false)
 |_=>false
structure XQ (K:Frag) (c:Str) (C M:Addr):Prop where
 nm:nsIn K ku c=some (some (.ref C))
 nmM:nsIn K ku "MapError" = some (some (.ref M))
 xc:Tw K c C (.ref M::WU)=true
 xm:Tw K "MapError" M WU=true
 lk:YH K C=true
def YV(K:Frag) (c:Str) (C:Addr):Prop:=nsIn K ku c=some (some (.ref C))/\((∃M,XQ K c C M)∨(c = "MapError" /\ Tw K "MapError" C WU=true))
def Yk(e C:Addr) (od:Option Addr):HO:=.ext λh=>∃o vs,h.get? e=some o/\o.cls = .ref C/\o.dict=od/\o.data = .fields vs
section
variable {X:Cx}
theorem Ov{kvs:List (oS×V)}{vs:List (oS×Value)}(r:KV kvs vs):∀{i:Nat}{p:oS×V},kvs[i]?=some p->∃u,vs[i]?=some (p.1,u)/\qc p.2 u:=by
 induction r with
 |nil=>intro i p h;simp at h
 | @cons a b _ _ r t ih =>
  intro i p h;cases i with
  |zero=>simp at h;subst h;exact⟨b.2,by simp[r.1],r.2⟩
  |succ i=>obtain⟨u,g1,g2⟩:=ih (by simpa using h);exact⟨u,by simpa using g1,g2⟩
end
end Xe
namespace Mr
open PySem PyProof.Rows L2
section
variable {X:Cx}
def Oz(_ j:Int):Prop:=0<j/\j.natAbs.log2<9000
theorem MW:Dd X (mM .FloorDiv) (rI Oz λi j=>.int (i / j)):=Vh λi j _ _ _ _ _ hc q=>by
 have h1:(0:Int)<j:=hc.1;exact floordiv_int (by lia) (by rw[gL i (by lia)];exact q) (.inl (PyProof.noPylong_of_log2 hc.2))
end
end Mr
namespace Mr
open PySem PySem.Calls PySem.Spec PyProof.Rows L2
section
variable {X:Cx}
def Kh:V->List V->Hp->VK->Prop:=λx vs H Q=>∃l xs i y,x = .ref l/\vs=[.int (i:Nat),y]/\H l=some (.lst xs)/\i<=xs.length/\xs.length<ko/\Q .non (qH H l (.lst (xs.take i++y::xs.drop i)))
theorem DZ:V8 X "list.insert" Kh:=by
 intro oq s σ H x vs v us Q I rx rv h;obtain⟨l,xs,i,y,rfl,rfl,hH,hi,hz,q⟩:=h;cases rx;obtain⟨u1,u2,rfl,r1,r2⟩:∃u1 u2,us=[u1,u2]/\qc (.int (i:Nat)) u1/\qc y u2:=by
  cases rv with
  |cons a b=>cases b with
   |cons c d=>cases d;exact⟨_,_,rfl,a,c⟩
 obtain⟨t,rfl⟩:=r1;obtain⟨z,its,n,r,hl,e⟩:=I.lstM hH;have hl':xs.length=its.length:=hl;have hz':its.length<ko:=by rw[←hl'];exact hz
 have hs:ko=16777216:=kN;have hfit:(!Builtin.List.listFitsIndex ((i:Nat):Int))=false:=by rw[fitsIndex_both (by lia) (by lia)];rfl
 have hf2:¬ (!Builtin.List.listFitsIndex ((i:Nat):Int))=true:=by rw[hfit];exact aF
 have hsz:its.toArray.size<=ko:=by rw[aB];exact bA hz'
 generalize hj:((i:Nat):Int)=j at hf2 ⊢;have hm:=AutoSeq1.list_insert_list_int_val_1 l its.toArray n j t u2 hf2 hsz;refine lS F.slot_list_insert ⟨_,e,rfl⟩ F.entry_list_insert (F.args_list_insert_3 _ _ _) hm ⟨e,?_⟩;refine⟨.non,_,I.lset (its':=its.take i++u2::its.drop i) hH e ?_ ?_ ?_,rfl,q⟩
 .subst hj;have h1:¬ ((i:Nat):Int)<0:=by lia
  have h2:min ((i:Nat):Int).toNat its.toArray.size=i:=by rw[br,aB];lia
  show (its.toArray.extract 0 (if ((i:Nat):Int)<0 then _ else min ((i:Nat):Int).toNat its.toArray.size)).push u2++its.toArray.extract (if ((i:Nat):Int)<0 then _ else min ((i:Nat):Int).toNat its.toArray.size)=_
  rw[pD h1,h2];apply Array.toList_inj.mp;simp only[aQ,cA,eQ,List.extract_eq_drop_take,dS,ie,aq,List.singleton_append,aB];rw[bE (l:=its.drop i) (by rw[aL];lia)]
 .exact (r.take i).append (.cons r2 (r.drop i))
 .rw [lAq,lTq,lCq,aL];lia
end
end Mr
namespace MrS
open PySem PySem.W PyProof.Rows
section
variable {prog:kq}{w:kr}{A:Around}{E:Value->Shared->Prop}{s:Shared}{Pk:kc->Prop}{lt:kc->kc->Bool}{T:String}{r d:Addr}{n:Nat}{P:Nat->Value->Prop}{OK:Heap->Prop}
theorem Gx{Q:List Value->Shared->Prop}(K:KdlSrc prog w T r d n P OK) (hh:A.handled=none) (hok:OK s.heap) (hn:n<=ko)
  (h:∀h' tk (acc:Array Value),(∀b o,s.heap.get? b=some o->h'.get? b=some o)->s.heap.objs.size<h'.objs.size->ItemsOf P acc n->Q acc.toList { s with heap:=h',toks:=tk }) :
  kf (ki prog w) A (collect (.ref r)) Q E s:=by
 unfold collect;refine jY (Y0 (kE Zb ?_));show kf _ _ (do again (.builtin "list.__iadd__" ⟨[←newList [],.ref r],[]⟩)) _ _ s
 refine jY (mE (jZ ⟨Code.quiet_builtin _ (by decide +kernel),kE entry_list_iadd' ?_⟩))
 show kf _ _ (Builtin.List.listExtendWith (.ref s.heap.objs.size) (.ref r) (.ref s.heap.objs.size)) _ _ { s with heap:=s.heap.push (kB "list" #[] 0) }
 have hlt:=K.there _ hok;have hS0:(s.heap.push (kB "list" #[] 0)).get? s.heap.objs.size=some (kB "list" #[] 0):=aC _ rfl;refine kdl_extend (A:=A) (R:=λr s'=>match r with
   | .ok (.ret v)=>kf (ki prog w) A (match v with
    | .ref a=>do
     let o ←load a
     match o.data with
     | .seq xs _=>pure xs.toList
     |_=>lz "internal:collect"
    |_=>lz "internal:collect") Q E s'
   | .ok _=>False
   | .error e=>E e s') (s:={ s with heap:=s.heap.push (kB "list" #[] 0) }) K hh (K.keep _ _ hok λb _ o e=>ae _ e) s.heap.objs.size (bM hlt.1) (bM hlt.2) (.ref s.heap.objs.size) 0 hS0 (λh' tk acc c hk hS hi=>?_) hn
 show kf (ki prog w) A (do
   let o ←load s.heap.objs.size
   match o.data with
   | .seq xs _=>pure xs.toList
   |_=>lz "internal:collect") Q E { s with heap:=h',toks:=tk }
 refine jY (wpAny_load hS ?_);exact jZ (h h' tk acc (λb o e=>hk b o (ay (ak e)) (ae _ e)) (ak hS) hi)
theorem Ir{Q:Value->Shared->Prop}(K:KdlSrc prog w T r d n P OK) (hh:A.handled=none) (hok:OK s.heap) (hn:n<=ko)
  (hC:∀(vs:List Value),vs.length=n->(∀j v,vs[j]?=some v->P j v)->∀s':Shared,(2<=vs.length->∀Q:kQ->Shared->Prop,Q lZ s'->kf (ki prog w) A.in1.in1 (Zd vs.toArray) Q E s')/\zw prog w A.in1.in1 s' lZ Pk lt/\∀v∈vs,Pk (v,v))
  (h:∀(vs out:List Value) (h':Heap) (p:Addr) (tk n':Nat),vs.length=n->(∀j v,vs[j]?=some v->P j v)->out.Perm vs->out.Pairwise (λx y=>lt (y,y) (x,x)=false)->(∀b o,s.heap.get? b=some o->h'.get? b=some o)->s.heap.objs.size<=p ->
   h'.get? p=some (kB "list" out.toArray n')->Q (.ref p) { s with heap:=h',toks:=tk }) :
  kf (ki prog w) A (call (.builtin "sorted") [.ref r]) Q E s:=by
 refine Calls.call_function_entry Zw Zk Zn (Zo _) ?_;unfold Builtin.«sorted»;refine jY (m:=checkCount "sorted" 1 1 _) (jZ ?_);refine jY (Gx K hh hok hn λh0 tk acc hk0 hsz0 hi=>?_)
 have hl:acc.toList.length=n:=by rw[au];exact hi.1
 have hP:∀j v,acc.toList[j]?=some v->P j v:=λj v e=>hi.2 j v (by rw[←ax];exact e)
 have hs:acc.toList.length<=ko:=by rw[hl];exact hn
 generalize acc.toList=vs at hl hP hs;refine jY (mE ?_ hs);have hoL:(h0.push (kB "list" vs.toArray 0)).get? h0.objs.size=some (kB "list" vs.toArray 0):=aC _ rfl;show kf _ _ _ _ _ { s with heap:=h0.push (kB "list" vs.toArray 0),toks:=tk }
 have hsz:s.heap.objs.size<=h0.objs.size:=bA hsz0;have k1:∀b o,s.heap.get? b=some o->(h0.push (kB "list" vs.toArray 0)).get? b=some o:=λb o e=>ae _ (hk0 b o e)
 have hlt:∀b o,s.heap.get? b=some o->b≠h0.objs.size:=λb o e=>ay (ak (hk0 b o e))
 generalize h0.push (kB "list" vs.toArray 0)=G at hoL k1 ⊢
 clear hsz0
 generalize h0.objs.size=p at hoL hsz hlt ⊢;have k2:∀b o,s.heap.get? b=some o->(tL G p vs).get? b=some o:=λb o e=>by
  refine ae _ (ae _ ?_);rw[cL _ _ _ _ (hlt b o e)];exact k1 b o e
 obtain⟨q1,q2,q3⟩:=hC vs hl hP { s with heap:=tL G p vs,toks:=tk }
 refine jY (kA (kF Y2 ⟨_,hoL,rfl⟩ oa (xp (s:={ s with heap:=G,toks:=tk }) (Pk:=Pk) (lt:=lt) hoL hs q1 q2 (λx hx=>?_) λxs a1 a2=>⟨_,rfl,?_⟩) (Y5 _)))
 .obtain ⟨m1,m2⟩:=vI hx;have:x=(x.1,x.1):=jw rfl m2;rw[this];exact q3 _ m1
 .obtain ⟨v1,v2⟩:=zd a1 a2;obtain⟨e1,ho1⟩:=EJ vs hoL;obtain⟨n1,g1⟩:=Ez (xs.map (·.2)) ho1;refine jZ ⟨_,rfl,h vs _ (mO G p vs (xs.map (·.2))) p tk n1 hl hP v1 v2 (λb o e=>?_) hsz ?_⟩
  .unfold mO;rw[cL _ _ _ _ (hlt b o e)];exact k2 b o e
  .rw [show (xs.map (·.2)).toList.toArray=xs.map (·.2) from gq]
   exact g1
end
end MrS
namespace Mr
open PySem PySem.W PySem.Spec PyProof.Rows L2
section
variable {X:Cx}
theorem FF:∀{us:List Value}{ns:List Int},us.length=ns.length->(∀(j:Nat) (v:Value) (n:Int),us[j]?=some v->ns[j]?=some n->∃t,v=fK n t)->kH us ns
 | [],[],_,_=>.nil
 | [],_::_,h,_=>by simp at h
 |_::_,[],h,_=>by simp at h
 |u::us,n::ns,h,g=>by
  obtain⟨t,rfl⟩:=g 0 u n rfl rfl;exact .cons n t (FF (by simpa using h) λj v m e1 e2=>g (j+1) v m (by simpa using e1) (by simpa using e2))
theorem Rg:∀{kvs:List (oS×V)}{ws:List (oS×Value)},KV kvs ws->kvs.map (·.1)=ws.map (·.1):=λ{kvs ws} r=>by
 induction r with
 |nil=>rfl
 |cons a b ih=>rw[ao,ao,ih,a.1]
theorem FB(hc:X.calm=true):zV X (.builtin "sorted") (λxs H Q=>∃(a:Addr) (kvs:List (oS×V)) (ns:List Int),xs=[.ref a]/\H a=some (.dK kvs)/\kvs.map (·.1)=ns.map aG/\∀p,H p=none->Q (.ref p) (qH H p (.lst ((qz ns).map V.int)))):=by
 intro oq s σ H xs us Q I r h;obtain⟨a,kvs,ns,rfl,ha,hk,q⟩:=h;obtain⟨u,rfl,ru⟩:=zh r;cases ru;obtain⟨hz,sa,vs,kv,d⟩:=(show qW X.prog X.w H s.heap a (.dK kvs) from I.hok a _ ha)
 obtain⟨ep,da⟩:=d.dictAt;have hl:=Paired.length kv;have hlen:ns.length=vs.length:=by
  have:=congrArg bD hk;rw[lMq,lMq]at this;rw[←this,hl]
 have hkv:vs.map (·.1)=ns.map aG:=by rw[←Rg kv,hk]
 have hI:∀us:List Value,us.length=vs.length->(∀(j:Nat) (v:Value),us[j]?=some v->∃k x,vs[j]?=some (k,x)/\(qA X.prog X.w).is k v=true)->kH us ns:=λus h1 h2=>FF (by rw[h1,hlen]) λj v m e1 e2=>by
  obtain⟨k,x,g1,g2⟩:=h2 j v e1;have e3:(vs.map (·.1))[j]?=some k:=by rw[gMq,g1];rfl
  rw[hkv,gMq,e2]at e3;have e4:(aG m:oS)=k:=by simpa using e3
  subst e4;rcases qK (k:=aG m) (v:=v) g2 with ⟨i,t,e5,e6⟩|⟨z,t,e5,_⟩
  .cases e5;exact⟨t,e6⟩
  .cases e5
 refine MrS.Ir (kdl_dict (knd:=qA X.prog X.w) (d:=a) (kvs:=vs) (ep:=ep) sa) (I.ok.hd hc) da (by rw[←hl];exact hz) (Pk:=λx:kc=>∃a t,x.1=fK a t) (lt:=WQ) (λus h1 h2 s'=>⟨λh3 Q q=>?_,To _ _ _ _,λv m=>(EX (hI us h1 h2)).2 v m⟩) λus out h' p tk n' h1 h2 o1 o2 o3 op o4=>?_
 .have hi:=hI us h1 h2
  match us,hi,h3 with
  | [],_,h3=>simp at h3
  | [_],_,h3=>simp at h3
  |v₁::v₂::uJ,hi,_ =>
   rw[Zm hi];exact jZ q
 .obtain ⟨en,hv⟩:=EX (hI us h1 h2);have ho:∀v∈out,∃a t,v = .int a t:=λv m=>hv v (o1.mem_iff.mp m)
  have e:out.map intOf=qz ns:=by
   refine zL (by rw[en];exact o1.map _) ?_
   rw[bz];refine o2.imp_of_mem λ{x y} mx my h=>?_
   obtain⟨a,t,rfl⟩:=ho x mx;obtain⟨b,u,rfl⟩:=ho y my;have h':¬ b<a:=of_decide_eq_false h;show a<=b;lia
  have hp:H p=none:=I.hok.fresh op;refine⟨.ref p,_,I.laid (t':=tk) o3 op (show qW X.prog X.w _ h' _ (.lst ((qz ns).map V.int)) from ⟨?_,out,n',?_,o4⟩),rfl,q _ hp⟩
  .rw [lMq,(pK ns).length_eq,hlen,←hl];exact hz
  .rw [←e];exact vals_ints ho
end
end Mr
namespace Z
open PySem L2 Mr
abbrev St:=L2.St
inductive D where
 |non|bl (b:Bool)|int (i:Int)|str (x:Str)|ty (n:String)|list (xs:List D)|tup (xs:List D)|dict (kvs:List (oS×D))|scr (ns:List Int)|exc (c:Str) (fs:List (Str×Int))|cls (c:Str)|fd (kvs:List (oS×D))|ins (c:Str) (fs:List (Str×D))
inductive rD (K:W.Frag) (H:Hp):D->V->Prop
 |non:rD K H .non .non
 |bl {b:Bool}:rD K H (.bl b) (.bl b)
 |int {i:Int}:rD K H (.int i) (.int i)
 |str {x:Str}:rD K H (.str x) (.str x)
 |ty {n:String}:rD K H (.ty n) (.ty n)
 |list {p:Addr}{vs:List V}{ds:List D}(h:H p=some (.lst vs)) (l:ds.length=vs.length) (e:∀(i:Nat) (d:D) (v:V),ds[i]?=some d->vs[i]?=some v->rD K H d v):rD K H (.list ds) (.ref p)
 |tup {p:Addr}{vs:List V}{ds:List D}(h:H p=some (.tup vs)) (l:ds.length=vs.length) (e:∀(i:Nat) (d:D) (v:V),ds[i]?=some d->vs[i]?=some v->rD K H d v):rD K H (.tup ds) (.ref p)
 |dict {p:Addr}{kvs:List (oS×V)}{ds:List (oS×D)}(h:H p=some (.dK kvs)) (l:ds.map (·.1)=kvs.map (·.1)) (e:∀(i:Nat) (d:oS×D) (v:oS×V),ds[i]?=some d->kvs[i]?=some v->rD K H d.2 v.2):rD K H (.dict ds) (.ref p)
 |scr {p:Addr}{ns:List Int}(h:tu K H p (ns.map V.int)):rD K H (.scr ns) (.ref p)
 |exc {c:Str}{fs:List (Str×Int)}{e C M dx:Addr}(rf:Xe.XQ K c C M) (nf:∀p∈fs,W.findIn K (.ref C) p.1=some none) (h:H e=some (Xe.Yk e C (some dx))) (hx:H dx=some (.xd (fs.map λp=>(p.1,V.int p.2)))):rD K H (.exc c fs) (.ref e)
 |exc0 {c:Str}{e C M:Addr}(rf:Xe.XQ K c C M) (h:H e=some (Xe.Yk e C none)):rD K H (.exc c []) (.ref e)
 |cls {c:Str}{C:Addr}(h:Xe.YV K c C):rD K H (.cls c) (.ref C)
 |fd {p:Addr}{o:Obj}{kvs:List (oS×V)}{ds:List (oS×D)}(h:H p=some (.frz o (.dK kvs))) (l:ds.map (·.1)=kvs.map (·.1)) (e:∀(i:Nat) (d:oS×D) (v:oS×V),ds[i]?=some d->kvs[i]?=some v->rD K H d.2 v.2):rD K H (.fd ds) (.ref p)
 |ins {c:Str}{a C dx:Addr}{gs:List (Str×V)}{fs:List (Str×D)}(rf:W.nsIn K ku c=some (some (.ref C))) (h:H a=some (.ins C dx gs)) (l:fs.map (·.1)=gs.map (·.1)) (e:∀(i:Nat) (d:Str×D) (v:Str×V),fs[i]?=some d->gs[i]?=some v->rD K H d.2 v.2):rD K H (.ins c fs) (.ref a)
def qq(K:W.Frag) (H:Hp) (ds:List D) (vs:List V):Prop:=ds.length=vs.length/\∀(i:Nat) (d:D) (v:V),ds[i]?=some d->vs[i]?=some v->rD K H d v
def tY(K:W.Frag) (H:Hp) (ds:List (oS×D)) (kvs:List (oS×V)):Prop:=ds.map (·.1)=kvs.map (·.1)/\∀(i:Nat) (d:oS×D) (v:oS×V),ds[i]?=some d->kvs[i]?=some v->rD K H d.2 v.2
section
variable {K:W.Frag}{H H':Hp}
theorem rD.mono{d:D}{v:V}(h:rD K H d v) (s:qk H H'):rD K H' d v:=by
 induction h with
 |non=>exact .non
 |bl=>exact .bl
 |int=>exact .int
 |str=>exact .str
 |ty=>exact .ty
 |list h l _ ih=>exact .list (s _ _ h) l ih
 |tup h l _ ih=>exact .tup (s _ _ h) l ih
 |dict h l _ ih=>exact .dict (s _ _ h) l ih
 |scr h=>exact .scr (s.seq h)
 |exc rf nf h hx=>exact .exc rf nf (s _ _ h) (s _ _ hx)
 |exc0 rf h=>exact .exc0 rf (s _ _ h)
 |cls h=>exact .cls h
 |fd h l _ ih=>exact .fd (s _ _ h) l ih
 |ins rf h l _ ih=>exact .ins rf (s _ _ h) l ih
theorem qq.mono{ds:List D}{vs:List V}(h:qq K H ds vs) (s:qk H H'):qq K H' ds vs:=⟨h.1,λi d v a b=>(h.2 i d v a b).mono s⟩
theorem tY.mono{ds:List (oS×D)}{vs:List (oS×V)}(h:tY K H ds vs) (s:qk H H'):tY K H' ds vs:=⟨h.1,λi d v a b=>(h.2 i d v a b).mono s⟩
theorem qq.nil:qq K H [] []:=⟨rfl,λi d v a=>by simp at a⟩
theorem qq.cons{d:D}{v:V}{ds:List D}{vs:List V}(h:rD K H d v) (t:qq K H ds vs):qq K H (d::ds) (v::vs):=⟨by simp[t.1],λi e w a b=>by
 cases i with
 |zero =>
  simp at a b;subst a b;exact h
 |succ i=>exact t.2 i e w (by simpa using a) (by simpa using b)⟩
theorem qq.cons_iff{d:D}{v:V}{ds:List D}{vs:List V}:qq K H (d::ds) (v::vs)↔rD K H d v/\qq K H ds vs :=
 ⟨λh=>⟨h.2 0 d v rfl rfl,by have:=h.1;simpa using this,λi e w a b=>h.2 (i+1) e w (by simpa using a) (by simpa using b)⟩,λh=>.cons h.1 h.2⟩
theorem qq.nil_inv{vs:List V}(h:qq K H [] vs):vs=[]:=by
 have:=h.1;cases vs with
 |nil=>rfl
 |cons _ _=>simp at this
theorem qq.cons_inv{d:D}{ds:List D}{vs:List V}(h:qq K H (d::ds) vs):∃v ws,vs=v::ws/\rD K H d v/\qq K H ds ws:=by
 cases vs with
 |nil=>have:=h.1;simp at this
 |cons v ws=>exact⟨v,ws,rfl,qq.cons_iff.mp h⟩
theorem qq.append:∀{ds es:List D}{vs ws:List V},qq K H ds vs->qq K H es ws->qq K H (ds++es) (vs++ws)
 | [],es,vs,ws,h,g=>by rw[h.nil_inv];exact g
 |d::ds,es,vs,ws,h,g=>by
  obtain⟨v,us,rfl,h1,h2⟩:=h.cons_inv;exact .cons h1 (qq.append h2 g)
theorem qq.take{ds:List D}{vs:List V}(h:qq K H ds vs) (n:Nat):qq K H (ds.take n) (vs.take n):=⟨by rw[lTq,lTq,h.1],λi d v a b=>by
 rw[jb]at a b;split at a
 .rename_i hi;rw[pe hi]at b;exact h.2 i d v a b
 .cases a⟩
theorem qq.drop{ds:List D}{vs:List V}(h:qq K H ds vs) (n:Nat):qq K H (ds.drop n) (vs.drop n):=⟨by rw[aL,aL,h.1],λi d v a b=>by
 rw[cT]at a b;exact h.2 _ d v a b⟩
theorem qq.get{ds:List D}{vs:List V}(h:qq K H ds vs) {i:Nat}{d:D}(e:ds[i]?=some d):∃v,vs[i]?=some v/\rD K H d v:=by
 have hi:i<ds.length:=(gSq.mp e).1;have hj:i<vs.length:=h.1 ▸ hi;exact⟨vs[i],gEg hj,h.2 i d _ e (gEg hj)⟩
theorem qq.get'{ds:List D}{vs:List V}(h:qq K H ds vs) {i:Nat}{v:V}(e:vs[i]?=some v):∃d,ds[i]?=some d/\rD K H d v:=by
 have hi:i<vs.length:=(gSq.mp e).1;have hj:i<ds.length:=h.1.symm ▸ hi;exact⟨ds[i],gEg hj,h.2 i _ v (gEg hj) e⟩
theorem qq.set{ds:List D}{vs:List V}{d:D}{v:V}(h:qq K H ds vs) (r:rD K H d v) (j:Nat):qq K H (ds.set j d) (vs.set j v):=⟨by simp[h.1],λi e w a b=>by
 rw[bI]at a b
 by_cases hij:j=i
 .subst hij;rw[pe rfl]at a b;split at a
  .rename_i hj;rw[pe (h.1 ▸ hj)]at b;cases a;cases b;exact r
  .cases a
 .rw [pD hij]at a b;exact h.2 i e w a b⟩
theorem rD.list_inv{ds:List D}{v:V}(h:rD K H (.list ds) v):∃p vs,v = .ref p/\H p=some (.lst vs)/\qq K H ds vs:=by
 cases h with
 |list h l e=>exact⟨_,_,rfl,h,l,e⟩
theorem rD.tup_inv{ds:List D}{v:V}(h:rD K H (.tup ds) v):∃p vs,v = .ref p/\H p=some (.tup vs)/\qq K H ds vs:=by
 cases h with
 |tup h l e=>exact⟨_,_,rfl,h,l,e⟩
theorem rD.dict_inv{ds:List (oS×D)}{v:V}(h:rD K H (.dict ds) v):∃p kvs,v = .ref p/\H p=some (.dK kvs)/\tY K H ds kvs:=by
 cases h with
 |dict h l e=>exact⟨_,_,rfl,h,l,e⟩
theorem rD.mk_list{ds:List D}{p:Addr}{vs:List V}(h:H p=some (.lst vs)) (r:qq K H ds vs):rD K H (.list ds) (.ref p):=.list h r.1 r.2
theorem rD.mk_tup{ds:List D}{p:Addr}{vs:List V}(h:H p=some (.tup vs)) (r:qq K H ds vs):rD K H (.tup ds) (.ref p):=.tup h r.1 r.2
theorem rD.mk_dict{ds:List (oS×D)}{p:Addr}{vs:List (oS×V)}(h:H p=some (.dK vs)) (r:tY K H ds vs):rD K H (.dict ds) (.ref p):=.dict h r.1 r.2
end
def D.scal:D->Bool
 | .non=>true
 | .bl _=>true
 | .int _=>true
 | .str _=>true
 | .ty _=>true
 |_=>false
theorem rD.scal{K:W.Frag}{H H':Hp}{d:D}{v:V}(h:rD K H d v) (s:d.scal=true):rD K H' d v:=by
 cases h with
 |non=>exact .non
 |bl=>exact .bl
 |int=>exact .int
 |str=>exact .str
 |ty=>exact .ty
 |_=>cases s
inductive AV where
 |sh (d:D)|ow (avs:List AV)|owd (kvs:List (oS×D))|owl (kvs:List (oS×List Int))
mutual
def oK:AV->D
 | .sh d=>d
 | .ow avs=>.list (C9 avs)
 | .owd kvs=>.dict kvs
 | .owl kvs=>.dict (kvs.map λx=>(x.1,.list (x.2.map .int)))
def C9:List AV->List D
 | []=>[]
 |a::as=>oK a::C9 as
end
theorem DT:∀avs:List AV,C9 avs=avs.map oK
 | []=>by simp[C9]
 |a::as=>by simp[C9,DT as]
@[simp] theorem sr (d:D):oK (.sh d)=d:=by simp[oK]
@[simp] theorem tG (avs:List AV):oK (.ow avs) = .list (avs.map oK):=by simp[oK,DT]
@[simp] theorem BI (kvs:List (oS×D)):oK (.owd kvs) = .dict kvs:=by simp[oK]
theorem D7(kvs:List (oS×List Int)):oK (.owl kvs) = .dict (kvs.map λx=>(x.1,.list (x.2.map .int))):=by simp[oK]
inductive pI (K:W.Frag) (Hf H:Hp):AV->V->List Addr->Prop
 |sh {d:D}{v:V}(r:rD K Hf d v):pI K Hf H (.sh d) v []
 |ow {p:Addr}{vs:List V}{avs:List AV}{Fs:List (List Addr)}(h:H p=some (.lst vs)) (n:Hf p=none) (l:avs.length=vs.length) (lf:avs.length=Fs.length)
   (e:∀(i:Nat) (a:AV) (v:V) (F:List Addr),avs[i]?=some a->vs[i]?=some v->Fs[i]?=some F->pI K Hf H a v F):pI K Hf H (.ow avs) (.ref p) (p::Fs.flatten)
 |owd {p:Addr}{kvs:List (oS×V)}{ds:List (oS×D)}(h:H p=some (.dK kvs)) (n:Hf p=none) (r:tY K Hf ds kvs):pI K Hf H (.owd ds) (.ref p) [p]
 |owl {p:Addr}{kvs:List (oS×List Int)}{qs:List Addr}(h:H p=some (.dK (bB (λx q=>(x.1,V.ref q)) kvs qs))) (n:Hf p=none) (l:kvs.length=qs.length) (e:∀(i:Nat) (q:Addr) (x:oS×List Int),qs[i]?=some q->kvs[i]?=some x->H q=some (.lst (x.2.map V.int))/\Hf q=none):pI K Hf H (.owl kvs) (.ref p) (p::qs)
theorem Jk{K:W.Frag}{H:Hp}{p:Addr}{kvs:List (oS×List Int)}{qs:List Addr}(h:H p=some (.dK (bB (λx q=>(x.1,V.ref q)) kvs qs))) (l:kvs.length=qs.length) (e:∀(i:Nat) (q:Addr) (x:oS×List Int),qs[i]?=some q->kvs[i]?=some x->H q=some (.lst (x.2.map V.int))):rD K H (.dict (kvs.map λx=>(x.1,.list (x.2.map .int)))) (.ref p):=by
 refine .dict h ?_ λi d v h1 h2=>?_
 .refine fM λi=>?_
  rw[gMq,gMq,gMq,cQ]
  by_cases c:i<kvs.length
  .rw [gEg c,gEg (l ▸ c)];rfl
  .rw [bO (hW c)];rfl
 .rw [gMq]at h1;rw[cQ]at h2;cases hk:kvs[i]? with
  |none=>rw[hk]at h1;cases h1
  |some x =>
   cases hq:qs[i]? with
   |none=>rw[hk,hq]at h2;cases h2
   |some q =>
    rw[hk]at h1 h2;rw[hq]at h2;cases h1;cases h2;refine .list (e i q x hq hk) (by rw[lMq,lMq]) λj d v e1 e2=>?_
    rw[gMq]at e1 e2;cases hj:x.2[j]? with
    |none=>rw[hj]at e1;cases e1
    |some m =>
     rw[hj]at e1 e2;cases e1;cases e2;exact .int
theorem Uj{kvs:List (oS×List Int)}{qs:List Addr}(l:kvs.length=qs.length) {q:Addr}(hq:q∈qs):∃(i:Nat) (x:oS×List Int),qs[i]?=some q/\kvs[i]?=some x:=by
 obtain⟨i,hi⟩:=aH.mp hq;have hl:=(gSq.mp hi).1;exact⟨i,_,hi,gEg (l ▸ hl)⟩
section
variable {K:W.Frag}{Hf Hf' H H':Hp}{av:AV}{v:V}{F:List Addr}
theorem pI.owned(h:pI K Hf H av v F):∀q∈F,H q≠none/\Hf q=none:=by
 induction h with
 |sh _=>intro q hq;cases hq
 | @ow p vs avs Fs h n l lf e ih =>
  intro q hq;rcases ag.mp hq with rfl|hq
  .exact ⟨by rw[h];simp,n⟩
  .obtain ⟨F,hF,hq⟩:=mFq.mp hq;obtain⟨i,hi,rfl⟩:=cX.mp hF;exact ih i avs[i] vs[i] Fs[i] (by simp) (by simp) (by simp) q hq
 |owd h n r =>
  intro q hq;have:=mSq.mp hq;subst this;exact⟨by rw[h];simp,n⟩
 |owl h n l e =>
  intro q hq;rcases ag.mp hq with z|z
  .rw [z];exact⟨by rw[h];simp,n⟩
  .obtain ⟨i,x,h1,h2⟩:=Uj l z;obtain⟨e1,e2⟩:=e i q x h1 h2;exact⟨by rw[e1];simp,e2⟩
theorem pI.keep(h:pI K Hf H av v F) (s:qk Hf Hf') (hk:∀q∈F,H' q=H q) (hn:∀q∈F,Hf' q=none):pI K Hf' H' av v F:=by
 induction h with
 |sh r=>exact .sh (r.mono s)
 | @ow p vs avs Fs h n l lf e ih =>
  refine .ow (by rw[hk p (by simp)];exact h) (hn p (by simp)) l lf λi a v F h1 h2 h3=>ih i a v F h1 h2 h3 (λq hq=>hk q ?_) λq hq=>hn q ?_
  all_goals exact mCo _ (mFq.mpr ⟨F,mGq h3,hq⟩)
 |owd h n r=>exact .owd (by rw[hk _ (by simp)];exact h) (hn _ (by simp)) (r.mono s)
 | @owl p kvs qs h n l e =>
  refine .owl (by rw[hk _ (aj ..)];exact h) (hn _ (aj ..)) l λi q x h1 h2=>?_
  have m:q∈p::qs:=mCo _ (mGq h1);exact⟨by rw[hk q m];exact(e i q x h1 h2).1,hn q m⟩
theorem pI.rep(h:pI K Hf H av v F) (s:qk Hf H):rD K H (oK av) v:=by
 induction h with
 |sh r=>rw[sr];exact r.mono s
 | @ow p vs avs Fs h n l lf e ih =>
  rw[tG];refine .list h (by simp[l]) λi d v h1 h2=>?_
  rw[gMq]at h1;cases ea:avs[i]? with
  |none=>rw[ea]at h1;cases h1
  |some a =>
   rw[ea]at h1;cases h1;have hi:i<Fs.length:=lf ▸ (gSq.mp ea).1;exact ih i a v Fs[i] ea h2 (gEg hi)
 |owd h n r=>rw[BI];exact .mk_dict h (r.mono s)
 |owl h n l e=>rw[D7];exact Jk h l λi q x h1 h2=>(e i q x h1 h2).1
def frz(Hf H:Hp) (F:List Addr):Hp:=λb=>if b∈F then H b else Hf b
theorem za{b:Addr}(h:b∈F):frz Hf H F b=H b:=pe h
theorem tJ{b:Addr}(h:b∉F):frz Hf H F b=Hf b:=pD h
theorem rA(h:∀q∈F,Hf q=none):qk Hf (frz Hf H F):=λb o e=>by
 rw[tJ λm=>by rw[h b m]at e;cases e]
 exact e
theorem PR(s:qk Hf H):qk (frz Hf H F) H:=λb o e=>by
 by_cases m:b∈F
 .rw [za m]at e;exact e
 .rw [tJ m]at e;exact s b o e
theorem pI.frozen(h:pI K Hf H av v F) (s:qk Hf Hf') (hk:∀q∈F,Hf' q=H q):rD K Hf' (oK av) v:=by
 induction h with
 |sh r=>rw[sr];exact r.mono s
 | @ow p vs avs Fs h n l lf e ih =>
  rw[tG];refine .list (by rw[hk p (by simp)];exact h) (by simp[l]) λi d v h1 h2=>?_
  rw[gMq]at h1;cases ea:avs[i]? with
  |none=>rw[ea]at h1;cases h1
  |some a =>
   rw[ea]at h1;cases h1;have hi:i<Fs.length:=lf ▸ (gSq.mp ea).1;exact ih i a v Fs[i] ea h2 (gEg hi) λq hq=>hk q (mCo _ (mFq.mpr ⟨Fs[i],gRq hi,hq⟩))
 |owd h n r=>rw[BI];exact .mk_dict (by rw[hk _ (by simp)];exact h) (r.mono s)
 |owl h n l e=>rw[D7];exact Jk (by rw[hk _ (aj ..)];exact h) l λi q x h1 h2=>by rw[hk q (mCo _ (mGq h1))];exact(e i q x h1 h2).1
end
abbrev AS:=List (Option AV)
structure qh (K:W.Frag) (H₀ Hf₀ Hf:Hp) (S:AS) (σ:St) (H:Hp) (Fs:List (List Addr)):Prop where
 len:S.length=σ.length
 lenF:Fs.length=S.length
 rep:∀(i:Nat) (av:AV),S[i]?=some (some av)->∃v F,σ[i]?=some (some v)/\Fs[i]?=some F/\pI K Hf H av v F
 emp:∀i:Nat,S[i]?=some none->Fs[i]?=some []
 nd:Fs.flatten.Nodup
 fresh:∀p∈Fs.flatten,H₀ p=none
 sub:qk Hf H
 fr:qk H₀ H
 lim:∀b,Hf₀ b=none->H₀ b≠none->Hf b=none
 sf:qk Hf₀ Hf
structure zm (Hf H:Hp) (Fs:List (List Addr)) (Hf' H':Hp) (Fs':List (List Addr)):Prop where
 sf:qk Hf Hf'
 sh:qk H H'
 own:∀p∈Fs'.flatten,p∈Fs.flatten
 gr:∀b,Hf b=none->Hf' b≠none->H b=none∨b∈Fs.flatten
theorem zm.refl{Hf H:Hp}{Fs:List (List Addr)}:zm Hf H Fs Hf H Fs:=⟨.refl _,.refl _,λ_ h=>h,λb h g=>absurd h g⟩
theorem Qe{H H':Hp}(s:qk H H') {b:Addr}(h:H b≠none):H' b≠none:=by
 cases e:H b with
 |none=>exact absurd e h
 |some o=>rw[s b o e];simp
theorem zm.trans{Hf H Hf1 H1 Hf2 H2:Hp}{Fs Fs1 Fs2:List (List Addr)}(a:zm Hf H Fs Hf1 H1 Fs1) (b:zm Hf1 H1 Fs1 Hf2 H2 Fs2):zm Hf H Fs Hf2 H2 Fs2 :=
 ⟨a.sf.trans b.sf,a.sh.trans b.sh,λp h=>a.own p (b.own p h),λc h g=>by
  by_cases e:Hf1 c=none
  .rcases b.gr c e g with q|q
   .exact .inl (a.sh.free q)
   .exact .inr (a.own c q)
  .exact a.gr c h e⟩
section
variable {K:W.Frag}{H₀ Hf₀ Hf Hf' H H':Hp}{S:AS}{σ:St}{Fs Fs':List (List Addr)}
theorem JW{b:Addr}(s:qk H H') (h:H b≠none):H' b=H b:=by
 cases e:H b with
 |none=>exact absurd e h
 |some o=>exact s b o e
theorem qh.mem(R:qh K H₀ Hf₀ Hf S σ H Fs) {q:Addr}(h:q∈Fs.flatten):H q≠none/\Hf q=none:=by
 obtain⟨F,hF,hq⟩:=mFq.mp h;obtain⟨i,hi,rfl⟩:=cX.mp hF;have hiS:i<S.length:=R.lenF ▸ hi;cases e:S[i] with
 |none =>
  have:=R.emp i (by rw[gEg hiS,e])
  rw[gEg hi]at this;rw[aJ.inj this]at hq;cases hq
 |some av =>
  obtain⟨v,F,_,e2,r⟩:=R.rep i av (by rw[gEg hiS,e])
  rw[gEg hi]at e2;rw[aJ.inj e2]at hq;exact r.owned q hq
theorem qh.more(R:qh K H₀ Hf₀ Hf S σ H Fs) (s:qk H H') (sf:qk Hf Hf') (sub:qk Hf' H') (hn:∀q∈Fs.flatten,Hf' q=none) (lim:∀b,Hf₀ b=none->H₀ b≠none->Hf' b=none):qh K H₀ Hf₀ Hf' S σ H' Fs where
 len:=R.len
 lenF:=R.lenF
 rep:=λi av e=>by
  obtain⟨v,F,e1,e2,r⟩:=R.rep i av e;refine⟨v,F,e1,e2,r.keep sf (λq hq=>JW s (r.owned q hq).1) λq hq=>hn q (mFq.mpr ⟨F,mGq e2,hq⟩)⟩
 emp:=R.emp
 nd:=R.nd
 fresh:=R.fresh
 sub:=sub
 fr:=R.fr.trans s
 lim:=lim
 sf:=R.sf.trans sf
theorem qh.laid(R:qh K H₀ Hf₀ Hf S σ H Fs) (s:qk H H'):qh K H₀ Hf₀ Hf S σ H' Fs:=R.more s (.refl _) (R.sub.trans s) (λq h=>(R.mem h).2) R.lim
theorem sQ{F:List Addr}{i:Nat}{p:Addr}(h:p∈(Fs.set i F).flatten):p∈F∨p∈Fs.flatten:=by
 obtain⟨G,hG,hp⟩:=mFq.mp h;rcases gR hG with q|q
 .exact .inr (mFq.mpr ⟨G,q,hp⟩)
 .subst q;exact .inl hp
theorem sj:∀{Fs:List (List Addr)}{F:List Addr}(i:Nat),Fs.flatten.Nodup->F.Nodup->(∀p∈F,p∉Fs.flatten)->(Fs.set i F).flatten.Nodup
 | [],F,i,h,_,_=>by simp
 |G::Gs,F,0,h,hF,hd=>by
  rw[eC,fCq,nAq];rw[fCq,nAq]at h;refine⟨hF,h.2.1,λa ha b hb e=>hd a ha ?_⟩
  rw[fCq];exact ar _ (e ▸ hb)
 |G::Gs,F,i+1,h,hF,hd=>by
  rw[eD,fCq,nAq];rw[fCq,nAq]at h;refine⟨h.1,sj i h.2.1 hF λp hp m=>hd p hp (by rw[fCq];exact ar _ m),λa ha b hb e=>?_⟩
  rcases sQ hb with q|q
  .exact hd b q (by rw[fCq];exact az _ (e ▸ ha))
  .exact h.2.2 a ha b q e
theorem qh.set(R:qh K H₀ Hf₀ Hf S σ H Fs) {av:AV}{v:V}{F:List Addr}(i:Nat) (r:pI K Hf H av v F) (nd:F.Nodup) (hf:∀q∈F,H₀ q=none/\q∉Fs.flatten) :
  qh K H₀ Hf₀ Hf (S.set i (some av)) (σ.set i (some v)) H (Fs.set i F) where
 len:=by simp[R.len]
 lenF:=by simp[R.lenF]
 rep:=λj a e=>by
  rw[bI]at e
  by_cases hij:i=j
  .subst hij;rw[pe rfl]at e;split at e
   .rename_i hi;cases e;exact⟨v,F,by rw[aZ (R.len ▸ hi)],by rw[aZ (R.lenF.symm ▸ hi)],r⟩
   .cases e
  .rw [pD hij]at e;obtain⟨w,G,e1,e2,q⟩:=R.rep j a e;exact⟨w,G,by rw[aX hij];exact e1,by rw[aX hij];exact e2,q⟩
 emp:=λj e=>by
  rw[bI]at e
  by_cases hij:i=j
  .subst hij;rw[pe rfl]at e;split at e <;> cases e
  .rw [pD hij]at e;rw[aX hij];exact R.emp j e
 nd:=sj i R.nd nd λp hp=>(hf p hp).2
 fresh:=λp hp=>by
  rcases sQ hp with q|q
  .exact (hf p q).1
  .exact R.fresh p q
 sub:=R.sub
 fr:=R.fr
 lim:=R.lim
 sf:=R.sf
theorem qR{i:Nat}{p:Addr}(h:p∈(Fs.set i []).flatten):p∈Fs.flatten:=by
 rcases sQ h with q|q
 .cases q
 .exact q
theorem uX:∀{Fs:List (List Addr)}{F:List Addr}{i:Nat}{p:Addr},Fs.flatten.Nodup->Fs[i]?=some F->p∈F->p∉(Fs.set i []).flatten
 | [],F,i,p,_,e,_,_=>by simp at e
 |G::Gs,F,0,p,h,e,hp,m=>by
  simp at e;subst e;rw[eC,fCq,eF]at m;rw[fCq,nAq]at h;exact h.2.2 p hp p m rfl
 |G::Gs,F,i+1,p,h,e,hp,m=>by
  rw[eD,fCq]at m;rw[fCq,nAq]at h;have e':Gs[i]?=some F:=by simpa using e
  rcases mAq.mp m with q|q
  .exact h.2.2 p q p (mFq.mpr ⟨F,mGq e',hp⟩) rfl
  .exact uX h.2.1 e' hp q
theorem qh.move(R:qh K H₀ Hf₀ Hf S σ H Fs) {i:Nat}{av:AV}(e:S[i]?=some (some av)):∃v F,σ[i]?=some (some v)/\Fs[i]?=some F/\pI K Hf H av v F/\F.Nodup/\(∀q∈F,H₀ q=none/\q∉(Fs.set i []).flatten) /\
  qh K H₀ Hf₀ Hf (S.set i none) σ H (Fs.set i []):=by
 obtain⟨v,F,e1,e2,r⟩:=R.rep i av e;have hin:∀q∈F,q∈Fs.flatten:=λq hq=>mFq.mpr ⟨F,mGq e2,hq⟩
 refine⟨v,F,e1,e2,r,cg.sublist (aD (mGq e2)) R.nd,λq hq=>⟨R.fresh q (hin q hq),uX R.nd e2 hq⟩,?_⟩
 refine⟨by simp[R.len],by simp[R.lenF],λj a ej=>?_,λj ej=>?_,sj i R.nd bp (λp hp=>by cases hp),λp hp=>R.fresh p (qR hp),R.sub,R.fr,R.lim,R.sf⟩
 .rw [bI]at ej
  by_cases hij:i=j
  .subst hij;rw[pe rfl]at ej;split at ej <;> cases ej
  .rw [pD hij]at ej;obtain⟨w,G,f1,f2,q⟩:=R.rep j a ej;exact⟨w,G,f1,by rw[aX hij];exact f2,q⟩
 .rw [bI]at ej
  by_cases hij:i=j
  .subst hij;rw[pe rfl]at ej;split at ej
   .rename_i hi;rw[aZ (R.lenF.symm ▸ hi)]
   .cases ej
  .rw [pD hij]at ej;rw[aX hij];exact R.emp j ej
theorem qh.frz(R:qh K H₀ Hf₀ Hf S σ H Fs) {F:List Addr}(hf:∀q∈F,H₀ q=none/\q∉Fs.flatten) (hn:∀q∈F,Hf q=none):qh K H₀ Hf₀ (frz Hf H F) S σ H Fs:=by
 refine R.more (.refl _) (rA hn) (PR R.sub) (λq hq=>?_) λb h1 h2=>?_
 .rw [tJ λm=>(hf q m).2 hq]
  exact(R.mem hq).2
 .rw [tJ λm=>h2 (hf b m).1]
  exact R.lim b h1 h2
end
abbrev ME:=AS->Option (D×AS)
abbrev MK:=AS->Option (AV×AS)
abbrev ML:=AS->Option (List D×AS)
abbrev MT:=AS->Option (Bool×AS)
abbrev MA:=AS->Option (List AV×AS)
def pY(K:W.Frag) (Hf H:Hp) (avs:List AV) (vs:List V) (Gs:List (List Addr)):Prop :=
 avs.length=vs.length/\avs.length=Gs.length/\∀(i:Nat) (a:AV) (v:V) (F:List Addr),avs[i]?=some a->vs[i]?=some v->Gs[i]?=some F->pI K Hf H a v F
structure yN (H₀ H:Hp) (Fs Fs':List (List Addr)) (F:List Addr):Prop where
 nd:F.Nodup
 fr:∀q∈F,H₀ q=none
 out:∀q∈F,q∉Fs'.flatten
 new:∀q∈F,H q=none∨q∈Fs.flatten
theorem yN.nil{H₀ H:Hp}{Fs Fs':List (List Addr)}:yN H₀ H Fs Fs' []:=⟨bp,λq h=>(by cases h),λq h=>(by cases h),λq h=>(by cases h)⟩
section
variable (K:W.Frag)
def SR(te:TE) (m:ME):Prop:=∀{H₀ Hf₀ Hf:Hp}{S:AS}{σ:St}{H:Hp}{Fs:List (List Addr)}{d:D}{S':AS},qh K H₀ Hf₀ Hf S σ H Fs->m S=some (d,S')->∀Q:VK,
 (∀Hf' H' Fs' v,zm Hf H Fs Hf' H' Fs'->qh K H₀ Hf₀ Hf' S' σ H' Fs'->rD K H' d v->Q v H')->te σ H Q
def SK(te:TE) (m:MK):Prop:=∀{H₀ Hf₀ Hf:Hp}{S:AS}{σ:St}{H:Hp}{Fs:List (List Addr)}{a:AV}{S':AS},qh K H₀ Hf₀ Hf S σ H Fs->m S=some (a,S')->∀Q:VK,
 (∀Hf' H' Fs' v F,zm Hf H Fs Hf' H' Fs'->qh K H₀ Hf₀ Hf' S' σ H' Fs'->pI K Hf' H' a v F->yN H₀ H Fs Fs' F->Q v H')->te σ H Q
def SL(te:TE) (m:ML):Prop:=∀{H₀ Hf₀ Hf:Hp}{S:AS}{σ:St}{H:Hp}{Fs:List (List Addr)}{ds:List D}{S':AS},qh K H₀ Hf₀ Hf S σ H Fs->m S=some (ds,S')->∀Q:VK,
 (∀Hf' H' Fs' p vs,zm Hf H Fs Hf' H' Fs'->qh K H₀ Hf₀ Hf' S' σ H' Fs'->H' p=some (.lst vs)->qq K Hf' ds vs->Q (.ref p) H')->te σ H Q
def E3(tt:TT) (m:MT):Prop:=∀{H₀ Hf₀ Hf:Hp}{S:AS}{σ:St}{H:Hp}{Fs:List (List Addr)}{b:Bool}{S':AS},qh K H₀ Hf₀ Hf S σ H Fs->m S=some (b,S')->∀Q:Bool->Hp->Prop,
 (∀Hf' H' Fs',zm Hf H Fs Hf' H' Fs'->qh K H₀ Hf₀ Hf' S' σ H' Fs'->Q b H')->tt σ H Q
def SA(ta:TA) (m:MA):Prop:=∀{H₀ Hf₀ Hf:Hp}{S:AS}{σ:St}{H:Hp}{Fs:List (List Addr)}{as:List AV}{S':AS},qh K H₀ Hf₀ Hf S σ H Fs->m S=some (as,S')->∀Q:List V->Hp->Prop,
 (∀Hf' H' Fs' vs Gs,zm Hf H Fs Hf' H' Fs'->qh K H₀ Hf₀ Hf' S' σ H' Fs'->pY K Hf' H' as vs Gs->yN H₀ H Fs Fs' Gs.flatten->Q vs H')->ta σ H Q
def Rj(ta:TA) (m:ML):Prop:=∀{H₀ Hf₀ Hf:Hp}{S:AS}{σ:St}{H:Hp}{Fs:List (List Addr)}{ds:List D}{S':AS},qh K H₀ Hf₀ Hf S σ H Fs->m S=some (ds,S')->∀Q:List V->Hp->Prop,
 (∀Hf' H' Fs' vs,zm Hf H Fs Hf' H' Fs'->qh K H₀ Hf₀ Hf' S' σ H' Fs'->qq K H' ds vs->Q vs H')->ta σ H Q
end
section
variable {K:W.Frag}{H₀ Hf₀ Hf Hf' H H':Hp}{S S':AS}{σ:St}{Fs Fs':List (List Addr)}
theorem pI.stp{av:AV}{v:V}{F:List Addr}(r:pI K Hf H av v F) (ho:∀q∈F,q∉Fs.flatten) (t:zm Hf H Fs Hf' H' Fs'):pI K Hf' H' av v F :=
 r.keep t.sf (λq hq=>JW t.sh (r.owned q hq).1) λq hq=>by
  by_cases e:Hf' q=none
  .exact e
  .rcases t.gr q (r.owned q hq).2 e with z|z
   .exact absurd z (r.owned q hq).1
   .exact absurd z (ho q hq)
theorem qh.new(R:qh K H₀ Hf₀ Hf S σ H Fs) {p:Addr}{o:HO}(hp:H p=none):zm Hf H Fs Hf (qH H p o) Fs/\qh K H₀ Hf₀ Hf S σ (qH H p o) Fs/\Hf p=none/\H₀ p=none/\p∉Fs.flatten :=
 ⟨⟨.refl _,uW hp,λ_ h=>h,λb h g=>absurd h g⟩,R.laid (uW hp),R.sub.free hp,R.fr.free hp,λm=>(R.mem m).1 hp⟩
theorem wj(n:Nat):(aK n ([]:List Addr)).flatten=[]:=by
 induction n with
 |zero=>rfl
 |succ n ih=>rw[List.replicate_succ,fCq,ih];rfl
theorem pI.new{p:Addr}{vs:List V}{ds:List D}(h:H p=some (.lst vs)) (n:Hf p=none) (r:qq K Hf ds vs):pI K Hf H (.ow (ds.map .sh)) (.ref p) [p]:=by
 have e:[p]=p::(aK ds.length ([]:List Addr)).flatten:=by rw[wj]
 rw[e];refine .ow h n (by simp[r.1]) (by simp) λi a v F h1 h2 h3=>?_
 rw[gMq]at h1;cases q:ds[i]? with
 |none=>rw[q]at h1;cases h1
 |some d =>
  rw[q]at h1;cases h1;have:F=[]:=dR (mGq h3);subst this;exact .sh (r.2 i d v q h2)
theorem pI.news{p:Addr}{vs:List V}{avs:List AV}{Gs:List (List Addr)}(h:H p=some (.lst vs)) (n:Hf p=none) (r:pY K Hf H avs vs Gs):pI K Hf H (.ow avs) (.ref p) (p::Gs.flatten):=.ow h n r.1 r.2.1 r.2.2
theorem pI.ow_inv{avs:List AV}{v:V}{F:List Addr}(h:pI K Hf H (.ow avs) v F):∃p vs Gs,v = .ref p/\F=p::Gs.flatten/\H p=some (.lst vs)/\Hf p=none/\pY K Hf H avs vs Gs:=by
 cases h with
 |ow h n l lf e=>exact⟨_,_,_,rfl,rfl,h,n,l,lf,e⟩
theorem pI.owd_inv{ds:List (oS×D)}{v:V}{F:List Addr}(h:pI K Hf H (.owd ds) v F):∃p kvs,v = .ref p/\F=[p]/\H p=some (.dK kvs)/\Hf p=none/\tY K Hf ds kvs:=by
 cases h with
 |owd h n r=>exact⟨_,_,rfl,rfl,h,n,r⟩
theorem pI.sh_inv{d:D}{v:V}{F:List Addr}(h:pI K Hf H (.sh d) v F):F=[]/\rD K Hf d v:=by
 cases h with
 |sh r=>exact⟨rfl,r⟩
theorem qh.give{H1:Hp}{Fs1:List (List Addr)}(R:qh K H₀ Hf₀ Hf' S σ H1 Fs1) (t:zm Hf H Fs Hf' H1 Fs1) {av:AV}{v:V}{F:List Addr}(r:pI K Hf' H1 av v F) (o:yN H₀ H Fs Fs1 F) :
  qh K H₀ Hf₀ (Z.frz Hf' H1 F) S σ H1 Fs1/\rD K (Z.frz Hf' H1 F) (oK av) v/\zm Hf H Fs (Z.frz Hf' H1 F) H1 Fs1:=by
 have n:∀q∈F,Hf' q=none:=λq hq=>(r.owned q hq).2
 refine⟨R.frz (λq hq=>⟨o.fr q hq,o.out q hq⟩) n,r.frozen (rA n) λq hq=>za hq,t.sf.trans (rA n),t.sh,t.own,λb h g=>?_⟩
 by_cases m:b∈F
 .exact o.new b m
 .rw [tJ m]at g;exact t.gr b h g
theorem pY.nil:pY K Hf H [] [] []:=⟨rfl,rfl,λi a v F h=>by simp at h⟩
theorem pY.cons{a:AV}{v:V}{F:List Addr}{as:List AV}{vs:List V}{Gs:List (List Addr)}(h:pI K Hf H a v F) (t:pY K Hf H as vs Gs):pY K Hf H (a::as) (v::vs) (F::Gs) :=
 ⟨by simp[t.1],by simp[t.2.1],λi b w G h1 h2 h3=>by
  cases i with
  |zero =>
   simp at h1 h2 h3;subst h1 h2 h3;exact h
  |succ i=>exact t.2.2 i b w G (by simpa using h1) (by simpa using h2) (by simpa using h3)⟩
theorem pY.nil_inv{vs:List V}{Gs:List (List Addr)}(h:pY K Hf H [] vs Gs):vs=[]/\Gs=[]:=by
 obtain⟨a,b,_⟩:=h;exact⟨aS.mp a.symm,aS.mp b.symm⟩
theorem pY.cons_inv{a:AV}{as:List AV}{vs:List V}{Gs:List (List Addr)}(h:pY K Hf H (a::as) vs Gs):∃v ws F Gs',vs=v::ws/\Gs=F::Gs'/\pI K Hf H a v F/\pY K Hf H as ws Gs':=by
 obtain⟨h1,h2,h3⟩:=h;cases vs with
 |nil=>simp at h1
 |cons v ws =>
  cases Gs with
  |nil=>simp at h2
  |cons F Gs'=>exact⟨v,ws,F,Gs',rfl,rfl,h3 0 a v F rfl rfl rfl,by simpa using h1,by simpa using h2,λi b w G q1 q2 q3=>h3 (i+1) b w G (by simpa using q1) (by simpa using q2) (by simpa using q3)⟩
theorem pY.frozen(h:pY K Hf H as vs Gs) (s:qk Hf Hf') (hk:∀q∈Gs.flatten,Hf' q=H q):qq K Hf' (as.map oK) vs :=
 ⟨by simp[h.1],λi d v h1 h2=>by
  rw[gMq]at h1;cases ea:as[i]? with
  |none=>rw[ea]at h1;cases h1
  |some a =>
   rw[ea]at h1;cases h1;have hi:i<Gs.length:=h.2.1 ▸ (gSq.mp ea).1;exact(h.2.2 i a v Gs[i] ea h2 (gEg hi)).frozen s λq hq=>hk q (mFq.mpr ⟨Gs[i],gRq hi,hq⟩)⟩
theorem pY.owned(h:pY K Hf H as vs Gs):∀q∈Gs.flatten,H q≠none/\Hf q=none:=λq hq=>by
 obtain⟨F,hF,hq⟩:=mFq.mp hq;obtain⟨i,hi,rfl⟩:=cX.mp hF;have h1:i<as.length:=h.2.1.symm ▸ hi;have h2:i<vs.length:=h.1 ▸ h1;exact(h.2.2 i as[i] vs[i] Gs[i] (gEg h1) (gEg h2) (gEg hi)).owned q hq
theorem qh.gives{H1:Hp}{Fs1:List (List Addr)}(R:qh K H₀ Hf₀ Hf' S σ H1 Fs1) (t:zm Hf H Fs Hf' H1 Fs1) {as:List AV}{vs:List V}{Gs:List (List Addr)}(r:pY K Hf' H1 as vs Gs) (o:yN H₀ H Fs Fs1 Gs.flatten) :
  qh K H₀ Hf₀ (Z.frz Hf' H1 Gs.flatten) S σ H1 Fs1/\qq K (Z.frz Hf' H1 Gs.flatten) (as.map oK) vs/\zm Hf H Fs (Z.frz Hf' H1 Gs.flatten) H1 Fs1:=by
 have n:∀q∈Gs.flatten,Hf' q=none:=λq hq=>(r.owned q hq).2
 refine⟨R.frz (λq hq=>⟨o.fr q hq,o.out q hq⟩) n,r.frozen (rA n) λq hq=>za hq,t.sf.trans (rA n),t.sh,t.own,λb h g=>?_⟩
 by_cases m:b∈Gs.flatten
 .exact o.new b m
 .rw [tJ m]at g;exact t.gr b h g
theorem yN.stp{Hf1 H1 Hf2 H2:Hp}{Fs1 Fs2:List (List Addr)}{F:List Addr}(o:yN H₀ H Fs Fs1 F) (t:zm Hf1 H1 Fs1 Hf2 H2 Fs2):yN H₀ H Fs Fs2 F:=⟨o.nd,o.fr,λq h m=>o.out q h (t.own q m),o.new⟩
theorem yN.back{Hf1 H1:Hp}{Fs1 Fs2:List (List Addr)}{F:List Addr}(t:zm Hf H Fs Hf1 H1 Fs1) (o:yN H₀ H1 Fs1 Fs2 F):yN H₀ H Fs Fs2 F:=⟨o.nd,o.fr,o.out,λq h=>(o.new q h).elim (λe=>.inl (t.sh.free e)) λm=>.inr (t.own q m)⟩
theorem yN.app{F G:List Addr}(a:yN H₀ H Fs Fs' F) (b:yN H₀ H Fs Fs' G) (d:∀q∈F,q∉G):yN H₀ H Fs Fs' (F++G) :=
 ⟨nAq.mpr ⟨a.nd,b.nd,λx hx y hy e=>d x hx (e ▸ hy)⟩,λq h=>(mAq.mp h).elim (a.fr q) (b.fr q),λq h=>(mAq.mp h).elim (a.out q) (b.out q),λq h=>(mAq.mp h).elim (a.new q) (b.new q)⟩
theorem yN.apart{Hf1 H1:Hp}{Fs1 Fs2:List (List Addr)}{F G:List Addr}(a:yN H₀ H Fs Fs1 F) (ha:∀q∈F,H1 q≠none) (b:yN H₀ H1 Fs1 Fs2 G):∀q∈F,q∉G:=λq h m=>by
 rcases b.new q m with e|e
 .exact ha q h e
 .exact a.out q h e
theorem yN.one(R:qh K H₀ Hf₀ Hf S σ H Fs) {p:Addr}(hp:H p=none):yN H₀ H Fs Fs [p] :=
 ⟨by simp,λq h=>by rw[mSq.mp h];exact R.fr.free hp,λq h m=>by rw[mSq.mp h]at m;exact(R.mem m).1 hp,λq h=>by rw[mSq.mp h];exact .inl hp⟩
end
def oz(i:Nat):ME:=λS=>(S[i]?.join).map λa=>(oK a,S)
def pG(i:Nat):MK:=λS=>(S[i]?.join).map λa=>(.sh (oK a),S.set i (some (.sh (oK a))))
def EK(i:Nat):MK:=λS=>(S[i]?.join).map λa=>(a,S.set i none)
def EZ(i:Nat):ML:=λS=>match S[i]?.join with
 |some (.sh (.list ds))=>some (ds,S)
 |some (.ow avs)=>some (avs.map oK,S.set i (some (.ow ((avs.map oK).map .sh))))
 |_=>none
def rOf(k:MK):ME:=λS=>(k S).map λx=>(oK x.1,x.2)
def kSc(m:ME):MK:=λS=>(m S).bind λx=>if x.1.scal then some (.sh x.1,x.2) else none
def lOf(k:MK):ML:=λS=>(k S).bind λx=>match x.1 with
 | .sh (.list ds)=>some (ds,x.2)
 | .ow avs=>some (avs.map oK,x.2)
 |_=>none
def vU(k:MK):MK:=λS=>(k S).map λx=>(.sh (oK x.1),x.2)
def rC(d:D):ME:=λS=>if d.scal then some (d,S) else none
section
variable {K:W.Frag}
theorem pS{S:AS}{i:Nat}{a:AV}(h:S[i]?.join=some a):S[i]?=some (some a):=by
 cases e:S[i]? with
 |none=>rw[e]at h;cases h
 |some z=>rw[e]at h;exact congrArg some h
theorem ou(i:Nat):SR K (xq i) (oz i):=by
 intro H₀ Hf₀ Hf S σ H Fs d S' R e Q q;obtain⟨a,ea,e⟩:=oMq.mp e;cases e;obtain⟨v,F,s1,s2,r⟩:=R.rep i a (pS ea);exact⟨v,s1,q _ _ _ v .refl R (r.rep R.sub)⟩
theorem Aq(i:Nat):SK K (xq i) (EK i):=by
 intro H₀ Hf₀ Hf S σ H Fs a S' R e Q q;obtain⟨b,ea,e⟩:=oMq.mp e;cases e;obtain⟨v,F,s1,s2,r,nd,o,R1⟩:=R.move (pS ea);exact⟨v,s1,q _ _ _ v F ⟨.refl _,.refl _,λp hp=>qR hp,λb h g=>absurd h g⟩ R1 r ⟨nd,λq hq=>(o q hq).1,λq hq=>(o q hq).2,λq hq=>.inr (mFq.mpr ⟨F,mGq s2,hq⟩)⟩⟩
theorem qh.again{H₀ Hf₀ Hf H:Hp}{S:AS}{σ:St}{Fs:List (List Addr)}{i:Nat}{av:AV}{v:V}{F G:List Addr}(R:qh K H₀ Hf₀ Hf (S.set i none) σ H (Fs.set i [])) (s1:σ[i]?=some (some v)) (r:pI K Hf H av v G) (nd:G.Nodup) (hf:∀q∈G,H₀ q=none/\q∉(Fs.set i []).flatten) :
  qh K H₀ Hf₀ Hf (S.set i (some av)) σ H (Fs.set i G):=by
 have R2:=R.set i r nd hf;rw[eP,eP]at R2;have e:σ.set i (some v)=σ:=by
  obtain⟨hk,ev⟩:=gSq.mp s1;rw[←ev];exact fZ hk
 rw[e]at R2;exact R2
theorem oJ(i:Nat):SK K (xq i) (pG i):=by
 intro H₀ Hf₀ Hf S σ H Fs a S' R e Q q;obtain⟨b,ea,e⟩:=oMq.mp e;cases e;obtain⟨v,F,s1,s2,r,nd,o,R1⟩:=R.move (pS ea);have n:∀q∈F,Hf q=none:=λq hq=>(r.owned q hq).2
 have R2:=R1.frz o n;have r2:=r.frozen (rA (H:=H) n) λq hq=>za hq
 have R3:=R2.again (F:=F) (G:=[]) s1 (.sh r2) bp λq h=>(by cases h)
 refine⟨v,s1,q _ _ _ v [] ⟨rA n,.refl _,λp hp=>qR hp,λb h g=>?_⟩ R3 (.sh r2) .nil⟩
 by_cases m:b∈F
 .exact .inr (mFq.mpr ⟨F,mGq s2,m⟩)
 .rw [tJ m]at g;exact absurd h g
theorem CH(i:Nat):SL K (xq i) (EZ i):=by
 intro H₀ Hf₀ Hf S σ H Fs ds S' R e Q q;unfold EZ at e;split at e
 .rename_i ds' ea;cases e;obtain⟨v,F,s1,s2,r⟩:=R.rep i _ (pS ea);obtain⟨p,vs,rfl,h1,h2⟩:=r.sh_inv.2.list_inv;exact⟨_,s1,q _ _ _ p vs .refl R (R.sub _ _ h1) h2⟩
 .rename_i avs ea;cases e;obtain⟨v,F,s1,s2,r,nd,o,R1⟩:=R.move (pS ea);obtain⟨p,vs,Gs,rfl,rfl,h1,h2,h3⟩:=r.ow_inv;have n:∀q∈Gs.flatten,Hf q=none:=λq hq=>(h3.owned q hq).2
  have R2:=R1.frz (F:=Gs.flatten) (λq hq=>o q (mCo _ hq)) n
  have r2:=h3.frozen (rA (H:=H) n) λq hq=>za hq
  have np:p∉Gs.flatten:=(aA.mp nd).1;have r3:pI K (Z.frz Hf H Gs.flatten) H (.ow ((avs.map oK).map .sh)) (.ref p) [p]:=pI.new h1 (by rw[tJ np];exact h2) r2
  have R3:=R2.again (F:=p::Gs.flatten) (G:=[p]) s1 r3 (by simp) λq hq=>by rw[mSq.mp hq];exact o p (by simp)
  refine⟨_,s1,q _ _ _ p vs ⟨rA n,.refl _,λb hb=>?_,λb h g=>?_⟩ R3 h1 r2⟩
  .rcases sQ hb with z|z
   .rw [mSq.mp z];exact mFq.mpr ⟨_,mGq s2,by simp⟩
   .exact z
  .by_cases m:b∈Gs.flatten
   .exact .inr (mFq.mpr ⟨_,mGq s2,mCo _ m⟩)
   .rw [tJ m]at g;exact absurd h g
 .cases e
theorem SK.rOf{te:TE}{k:MK}(h:SK K te k):SR K te (rOf k):=by
 intro H₀ Hf₀ Hf S σ H Fs d S' R e Q q;obtain⟨x,ea,e⟩:=oMq.mp e;cases e;exact h R (a:=x.1) (S':=x.2) ea Q λHf' H' Fs' v F t R' r o=>q _ _ _ v t R' (r.rep R'.sub)
theorem SR.kSc{te:TE}{m:ME}(h:SR K te m):SK K te (kSc m):=by
 intro H₀ Hf₀ Hf S σ H Fs a S' R e Q q;obtain⟨x,ea,e⟩:=oBq.mp e;split at e
 .rename_i hs;cases e;exact h R (d:=x.1) (S':=x.2) ea Q λHf' H' Fs' v t R' r=>q _ _ _ v [] t R' (.sh (r.scal hs)) .nil
 .cases e
theorem SK.frz{te:TE}{k:MK}(h:SK K te k):SK K te (vU k):=by
 intro H₀ Hf₀ Hf S σ H Fs a S' R e Q q;obtain⟨x,ea,e⟩:=oMq.mp e;cases e;refine h R (a:=x.1) (S':=x.2) ea Q λHf' H' Fs' v F t R' r o=>?_
 obtain⟨R2,r2,t2⟩:=R'.give t r o;exact q _ _ _ v [] t2 R2 (.sh r2) .nil
theorem SK.lOf{te:TE}{k:MK}(h:SK K te k):SL K te (lOf k):=by
 intro H₀ Hf₀ Hf S σ H Fs ds S' R e Q q;obtain⟨x,ea,e⟩:=oBq.mp e;refine h R (a:=x.1) (S':=x.2) ea Q λHf' H' Fs' v F t R' r o=>?_
 split at e
 .rename_i ds' hx;cases e;rw[hx]at r;obtain⟨p,vs,rfl,h1,h2⟩:=r.sh_inv.2.list_inv;exact q _ _ _ p vs t R' (R'.sub _ _ h1) h2
 .rename_i avs hx;cases e;obtain⟨R2,r2,t2⟩:=R'.give t r o;rw[hx,tG]at r2;obtain⟨p,vs,rfl,h1,h2⟩:=r2.list_inv;exact q _ _ _ p vs t2 R2 (R2.sub _ _ h1) h2
 .cases e
theorem Ui{v:V}{d:D}(h:∀H,rD K H d v):SR K (tC v) (rC d):=by
 intro H₀ Hf₀ Hf S σ H Fs d' S' R e Q q;unfold rC at e;split at e
 .cases e;exact q _ _ _ v .refl R (h _)
 .cases e
theorem oD{i:Int}:SR K (tC (.int i)) (rC (.int i)):=Ui λ_=>.int
theorem OG{i:Bool}:SR K (tC (.bl i)) (rC (.bl i)):=Ui λ_=>.bl
theorem V0{T:String}:SR K (tC (.ty T)) (rC (.ty T)):=Ui λ_=>.ty
end
def wm{α:Type}(p:Prop) (x:Option α):Option α:=@ite (Option α) p (eh p) x none
theorem vA{α:Type}{p:Prop}(h:p) (x:Option α):wm p x=x:=pe h
theorem vD{α:Type}(x:Option α):wm True x=x:=pe trivial
theorem pJ{α:Type}{p:Prop}{x y:Option α}(h:wm p x=y):(p/\x=y)∨none=y:=by
 by_cases c:p
 .rw [vA c]at h;exact .inl ⟨c,h⟩
 .exact .inr ((@if_neg p (eh p) c _ x none).symm.trans h)
def pW(f:D->D->Option D) (a b:ME):ME:=λS=>(a S).bind λx=>(b x.2).bind λy=>(f x.1 y.1).map λd=>(d,y.2)
def DF(f:D->Option D) (a:ME):ME:=λS=>(a S).bind λx=>(f x.1).map λd=>(d,x.2)
def D9(K:W.Frag) (r:R2) (f:D->D->Option D):Prop:=∀{x y:V}{H:Hp}{Q:VK}{dx dy d:D},rD K H dx x->rD K H dy y->f dx dy=some d->(∀v,rD K H d v->Q v H)->r x y H Q
def Ys(K:W.Frag) (r:V->Hp->VK->Prop) (f:D->Option D):Prop:=∀{x:V}{H:Hp}{Q:VK}{dx d:D},rD K H dx x->f dx=some d->(∀v,rD K H d v->Q v H)->r x H Q
section
variable {K:W.Frag}{r:R2}{f:D->D->Option D}{ta tb:TE}{a b:ME}
theorem oE(hr:D9 K r f) (ha:SR K ta a) (hb:SR K tb b):SR K (PD r ta tb) (pW f a b):=by
 intro H₀ Hf₀ Hf S σ H Fs d S' R e Q q;obtain⟨x,e1,e⟩:=oBq.mp e;obtain⟨y,e2,e⟩:=oBq.mp e;obtain⟨z,e3,e⟩:=oMq.mp e;cases e;refine ha R (d:=x.1) (S':=x.2) e1 _ λHf1 H1 Fs1 v1 t1 R1 r1=>hb R1 (d:=y.1) (S':=y.2) e2 _ λHf2 H2 Fs2 v2 t2 R2 r2=>?_
 exact hr (r1.mono t2.sh) r2 e3 λv rv=>q _ _ _ v (t1.trans t2) R2 rv
theorem wA{r:V->Hp->VK->Prop}{f:D->Option D}(hr:Ys K r f) (ha:SR K ta a):SR K (Ye r ta) (DF f a):=by
 intro H₀ Hf₀ Hf S σ H Fs d S' R e Q q;obtain⟨x,e1,e⟩:=oBq.mp e;obtain⟨z,e3,e⟩:=oMq.mp e;cases e;exact ha R (d:=x.1) (S':=x.2) e1 _ λHf1 H1 Fs1 v1 t1 R1 r1=>hr r1 e3 λv rv=>q _ _ _ v t1 R1 rv
end
def HD(c:Int->Int->Prop) (g:Int->Int->D):D->D->Option D
 | .int i,.int j=>wm (c i j) (some (g i j))
 |_,_=>none
def X4(g:Int->D):D->Option D
 | .int i=>some (g i)
 |_=>none
abbrev vK:=HD (λ_ _=>True) λi j=>.int (i+j)
abbrev IM:=HD (λ_ _=>True) λi j=>.int (i-j)
abbrev Fo:=HD O2 λi j=>.int (i*j)
abbrev ue:=HD (λ_ j=>0<j) λi j=>.int (i % j)
abbrev yL:=HD Tz λi j=>.int (i / j)
abbrev Hw:=HD TZ λi j=>.int (i ^ j.toNat)
abbrev WK:=HD (λ_ _=>True) λi j=>.bl (decide (i<j))
abbrev XD:=HD (λ_ _=>True) λi j=>.bl (decide (i<=j))
abbrev OV:=HD (λ_ _=>True) λi j=>.bl (decide (j<i))
abbrev WZ:=HD (λ_ _=>True) λi j=>.bl (decide (j<=i))
abbrev xw:=X4 λi=>.int (-i)
def LW(b:Bool):Option D:=some (.bl b)
def HB(x y:D):Option D:=match x with
 | .int i=>(match y with|.int j=>LW (decide (i=j))|.non=>LW false|.str _=>LW false|_=>none)
 | .str i=>(match y with|.str j=>LW (decide (i=j))|.non=>LW false|.int _=>LW false|_=>none)
 | .bl i=>(match y with|.bl j=>LW (decide (i=j))|.non=>LW false|_=>none)
 | .non=>(match y with|.non=>LW true|.int _=>LW false|.str _=>LW false|.bl _=>LW false|_=>none)
 |_=>none
def Tc:D->Option D
 | .bl b=>some (.bl (!b))
 |_=>none
def N2(x y:D):Option D:=(HB x y).bind Tc
section
variable {K:W.Frag}
theorem Gg{C:Int->Int->Prop}{g:Int->Int->V}{g':Int->Int->D}(hg:∀H i j,rD K H (g' i j) (g i j)):D9 K (rI C g) (HD C g'):=by
 intro x y H Q dx dy d rx ry e q;unfold HD at e;split at e
 .rename_i i j;cases rx;cases ry;rcases pJ e with ⟨h,e⟩|e
  .cases e;exact⟨i,j,rfl,rfl,h,q _ (hg H i j)⟩
  .cases e
 .cases e
theorem BM{g:Int->Int->V}{g':Int->Int->D}(hg:∀H i j,rD K H (g' i j) (g i j)):D9 K (Il g) (HD (λ_ _=>True) g'):=by
 intro x y H Q dx dy d rx ry e q;unfold HD at e;split at e
 .rename_i i j;cases rx;cases ry;rw[vD]at e;cases e;exact⟨i,j,rfl,rfl,q _ (hg H i j)⟩
 .cases e
theorem rH:D9 K (Il λi j=>.int (i+j)) vK:=BM λ_ _ _=>.int
theorem EL:D9 K (Il λi j=>.int (i-j)) IM:=BM λ_ _ _=>.int
theorem E7:D9 K (rI O2 λi j=>.int (i*j)) Fo:=Gg λ_ _ _=>.int
theorem qI:D9 K (rI (λ_ j=>0<j) λi j=>.int (i % j)) ue:=Gg λ_ _ _=>.int
theorem uw:D9 K (rI Tz λi j=>.int (i / j)) yL:=Gg λ_ _ _=>.int
theorem Fe:D9 K (rI TZ λi j=>.int (i ^ j.toNat)) Hw:=Gg λ_ _ _=>.int
theorem RP:D9 K (Il λi j=>.bl (decide (i<j))) WK:=BM λ_ _ _=>.bl
theorem Vc:D9 K (Il λi j=>.bl (decide (i<=j))) XD:=BM λ_ _ _=>.bl
theorem GE:D9 K (Il λi j=>.bl (decide (j<i))) OV:=BM λ_ _ _=>.bl
theorem Wg:D9 K (Il λi j=>.bl (decide (j<=i))) WZ:=BM λ_ _ _=>.bl
theorem uo:Ys K (rU λi=>.int (-i)) xw:=by
 intro x H Q dx d rx e q;cases rx <;> simp only[X4]at e
 all_goals first|(exfalso;simp at e;done)|skip
 rename_i i;cases e;exact⟨i,rfl,q _ .int⟩
theorem yE:D9 K Yt HB:=by
 intro x y H Q dx dy d rx ry e q;unfold HB at e;cases rx <;> first|(cases e;done)|(cases ry <;> first|(cases e;done)|skip)
 all_goals (cases e;refine⟨rfl,q _ ?_⟩;simp only[reduceCtorEq,decide_false,decide_true,V.int.injEq,V.str.injEq,V.bl.injEq];exact .bl)
theorem Ei:D9 K Yu N2:=by
 intro x y H Q dx dy d rx ry e q;obtain⟨b,e1,e2⟩:=oBq.mp e;obtain⟨h1,h2⟩:=yE rx ry e1 (Q:=λv _=>rD K H b v) λv h=>h
 cases h2;cases e2;exact⟨h1,q _ .bl⟩
end
def Ut(a b:ME):ME:=λS=>(a S).bind λx=>match x.1 with
 | .bl true=>b x.2
 | .bl false=>some (.bl false,x.2)
 |_=>none
def YX(a b:ME):ME:=λS=>(a S).bind λx=>match x.1 with
 | .bl true=>some (.bl true,x.2)
 | .bl false=>b x.2
 |_=>none
def Yx(a:ME):ME:=DF Tc a
def vT(a:ME):MT:=λS=>(a S).bind λx=>match x.1 with
 | .bl b=>some (b,x.2)
 |_=>none
def D2(a b:MT):MT:=λS=>(a S).bind λx=>if x.1=true then b x.2 else some (false,x.2)
def Th(a b:MT):MT:=λS=>(a S).bind λx=>if x.1=true then some (true,x.2) else b x.2
def NW(a:MT):MT:=λS=>(a S).map λx=>(!x.1,x.2)
def Wb(c:MT) (a b:ME):ME:=λS=>(c S).bind λx=>if x.1=true then a x.2 else b x.2
def YW(c:MT) (a b:MK):MK:=λS=>(c S).bind λx=>if x.1=true then a x.2 else b x.2
section
variable {K:W.Frag}{ta tb:TE}{a b:ME}{ca cb:TT}{ma mb:MT}
theorem TJ(ha:SR K ta a) (hb:SR K tb b):SR K (RV ta tb) (Ut a b):=by
 intro H₀ Hf₀ Hf S σ H Fs d S' R e Q q;obtain⟨x,e1,e⟩:=oBq.mp e;refine ha R (d:=x.1) (S':=x.2) e1 _ λHf1 H1 Fs1 v1 t1 R1 r1=>?_
 split at e
 .rename_i hx;rw[hx]at r1;cases r1;exact⟨true,rfl,HZ (hb R1 e Q λHf2 H2 Fs2 v2 t2 R2 r2=>q _ _ _ v2 (t1.trans t2) R2 r2)⟩
 .rename_i hx;rw[hx]at r1;cases r1;cases e;exact⟨false,rfl,IX (q _ _ _ _ t1 R1 .bl)⟩
 .cases e
theorem Ee(ha:SR K ta a):E3 K (tB ta) (vT a):=by
 intro H₀ Hf₀ Hf S σ H Fs d S' R e Q q;obtain⟨x,e1,e⟩:=oBq.mp e;refine ha R (d:=x.1) (S':=x.2) e1 _ λHf1 H1 Fs1 v1 t1 R1 r1=>?_
 split at e
 .rename_i b hx;rw[hx]at r1;cases r1;cases e;exact⟨_,rfl,q _ _ _ t1 R1⟩
 .cases e
theorem pP(ha:SR K ta a):E3 K (Sh ta) (vT a):=Ee ha
theorem FK(ha:E3 K ca ma) (hb:E3 K cb mb):E3 K (U9 ca cb) (D2 ma mb):=by
 intro H₀ Hf₀ Hf S σ H Fs d S' R e Q q;obtain⟨x,e1,e⟩:=oBq.mp e;refine ha R (b:=x.1) (S':=x.2) e1 _ λHf1 H1 Fs1 t1 R1=>?_
 split at e
 .rename_i hx;rw[hx];exact HZ (hb R1 e Q λHf2 H2 Fs2 t2 R2=>q _ _ _ (t1.trans t2) R2)
 .rename_i hx;cases e;rw[dY]at hx;rw[hx];exact IX (q _ _ _ t1 R1)
theorem V6(ha:E3 K ca ma) (hb:E3 K cb mb):E3 K (X3 ca cb) (Th ma mb):=by
 intro H₀ Hf₀ Hf S σ H Fs d S' R e Q q;obtain⟨x,e1,e⟩:=oBq.mp e;refine ha R (b:=x.1) (S':=x.2) e1 _ λHf1 H1 Fs1 t1 R1=>?_
 split at e
 .rename_i hx;cases e;rw[hx];exact HZ (q _ _ _ t1 R1)
 .rename_i hx;rw[dY]at hx;rw[hx];exact IX (hb R1 e Q λHf2 H2 Fs2 t2 R2=>q _ _ _ (t1.trans t2) R2)
theorem UI(ha:E3 K ca ma):E3 K (Vf ca) (NW ma):=by
 intro H₀ Hf₀ Hf S σ H Fs d S' R e Q q;obtain⟨x,e1,e⟩:=oMq.mp e;cases e;exact ha R (b:=x.1) (S':=x.2) e1 _ λHf1 H1 Fs1 t1 R1=>q _ _ _ t1 R1
theorem RN(hc:E3 K ca ma) (ha:SR K ta a) (hb:SR K tb b):SR K (X7 ca ta tb) (Wb ma a b):=by
 intro H₀ Hf₀ Hf S σ H Fs d S' R e Q q;obtain⟨x,e1,e⟩:=oBq.mp e;refine hc R (b:=x.1) (S':=x.2) e1 _ λHf1 H1 Fs1 t1 R1=>?_
 split at e
 .rename_i hx;rw[hx];exact HZ (ha R1 e Q λHf2 H2 Fs2 v t2 R2=>q _ _ _ v (t1.trans t2) R2)
 .rename_i hx;rw[dY]at hx;rw[hx];exact IX (hb R1 e Q λHf2 H2 Fs2 v t2 R2=>q _ _ _ v (t1.trans t2) R2)
end
abbrev rG:Nat:=16777216
theorem vy:ko=rG:=kN
def SQ(K:W.Frag) (te:TE) (m:ML):Prop:=∀{H₀ Hf₀ Hf:Hp}{S:AS}{σ:St}{H:Hp}{Fs:List (List Addr)}{ds:List D}{S':AS},qh K H₀ Hf₀ Hf S σ H Fs->m S=some (ds,S')->∀Q:VK,
 (∀Hf' H' Fs' p vs,zm Hf H Fs Hf' H' Fs'->qh K H₀ Hf₀ Hf' S' σ H' Fs'->tu K H' p vs->qq K Hf' ds vs->Q (.ref p) H')->te σ H Q
theorem SL.q{K:W.Frag}{te:TE}{m:ML}(h:SL K te m):SQ K te m:=by
 intro H₀ Hf₀ Hf S σ H Fs ds S' R e Q q;exact h R e Q λHf' H' Fs' p vs t R' hp r=>q _ _ _ p vs t R' (tu.of hp) r
def uI(i:Nat):ML:=λS=>match S[i]?.join with
 |some (.sh (.scr ns))=>some (ns.map .int,S)
 |some (.sh (.list ds))=>some (ds,S)
 |some (.ow avs)=>some (avs.map oK,S.set i (some (.ow ((avs.map oK).map .sh))))
 |_=>none
theorem tM{K:W.Frag}{H:Hp}:∀ns:List Int,qq K H (ns.map .int) (ns.map V.int)
 | []=>.nil
 |n::ns=>.cons .int (tM ns)
theorem qZ{K:W.Frag}(i:Nat):SQ K (xq i) (uI i):=by
 intro H₀ Hf₀ Hf S σ H Fs ds S' R e Q q;unfold uI at e;split at e
 .rename_i ns ea;cases e;obtain⟨v,F,s1,s2,r⟩:=R.rep i _ (pS ea);cases r.sh_inv.2 with
  |scr h=>exact⟨_,s1,q _ _ _ _ _ .refl R (R.sub.seq h) (tM ns)⟩
 .rename_i ds' ea;cases e;refine CH i R (ds:=ds) (S':=S) ?_ Q λHf' H' Fs' p vs t R' hp r=>q _ _ _ p vs t R' (tu.of hp) r
  unfold EZ;rw[ea]
 .rename_i avs ea;refine CH i R (ds:=ds) (S':=S') ?_ Q λHf' H' Fs' p vs t R' hp r=>q _ _ _ p vs t R' (tu.of hp) r
  unfold EZ;rw[ea];exact e
 .cases e
section
variable {K:W.Frag}{H₀ Hf₀ Hf Hf' H H':Hp}{S S':AS}{σ:St}{Fs Fs':List (List Addr)}
theorem pY.stp{as:List AV}{vs:List V}{Gs:List (List Addr)}(r:pY K Hf H as vs Gs) (ho:∀q∈Gs.flatten,q∉Fs.flatten) (t:zm Hf H Fs Hf' H' Fs'):pY K Hf' H' as vs Gs :=
 ⟨r.1,r.2.1,λi a v F h1 h2 h3=>(r.2.2 i a v F h1 h2 h3).stp (λq hq=>ho q (mFq.mpr ⟨F,mGq h3,hq⟩)) t⟩
theorem qh.layF(R:qh K H₀ Hf₀ Hf S σ H Fs) {p:Addr}{o:HO}(hp:H p=none):zm Hf H Fs (qH Hf p o) (qH H p o) Fs/\qh K H₀ Hf₀ (qH Hf p o) S σ (qH H p o) Fs:=by
 have hf:Hf p=none:=R.sub.free hp;refine⟨⟨uW hf,uW hp,λ_ h=>h,λb h g=>?_⟩,R.more (uW hp) (uW hf) (λb u e=>?_) (λq hq=>?_) λb h1 h2=>?_⟩
 .by_cases m:b=p
  .subst m;exact .inl hp
  .rw [oQ m]at g;exact absurd h g
 .by_cases m:b=p
  .subst m;rw[oW]at e ⊢;exact e
  .rw [oQ m]at e ⊢;exact R.sub b u e
 .rw [oQ λe=>(R.mem hq).1 (by rw[e];exact hp)]
  exact(R.mem hq).2
 .rw [oQ λe=>h2 (by rw[e];exact R.fr.free hp)]
  exact R.lim b h1 h2
end
def qj:MA:=λS=>some ([],S)
def oV(k:MK) (r:MA):MA:=λS=>(k S).bind λx=>(r x.2).map λy=>(x.1::y.1,y.2)
def pA:ML:=λS=>some ([],S)
def oI(k:ME) (r:ML):ML:=λS=>(k S).bind λx=>(r x.2).map λy=>(x.1::y.1,y.2)
section
variable {K:W.Frag}{te ta tb:TE}{tr:TA}
theorem oU:SA K xQ qj:=by
 intro H₀ Hf₀ Hf S σ H Fs as S' R e Q q;cases e;exact q _ _ _ [] [] .refl R .nil .nil
theorem oH{k:MK}{r:MA}(hk:SK K te k) (hr:SA K tr r):SA K (uM te tr) (oV k r):=by
 intro H₀ Hf₀ Hf S σ H Fs as S' R e Q q;obtain⟨x,e1,e⟩:=oBq.mp e;obtain⟨y,e2,e⟩:=oMq.mp e;cases e;refine hk R (a:=x.1) (S':=x.2) e1 _ λHf1 H1 Fs1 v F t1 R1 r1 o1=>hr R1 (as:=y.1) (S':=y.2) e2 _ λHf2 H2 Fs2 vs Gs t2 R2 r2 o2=>?_
 refine q _ _ _ (v::vs) (F::Gs) (t1.trans t2) R2 (.cons (r1.stp o1.out t2) r2) ?_;rw[fCq];exact(o1.stp t2).app (o2.back t1) (o1.apart (Hf1:=Hf1) (λq hq=>(r1.owned q hq).1) o2)
theorem oN:Rj K xQ pA:=by
 intro H₀ Hf₀ Hf S σ H Fs as S' R e Q q;cases e;exact q _ _ _ [] .refl R .nil
theorem oB{k:ME}{r:ML}(hk:SR K te k) (hr:Rj K tr r):Rj K (uM te tr) (oI k r):=by
 intro H₀ Hf₀ Hf S σ H Fs as S' R e Q q;obtain⟨x,e1,e⟩:=oBq.mp e;obtain⟨y,e2,e⟩:=oMq.mp e;cases e;refine hk R (d:=x.1) (S':=x.2) e1 _ λHf1 H1 Fs1 v t1 R1 r1=>hr R1 (ds:=y.1) (S':=y.2) e2 _ λHf2 H2 Fs2 vs t2 R2 r2=>?_
 exact q _ _ _ (v::vs) (t1.trans t2) R2 (.cons (r1.mono t2.sh) r2)
end
def uG(a:MA):MK:=λS=>(a S).bind λx=>wm (x.1.length<=rG) (some (.ow x.1,x.2))
def Jj(a:MA):MK:=λS=>(a S).bind λx=>wm (x.1.length<=rG) (some (.sh (.tup (x.1.map oK)),x.2))
section
variable {K:W.Frag}{ta:TA}{a:MA}
theorem qF(ha:SA K ta a):SK K (Ul ta) (uG a):=by
 intro H₀ Hf₀ Hf S σ H Fs av S' R e Q q;obtain⟨x,e1,e⟩:=oBq.mp e;rcases pJ e with ⟨hl,e⟩|e
 .skip
  cases e;refine ha R (as:=x.1) (S':=x.2) e1 _ λHf1 H1 Fs1 vs Gs t1 R1 r1 o1=>⟨by rw[vy,←r1.1];exact hl,λp hp=>?_⟩
  obtain⟨t2,R2,n1,n2,n3⟩:=R1.new (o:=.lst vs) hp;refine q _ _ _ (.ref p) (p::Gs.flatten) (t1.trans t2) R2 (pI.news oW n1 (r1.stp o1.out t2)) ?_;have o2:=(yN.one R1 hp).back t1;refine(show yN _ _ _ _ ([p]++Gs.flatten) from o2.app o1 λq hq m=>?_)
  rw[mSq.mp hq]at m;exact(r1.owned p m).1 hp
 .cases e
theorem E8(ha:SA K ta a):SK K (Ve ta) (Jj a):=by
 intro H₀ Hf₀ Hf S σ H Fs av S' R e Q q;obtain⟨x,e1,e⟩:=oBq.mp e;rcases pJ e with ⟨hl,e⟩|e
 .skip
  cases e;refine ha R (as:=x.1) (S':=x.2) e1 _ λHf1 H1 Fs1 vs Gs t1 R1 r1 o1=>⟨by rw[vy,←r1.1];exact hl,λp hp=>?_⟩
  obtain⟨R2,r2,t2⟩:=R1.gives t1 r1 o1;obtain⟨t3,R3⟩:=R2.layF (o:=.tup vs) hp;exact q _ _ _ (.ref p) [] (t2.trans t3) R3 (.sh (.mk_tup oW (r2.mono t3.sf))) .nil
 .cases e
end
def FE(a b:ML):MK:=λS=>(a S).bind λx=>(b x.2).bind λy=>wm (x.1.length+y.1.length<=rG) (some (.ow ((x.1++y.1).map .sh),y.2))
section
variable {K:W.Frag}{ta tb:TE}{a b:ML}
theorem zk(ha:SL K ta a) (hb:SL K tb b):SK K (PD UG ta tb) (FE a b):=by
 intro H₀ Hf₀ Hf S σ H Fs av S' R e Q q;obtain⟨x,e1,e⟩:=oBq.mp e;obtain⟨y,e2,e⟩:=oBq.mp e;rcases pJ e with ⟨hl,e⟩|e
 .skip
  cases e;refine ha R (ds:=x.1) (S':=x.2) e1 _ λHf1 H1 Fs1 p1 vs1 t1 R1 h1 r1=>hb R1 (ds:=y.1) (S':=y.2) e2 _ λHf2 H2 Fs2 p2 vs2 t2 R2 h2 r2=>?_
  refine⟨p1,p2,vs1,vs2,rfl,rfl,t2.sh _ _ h1,h2,by rw[vy,←r1.1,←r2.1];exact hl,λp hp=>?_⟩
  obtain⟨t3,R3,n1,n2,n3⟩:=R2.new (o:=.lst (vs1++vs2)) hp;exact q _ _ _ (.ref p) [p] ((t1.trans t2).trans t3) R3 (pI.new oW n1 ((r1.mono t2.sf).append r2)) ((yN.one R2 hp).back (t1.trans t2))
 .cases e
end
abbrev MO:=AS->Option (Option Int×AS)
def SO(K:W.Frag) (to:TO) (m:MO):Prop:=∀{H₀ Hf₀ Hf:Hp}{S:AS}{σ:St}{H:Hp}{Fs:List (List Addr)}{o:Option Int}{S':AS},qh K H₀ Hf₀ Hf S σ H Fs->m S=some (o,S')->∀Q:Option Int->Hp->Prop,
 (∀Hf' H' Fs',zm Hf H Fs Hf' H' Fs'->qh K H₀ Hf₀ Hf' S' σ H' Fs'->Q o H')->to σ H Q
def yY:MO:=λS=>some (none,S)
def xB(m:ME):MO:=λS=>(m S).bind λx=>match x.1 with
 | .int i=>some (some i,x.2)
 |_=>none
def xi{α:Type}(xs:List α) (lo hi:Option Int):List α:=(xs.drop (HT.Ek xs.length 0 lo)).take (HT.Ek xs.length xs.length hi-HT.Ek xs.length 0 lo)
def LV(l:ML) (lo hi:MO):MK:=λS=>(l S).bind λx=>(lo x.2).bind λy=>(hi y.2).map λz=>(.ow ((xi x.1 y.1 z.1).map .sh),z.2)
section
variable {K:W.Frag}{te:TE}{tl th:TO}{l:ML}{lo hi:MO}{m:ME}
theorem vc:SO K Ki yY:=by
 intro H₀ Hf₀ Hf S σ H Fs o S' R e Q q;cases e;exact q _ _ _ .refl R
theorem tQ(h:SR K te m):SO K (RX te) (xB m):=by
 intro H₀ Hf₀ Hf S σ H Fs o S' R e Q q;obtain⟨x,e1,e⟩:=oBq.mp e;refine h R (d:=x.1) (S':=x.2) e1 _ λHf1 H1 Fs1 v t1 R1 r1=>?_
 split at e
 .rename_i i hx;rw[hx]at r1;cases r1;cases e;exact⟨i,rfl,q _ _ _ t1 R1⟩
 .cases e
theorem qq.cut{H:Hp}{ds:List D}{vs:List V}(r:qq K H ds vs) (lo hi:Option Int):qq K H (xi ds lo hi) (HN vs lo hi):=by
 unfold xi HN;rw[r.1];exact(r.drop _).take _
theorem yJ(hl:SQ K te l) (hlo:SO K tl lo) (hhi:SO K th hi):SK K (Yh (Wk K) te tl th) (LV l lo hi):=by
 intro H₀ Hf₀ Hf S σ H Fs av S' R e Q q;obtain⟨x,e1,e⟩:=oBq.mp e;obtain⟨y,e2,e⟩:=oBq.mp e;obtain⟨z,e3,e⟩:=oMq.mp e;cases e;refine hl R (ds:=x.1) (S':=x.2) e1 _ λHf1 H1 Fs1 p1 vs1 t1 R1 h1 r1=>hlo R1 (o:=y.1) (S':=y.2) e2 _ λHf2 H2 Fs2 t2 R2=>hhi R2 (o:=z.1) (S':=z.2) e3 _ λHf3 H3 Fs3 t3 R3=>?_
 refine⟨p1,vs1,rfl,(t2.sh.trans t3.sh).seq h1,λp hp=>?_⟩
 obtain⟨t4,R4,n1,n2,n3⟩:=R3.new (o:=.lst (HN vs1 y.1 z.1)) hp;exact q _ _ _ (.ref p) [p] (((t1.trans t2).trans t3).trans t4) R4 (pI.new oW n1 ((r1.mono (t2.sf.trans t3.sf)).cut _ _)) ((yN.one R3 hp).back ((t1.trans t2).trans t3))
end
def DJ:D->D->Option D
 | .list ds,.int i=>atI ds i
 | .scr ns,.int i=>(atI ns i).map .int
 |_,_=>none
def Q9:D->D->Option D
 | .tup ds,.int i=>atI ds i
 |_,_=>none
def Qs(l:ML) (b:ME):MK:=λS=>(l S).bind λx=>(b x.2).bind λy=>match y.1 with
 | .int i=>(atI x.1 i).map λd=>(.sh d,y.2)
 |_=>none
def Q7(k:MK) (b:ME):MK:=λS=>(k S).bind λx=>(b x.2).bind λy=>match x.1,y.1 with
 | .sh (.tup ds),.int i=>(atI ds i).map λd=>(.sh d,y.2)
 |_,_=>none
section
variable {K:W.Frag}{ta tb:TE}
theorem qq.atI{H:Hp}{ds:List D}{vs:List V}{i:Int}{d:D}(r:qq K H ds vs) (h:L2.atI ds i=some d):∃v,L2.atI vs i=some v/\rD K H d v:=by
 unfold L2.atI at h ⊢;rw[r.1]at h;obtain⟨j,h1,h2⟩:=oBq.mp h;rw[h1];exact r.get h2
theorem wq:D9 K (N7 K) DJ:=by
 intro x y H Q dx dy d rx ry e q;unfold DJ at e;split at e
 .rename_i ds i;cases ry;obtain⟨p,vs,rfl,h,r⟩:=rx.list_inv;obtain⟨l,e'⟩:=r;obtain⟨v,h1,h2⟩:=qq.atI (K:=K) (H:=H) (ds:=ds) (vs:=vs) ⟨l,e'⟩ e;exact⟨p,vs,i,v,rfl,rfl,tu.of h,h1,q v h2⟩
 .rename_i ns i;cases ry;cases rx;rename_i p h;obtain⟨n,h1,h2⟩:=oMq.mp e;subst h2;obtain⟨v,h3,h4⟩:=qq.atI (K:=K) (H:=H) (tM ns) (i:=i) (d:=.int n) (by
   unfold L2.atI at h1 ⊢;rw[lMq];obtain⟨j,g1,g2⟩:=oBq.mp h1;rw[g1];show (ns.map D.int)[j]?=_;rw[gMq,g2];rfl)
  exact⟨p,_,i,v,rfl,rfl,h,h3,q v h4⟩
 .cases e
theorem UY:D9 K (Sw K) Q9:=by
 intro x y H Q dx dy d rx ry e q;unfold Q9 at e;split at e
 .rename_i ds i;cases ry;obtain⟨p,vs,rfl,h,r⟩:=rx.tup_inv;obtain⟨v,h1,h2⟩:=qq.atI (K:=K) (H:=H) (ds:=ds) (vs:=vs) r e;exact⟨p,vs,i,v,rfl,rfl,DP.of h,h1,q v h2⟩
 .cases e
theorem El{l:ML}{b:ME}(hl:SQ K ta l) (hb:SR K tb b):SK K (PD (N7 K) ta tb) (Qs l b):=by
 intro H₀ Hf₀ Hf S σ H Fs av S' R e Q q;obtain⟨x,e1,e⟩:=oBq.mp e;obtain⟨y,e2,e⟩:=oBq.mp e;refine hl R (ds:=x.1) (S':=x.2) e1 _ λHf1 H1 Fs1 p1 vs1 t1 R1 h1 r1=>hb R1 (d:=y.1) (S':=y.2) e2 _ λHf2 H2 Fs2 v2 t2 R2 r2=>?_
 split at e
 .rename_i i hy;rw[hy]at r2;cases r2;obtain⟨d,e3,e⟩:=oMq.mp e;cases e;obtain⟨v,g1,g2⟩:=(r1.mono t2.sf).atI e3;exact⟨p1,vs1,i,v,rfl,rfl,t2.sh.seq h1,g1,q _ _ _ v [] (t1.trans t2) R2 (.sh g2) .nil⟩
 .cases e
theorem NV{k:MK}{b:ME}(hk:SK K ta k) (hb:SR K tb b):SK K (PD (Sw K) ta tb) (Q7 k b):=by
 intro H₀ Hf₀ Hf S σ H Fs av S' R e Q q;obtain⟨x,e1,e⟩:=oBq.mp e;obtain⟨y,e2,e⟩:=oBq.mp e;refine hk R (a:=x.1) (S':=x.2) e1 _ λHf1 H1 Fs1 v1 F t1 R1 r1 o1=>hb R1 (d:=y.1) (S':=y.2) e2 _ λHf2 H2 Fs2 v2 t2 R2 r2=>?_
 split at e
 .rename_i ds i hx hy;rw[hy]at r2;rw[hx]at r1;cases r2;obtain⟨d,e3,e⟩:=oMq.mp e;cases e;obtain⟨p,vs,rfl,h1,h2⟩:=(r1.sh_inv.2.mono t2.sf).tup_inv;obtain⟨v,g1,g2⟩:=h2.atI e3;exact⟨p,vs,i,v,rfl,rfl,DP.of (R2.sub _ _ h1),g1,q _ _ _ v [] (t1.trans t2) R2 (.sh g2) .nil⟩
 .cases e
end
def Vk(K:W.Frag) (r:List V->Hp->VK->Prop) (f:List D->Option D):Prop:=∀{vs:List V}{H:Hp}{Q:VK}{ds:List D}{d:D},qq K H ds vs->f ds=some d->(∀v,rD K H d v->Q v H)->r vs H Q
def xv(f:List D->Option D) (a:ML):ME:=λS=>(a S).bind λx=>(f x.1).map λd=>(d,x.2)
theorem qN{K:W.Frag}{r:List V->Hp->VK->Prop}{f:List D->Option D}{ta:TA}{a:ML}(hr:Vk K r f) (ha:Rj K ta a):SR K (JH r ta) (xv f a):=by
 intro H₀ Hf₀ Hf S σ H Fs d S' R e Q q;obtain⟨x,e1,e⟩:=oBq.mp e;obtain⟨z,e3,e⟩:=oMq.mp e;cases e;exact ha R (ds:=x.1) (S':=x.2) e1 _ λHf1 H1 Fs1 vs t1 R1 r1=>hr r1 e3 λv rv=>q _ _ _ v t1 R1 rv
def uN:List D->Option D
 | [.list ds]=>some (.int ds.length)
 | [.tup ds]=>some (.int ds.length)
 | [.scr ns]=>some (.int ns.length)
 | [.str x]=>wm (x.length<=rG) (some (.int x.length))
 |_=>none
def zU:List D->Option D
 | [.int i]=>some (.int (if i<0 then -i else i))
 |_=>none
def XZ:List D->Option D
 | [.int i,.int j]=>some (.int (if j>i then j else i))
 |_=>none
def Yf:List D->Option D
 | [.int i,.int j]=>some (.int (if j<i then j else i))
 |_=>none
def X0:List D->Option D
 | [.int i]=>some (.int i)
 | [.bl k]=>some (.int (if k then 1 else 0))
 |_=>none
def Xa:D->String->Option D
 | .int _,T=>if T = "int" then some (.bl true) else if T = "bool" then some (.bl false) else none
 | .bl _,T=>if T = "bool" ∨ T = "int" then some (.bl true) else none
 | .str _,T=>if T = "str" then some (.bl true) else none
 | .list _,T=>if T = "list" then some (.bl true) else none
 | .tup _,T=>if T = "tuple" then some (.bl true) else none
 | .dict _,T=>if T = "dict" then some (.bl true) else none
 |_,_=>none
def Mb:List D->Option D
 | [x,.ty T]=>Xa x T
 |_=>none
def rJ:List D->Option (List Int)
 | []=>some []
 | .int i::ds=>(rJ ds).map (i :: ·)
 |_=>none
theorem uF:∀{ds:List D}{ns:List Int},rJ ds=some ns->ds=ns.map .int
 | [],ns,h=>by cases h;rfl
 |d::ds,ns,h=>by
  cases d with
  |int i =>
   obtain⟨ms,h1,h2⟩:=oMq.mp (show (rJ ds).map (i :: ·)=some ns from h)
   subst h2;rw[uF h1];rfl
  |_=>cases h
@[simp] theorem ur (ns:List Int):rJ (ns.map .int)=some ns:=by
 induction ns with
 |nil=>rfl
 |cons n ns ih=>show (rJ (ns.map .int)).map (n :: ·)=_;rw[ih];rfl
theorem qV{K:W.Frag}{H:Hp}:∀{ns:List Int}{vs:List V},qq K H (ns.map .int) vs->vs=ns.map V.int
 | [],vs,h=>h.nil_inv
 |n::ns,vs,h=>by
  obtain⟨v,ws,rfl,h1,h2⟩:=qq.cons_inv (d:=.int n) (ds:=ns.map .int) h;cases h1;rw[qV h2];rfl
def Jw:List Int->Option Int
 | []=>none
 |n::ns=>some (ns.foldl min n)
theorem xj:∀(ns:List Int) (n:Int),ns.foldl min n∈n::ns
 | [],n=>by simp
 |m::ns,n=>by
  have h:=xj ns (min n m);rw[cj];rcases ag.mp h with e|e
  .rw [e]
   by_cases c:n<=m
   .rw [Int.min_eq_left c];simp
   .rw [Int.min_eq_right (by lia)];simp
  .exact mCo _ (mCo _ e)
theorem vY:∀(ns:List Int) (n:Int),(ns.foldl min n<=n)/\∀x∈ns,ns.foldl min n<=x
 | [],n=>⟨iD _,λx h=>by cases h⟩
 |m::ns,n=>by
  obtain⟨h1,h2⟩:=vY ns (min n m);rw[cj];refine⟨by lia,λx hx=>?_⟩
  rcases ag.mp hx with e|e
  .subst e;lia
  .exact h2 x e
def QE:List D->Option D
 | [.list ds]=>(rJ ds).bind λns=>(Jw ns).map .int
 |_=>none
section
variable {K:W.Frag}
theorem rW:Vk K (λxs H Q=>∃x n,xs=[x]/\Vz K x H n/\Q (.int n) H) uN:=by
 intro vs H Q ds d r e q;unfold uN at e;split at e
 .obtain ⟨v,ws,rfl,h1,h2⟩:=r.cons_inv;rw[h2.nil_inv];obtain⟨p,us,rfl,h3,h4⟩:=h1.list_inv;cases e;exact⟨_,_,rfl,.inl ⟨us,tu.of h3,h4.1⟩,q _ .int⟩
 .obtain ⟨v,ws,rfl,h1,h2⟩:=r.cons_inv;rw[h2.nil_inv];obtain⟨p,us,rfl,h3,h4⟩:=h1.tup_inv;cases e;exact⟨_,_,rfl,.inr ⟨us,DP.of h3,h4.1⟩,q _ .int⟩
 .obtain ⟨v,ws,rfl,h1,h2⟩:=r.cons_inv;rw[h2.nil_inv];cases e;cases h1 with
  |scr h=>exact⟨_,_,rfl,.inl ⟨_,h,(lMq _).symm⟩,q _ .int⟩
 .rcases pJ e with ⟨hl,e⟩|e
  .skip
   obtain⟨v,ws,rfl,h1,h2⟩:=r.cons_inv;rw[h2.nil_inv];cases e;cases h1;exact⟨_,_,rfl,⟨by rw[vy];exact hl,rfl⟩,q _ .int⟩
  .cases e
 .cases e
theorem yA:Vk K (λxs H Q=>∃i,xs=[.int i]/\Q (.int (if i<0 then -i else i)) H) zU:=by
 intro vs H Q ds d r e q;unfold zU at e;split at e
 .obtain ⟨v,ws,rfl,h1,h2⟩:=r.cons_inv;rw[h2.nil_inv];cases h1;cases e;exact⟨_,rfl,q _ .int⟩
 .cases e
theorem OT:Vk K (λxs H Q=>∃(a:Addr) (ns:List Int),xs=[.ref a]/\tu K H a (ns.map V.int)/\0<ns.length/\∀M,M∈ns->(∀x,x∈ns->M<=x)->Q (.int M) H) QE:=by
 intro vs H Q ds d r e q;unfold QE at e;split at e
 .obtain ⟨v,ws,rfl,h1,h2⟩:=r.cons_inv;rw[h2.nil_inv];obtain⟨ns,e1,e⟩:=oBq.mp e;obtain⟨m,e2,e⟩:=oMq.mp e;cases e;rw[uF e1]at h1;obtain⟨p,us,rfl,h3,h4⟩:=h1.list_inv;rw[qV h4]at h3;cases ns with
  |nil=>cases e2
  |cons n ns =>
   cases e2;refine⟨p,_,rfl,tu.of h3,by simp,λM hM hm=>?_⟩
   have e3:M=ns.foldl min n:=by
    have a1:=hm _ (xj ns n);have a2:=vY ns n;have a3:ns.foldl min n<=M:=by
     rcases ag.mp hM with z|z
     .subst z;exact a2.1
     .exact a2.2 M z
    lia
   rw[e3];exact q _ .int
 .cases e
theorem Uv:Vk K (λxs H Q=>∃x T b,xs=[x,.ty T]/\U3 K x H T b/\Q (.bl b) H) Mb:=by
 intro vs H Q ds d r e q;unfold Mb at e;split at e
 rotate_left
 .cases e
 rename_i x T;obtain⟨v,ws,rfl,h1,h2⟩:=r.cons_inv;obtain⟨u,zs,rfl,h3,h4⟩:=h2.cons_inv;rw[h4.nil_inv];cases h3;unfold Xa at e;cases x <;> first|(cases e;done)|dsimp only at e
 case int =>
  cases h1;split at e
  .rename_i hT;cases e;exact⟨_,_,_,rfl,.inl ⟨hT,rfl⟩,q _ .bl⟩
  .split at e
   .rename_i hT;cases e;exact⟨_,_,_,rfl,.inr ⟨hT,rfl⟩,q _ .bl⟩
   .cases e
 case bl =>
  cases h1;split at e
  .rename_i hT;cases e;rcases hT with hT|hT
   .exact ⟨_,_,_,rfl,.inl ⟨hT,rfl⟩,q _ .bl⟩
   .exact ⟨_,_,_,rfl,.inr ⟨hT,rfl⟩,q _ .bl⟩
  .cases e
 case str =>
  cases h1;split at e
  .rename_i hT;cases e;exact⟨_,_,_,rfl,⟨hT,rfl⟩,q _ .bl⟩
  .cases e
 case list =>
  obtain⟨p,us,rfl,g3,g4⟩:=h1.list_inv;split at e
  .rename_i hT;cases e;exact⟨_,_,_,rfl,.inl ⟨hT,rfl,us,tu.of g3⟩,q _ .bl⟩
  .cases e
 case tup =>
  obtain⟨p,us,rfl,g3,g4⟩:=h1.tup_inv;split at e
  .rename_i hT;cases e;exact⟨_,_,_,rfl,.inr (.inr ⟨hT,rfl,us,DP.of g3⟩),q _ .bl⟩
  .cases e
 case dict =>
  obtain⟨p,us,rfl,g3,g4⟩:=h1.dict_inv;split at e
  .rename_i hT;cases e;exact⟨_,_,_,rfl,.inr (.inl ⟨hT,rfl,us,g3⟩),q _ .bl⟩
  .cases e
end
abbrev MF:=List D->Option AV
def ud(K:W.Frag) (f:MF):Sp:=λvs H Q _=>∃(Hf:Hp) (ds:List D) (a:AV),qk Hf H/\qq K Hf ds vs/\f ds=some a /\
 ∀Hf' H' v F,qk Hf Hf'->qk H H'->qk Hf' H'->(∀b,Hf b=none->H b≠none->Hf' b=none)->pI K Hf' H' a v F->F.Nodup->(∀q∈F,H q=none)->Q v H'
def qM(f:MF) (a:MA):MK:=λS=>(a S).bind λx=>(f (x.1.map oK)).map λr=>(r,x.2)
theorem pU{K:W.Frag}{f:MF}{ta:TA}{a:MA}(ha:SA K ta a):SK K (Gj (ud K f) [] E0 ta) (qM f a):=by
 intro H₀ Hf₀ Hf S σ H Fs av S' R e Q q;obtain⟨x,e1,e⟩:=oBq.mp e;obtain⟨z,e3,e⟩:=oMq.mp e;cases e;refine ha R (as:=x.1) (S':=x.2) e1 _ λHf1 H1 Fs1 vs Gs t1 R1 r1 o1=>?_
 obtain⟨R2,r2,t2⟩:=R1.gives t1 r1 o1;rw[aNq];refine⟨_,_,av,R2.sub,r2,e3,λHf' H' v F s1 s2 s3 l r nd fr=>?_⟩
 have t3:zm (Z.frz Hf1 H1 Gs.flatten) H1 Fs1 Hf' H' Fs1:=⟨s1,s2,λ_ h=>h,λb h g=>.inl (by
  by_cases e:H1 b=none
  .exact e
  .exact absurd (l b h e) g)⟩
 have hn:∀q∈Fs1.flatten,Hf' q=none:=λq hq=>l q (R2.mem hq).2 (R2.mem hq).1
 have R3:qh K H₀ Hf₀ Hf' x.2 σ H' Fs1:=R2.more s2 s1 s3 hn λb h1 h2=>l b (R2.lim b h1 h2) (Qe R2.fr h2)
 refine q _ _ _ v F (t2.trans t3) R3 r ⟨nd,λq hq=>R2.fr.free (fr q hq),λq hq m=>(R2.mem m).1 (fr q hq),λq hq=>.inl (t1.sh.free (fr q hq))⟩
inductive LY where
 |nx (S:AS)|rt (a:AV)|bk (S:AS)|ct (S:AS)
abbrev MS:=AS->Option LY
def D0(K:W.Frag) (H₀ Hf₀ Hf:Hp) (D:Bw):LY->Prop
 | .nx S=>∀Hf' σ' H' Fs',qk Hf Hf'->qh K H₀ Hf₀ Hf' S σ' H' Fs'->D.nx σ' H'
 | .bk S=>∀Hf' σ' H' Fs',qk Hf Hf'->qh K H₀ Hf₀ Hf' S σ' H' Fs'->D.bk σ' H'
 | .ct S=>∀Hf' σ' H' Fs',qk Hf Hf'->qh K H₀ Hf₀ Hf' S σ' H' Fs'->D.ct σ' H'
 | .rt a=>∀Hf' H' v F,qk Hf₀ Hf'->qk H₀ H'->qk Hf' H'->(∀b,Hf₀ b=none->H₀ b≠none->Hf' b=none)->pI K Hf' H' a v F->F.Nodup->(∀q∈F,H₀ q=none)->D.rt v H'
def SS(K:W.Frag) (t:TS) (m:MS):Prop:=∀{H₀ Hf₀ Hf:Hp}{S:AS}{σ:St}{H:Hp}{Fs:List (List Addr)}{o:LY},qh K H₀ Hf₀ Hf S σ H Fs->m S=some o->∀D:Bw,D0 K H₀ Hf₀ Hf D o->t D σ H
theorem D0.mono{K:W.Frag}{H₀ Hf₀ Hf Hf':Hp}{D:Bw}{o:LY}(s:qk Hf Hf') (h:D0 K H₀ Hf₀ Hf D o):D0 K H₀ Hf₀ Hf' D o:=by
 cases o with
 |nx S=>exact λHf2 σ' H' Fs' s2 R=>h Hf2 σ' H' Fs' (s.trans s2) R
 |bk S=>exact λHf2 σ' H' Fs' s2 R=>h Hf2 σ' H' Fs' (s.trans s2) R
 |ct S=>exact λHf2 σ' H' Fs' s2 R=>h Hf2 σ' H' Fs' (s.trans s2) R
 |rt a=>exact h
def ux:MS:=λS=>some (.nx S)
def HF:MS:=λS=>some (.bk S)
def Yl:MS:=λS=>some (.ct S)
def Xb:MS:=λ_=>none
def oY(a b:MS):MS:=λS=>(a S).bind λo=>match o with
 | .nx S'=>b S'
 |o=>some o
def qb(i:Nat) (k:MK):MS:=λS=>(k S).map λx=>.nx (x.2.set i (some x.1))
def Ym(k:MK):MS:=λS=>(k S).map λx=>.nx x.2
def tV(k:MK):MS:=λS=>(k S).map λx=>.rt x.1
def Dy(c:MT) (a b:MS):MS:=λS=>(c S).bind λx=>if x.1=true then a x.2 else b x.2
section
variable {K:W.Frag}{t u:TS}{a b:MS}{te:TE}{k:MK}
theorem qU:SS K RW ux:=by
 intro H₀ Hf₀ Hf S σ H Fs o R e D h;cases e;exact h _ _ _ _ (.refl _) R
theorem NX:SS K OP HF:=by
 intro H₀ Hf₀ Hf S σ H Fs o R e D h;cases e;exact h _ _ _ _ (.refl _) R
theorem oA(ha:SS K t a) (hb:SS K u b):SS K (Va t u) (oY a b):=by
 intro H₀ Hf₀ Hf S σ H Fs o R e D h;obtain⟨x,e1,e⟩:=oBq.mp e;refine ha R e1 _ ?_;cases x with
 |nx S'=>exact λHf' σ' H' Fs' s R'=>hb R' e D (h.mono s)
 |rt a=>cases e;exact h
 |bk a=>cases e;exact h
 |ct a=>cases e;exact h
theorem oO{i:Nat}(hk:SK K te k):SS K (Fg te (tX i)) (qb i k):=by
 intro H₀ Hf₀ Hf S σ H Fs o R e D h;obtain⟨x,e1,e⟩:=oMq.mp e;cases e;refine hk R (a:=x.1) (S':=x.2) e1 _ λHf1 H1 Fs1 v F t1 R1 r1 o1=>?_
 exact h _ _ _ _ t1.sf (R1.set i r1 o1.nd λq hq=>⟨o1.fr q hq,o1.out q hq⟩)
theorem qm(hk:SK K te k):SS K (S5 te) (tV k):=by
 intro H₀ Hf₀ Hf S σ H Fs o R e D h;obtain⟨x,e1,e⟩:=oMq.mp e;cases e;exact hk R (a:=x.1) (S':=x.2) e1 _ λHf1 H1 Fs1 v F t1 R1 r1 o1=>h _ _ v F R1.sf R1.fr R1.sub R1.lim r1 o1.nd o1.fr
theorem uC{c:TT}{m:MT}(hc:E3 K c m) (ha:SS K t a) (hb:SS K u b):SS K (Wh c t u) (Dy m a b):=by
 intro H₀ Hf₀ Hf S σ H Fs o R e D h;obtain⟨x,e1,e⟩:=oBq.mp e;refine hc R (b:=x.1) (S':=x.2) e1 _ λHf1 H1 Fs1 t1 R1=>?_
 split at e
 .rename_i hx;rw[hx];exact HZ (ha R1 e D (h.mono t1.sf))
 .rename_i hx;rw[dY]at hx;rw[hx];exact IX (hb R1 e D (h.mono t1.sf))
end
def rE(S:AS) (i:Nat):Option (List AV):=match S[i]?.join with
 |some (.ow avs)=>some avs
 |_=>none
def vO(S:AS) (i:Nat):Option (List (oS×D)):=match S[i]?.join with
 |some (.owd kvs)=>some kvs
 |_=>none
def CW(i:Nat) (k:MK):MS:=λS=>(rE S i).bind λ_=>(k S).bind λx=>(rE x.2 i).bind λavs =>
 wm (avs.length<rG) (some (.nx (x.2.set i (some (.ow (avs++[x.1]))))))
def L1(i:Nat) (l:ML):MS:=λS=>(rE S i).bind λ_=>(l S).bind λx=>(rE x.2 i).bind λavs =>
 wm (avs.length+x.1.length<=rG) (some (.nx (x.2.set i (some (.ow (avs++x.1.map .sh))))))
def intOf:D->Option Int
 | .int i=>some i
 |_=>none
def T4(i:Nat) (b:ME) (k:MK):MS:=λS=>(vU k S).bind λx=>(rE x.2 i).bind λ_=>(b x.2).bind λy=>(rE y.2 i).bind λavs=>(intOf y.1).bind λj=>(Eb avs.length j).map λn =>
 .nx (y.2.set i (some (.ow (((avs.map oK).set n (oK x.1)).map .sh))))
def vp:D->Option oS
 | .int i=>some (.inl i)
 | .str x=>some (.inr x)
 |_=>none
def wK(kvs:List (oS×D)) (k:oS) (d:D):List (oS×D):=if kvs.any (λkv=>decide (kv.1=k)) then kvs.map (λkv=>if kv.1=k then (kv.1,d) else kv) else kvs++[(k,d)]
def getD(kvs:List (oS×D)) (k:oS):Option D:=(kvs.find? λkv=>decide (kv.1=k)).map (·.2)
def AC(i:Nat) (b:ME) (k:MK):MS:=λS=>(vU k S).bind λx=>(vO x.2 i).bind λ_=>(b x.2).bind λy=>(vO y.2 i).bind λkvs=>(vp y.1).bind λkey =>
 wm (kvs.length<rG) (some (.nx (y.2.set i (some (.owd (wK kvs key (oK x.1)))))))
section
variable {K:W.Frag}{H₀ Hf₀ Hf H:Hp}{S:AS}{σ:St}{Fs:List (List Addr)}
theorem qh.turn(R:qh K H₀ Hf₀ Hf S σ H Fs) {i:Nat}{av:AV}{p:Addr}{o:HO}{F F':List Addr}(s1:σ[i]?=some (some (.ref p))) (s2:Fs[i]?=some F) (hp:p∈F) (r:pI K Hf (qH H p o) av (.ref p) F') (nd:F'.Nodup)
  (hf:∀q∈F',H₀ q=none/\q∉(Fs.set i []).flatten):qh K H₀ Hf₀ Hf (S.set i (some av)) σ (qH H p o) (Fs.set i F'):=by
 have hin:p∈Fs.flatten:=mFq.mpr ⟨F,mGq s2,hp⟩;have pn:Hf p=none:=(R.mem hin).2;have p0:H₀ p=none:=R.fresh p hin;have out:=uX R.nd s2 hp;have R1:qh K H₀ Hf₀ Hf (S.set i none) σ (qH H p o) (Fs.set i []):=by
  refine⟨by simp[R.len],by simp[R.lenF],λj a ej=>?_,λj ej=>?_,sj i R.nd bp (λp hp=>by cases hp),λp hp=>R.fresh p (qR hp),λb u e=>?_,λb u e=>?_,R.lim,R.sf⟩
  .rw [bI]at ej
   by_cases hij:i=j
   .subst hij;rw[pe rfl]at ej;split at ej <;> cases ej
   .rw [pD hij]at ej;obtain⟨w,G,f1,f2,q⟩:=R.rep j a ej;refine⟨w,G,f1,by rw[aX hij];exact f2,q.keep (.refl _) (λc hc=>oQ λe=>out ?_) λc hc=>(q.owned c hc).2⟩
    subst e;exact mFq.mpr ⟨G,mGq (i:=j) (by rw[aX hij];exact f2),hc⟩
  .rw [bI]at ej
   by_cases hij:i=j
   .subst hij;rw[pe rfl]at ej;split at ej
    .rename_i hi;rw[aZ (R.lenF.symm ▸ hi)]
    .cases ej
   .rw [pD hij]at ej;rw[aX hij];exact R.emp j ej
  .rw [oQ λz=>by rw[z,pn]at e;cases e]
   exact R.sub b u e
  .rw [oQ λz=>by rw[z,p0]at e;cases e]
   exact R.fr b u e
 exact R1.again (F:=F) s1 r nd hf
theorem qv{i:Nat}{F:List Addr}{q:Addr}(s2:Fs[i]?=some F) (h:q∈F):q∈Fs.flatten:=mFq.mpr ⟨F,mGq s2,h⟩
theorem pY.snoc{as:List AV}{vs:List V}{Gs:List (List Addr)}{a:AV}{v:V}{F:List Addr}(r:pY K Hf H as vs Gs) (s:pI K Hf H a v F):pY K Hf H (as++[a]) (vs++[v]) (Gs++[F]):=by
 obtain⟨h1,h2,h3⟩:=r;refine⟨by simp[h1],by simp[h2],λi b w G e1 e2 e3=>?_⟩
 by_cases hi:i<as.length
 .rw [gZq hi]at e1;rw[gZq (h1 ▸ hi)]at e2;rw[gZq (h2 ▸ hi)]at e3;exact h3 i b w G e1 e2 e3
 .have hi':i=as.length:=by
   have:=(gSq.mp e1).1;rw[lAq,lSq]at this;lia
  subst hi';rw[gYq (ai _),eO]at e1;rw[h1,gYq (ai _),eO]at e2;rw[h2,gYq (ai _),eO]at e3;cases e1;cases e2;cases e3;exact s
theorem pY.keepUpd{as:List AV}{vs:List V}{Gs:List (List Addr)}{p:Addr}{o:HO}(r:pY K Hf H as vs Gs) (hp:p∉Gs.flatten):pY K Hf (qH H p o) as vs Gs :=
 ⟨r.1,r.2.1,λi a v F h1 h2 h3=>by
  have q:=r.2.2 i a v F h1 h2 h3;refine q.keep (.refl _) (λc hc=>oQ λe=>hp ?_) λc hc=>(q.owned c hc).2
  subst e;exact mFq.mpr ⟨F,mGq h3,hc⟩⟩
theorem pI.keepUpd{a:AV}{v:V}{F:List Addr}{p:Addr}{o:HO}(q:pI K Hf H a v F) (hp:p∉F):pI K Hf (qH H p o) a v F :=
 q.keep (.refl _) (λc hc=>oQ λe=>hp (e ▸ hc)) λc hc=>(q.owned c hc).2
theorem P6{ds:List D}{vs:List V}(r:qq K Hf ds vs):pY K Hf H (ds.map .sh) vs (aK ds.length []) :=
 ⟨by simp[r.1],by simp,λi a v F h1 h2 h3=>by
  rw[gMq]at h1;cases q:ds[i]? with
  |none=>rw[q]at h1;cases h1
  |some d =>
   rw[q]at h1;cases h1;have:F=[]:=dR (mGq h3);subst this;exact .sh (r.2 i d v q h2)⟩
theorem pY.append{as bs:List AV}{vs ws:List V}{Gs Es:List (List Addr)}(r:pY K Hf H as vs Gs) (s:pY K Hf H bs ws Es):pY K Hf H (as++bs) (vs++ws) (Gs++Es):=by
 obtain⟨h1,h2,h3⟩:=r;refine⟨by simp[h1,s.1],by simp[h2,s.2.1],λi b w G e1 e2 e3=>?_⟩
 by_cases hi:i<as.length
 .rw [gZq hi]at e1;rw[gZq (h1 ▸ hi)]at e2;rw[gZq (h2 ▸ hi)]at e3;exact h3 i b w G e1 e2 e3
 .rw [gYq (by lia)]at e1
  rw[gYq (by lia),←h1]at e2
  rw[gYq (by lia),←h2]at e3
  exact s.2.2 _ b w G e1 e2 e3
end
section
variable {K:W.Frag}{te ta tb:TE}{k:MK}{b:ME}{l:ML}
theorem qw{S:AS}{i:Nat}{avs:List AV}(h:rE S i=some avs):S[i]?=some (some (.ow avs)):=by
 unfold rE at h;split at h
 .rename_i z e;cases h;exact pS e
 .cases h
theorem Ao{S:AS}{i:Nat}{kvs:List (oS×D)}(h:vO S i=some kvs):S[i]?=some (some (.owd kvs)):=by
 unfold vO at h;split at h
 .rename_i z e;cases h;exact pS e
 .cases h
theorem qh.ow{H₀ Hf₀ Hf H:Hp}{S:AS}{σ:St}{Fs:List (List Addr)}(R:qh K H₀ Hf₀ Hf S σ H Fs) {i:Nat}{avs:List AV}(h:S[i]?=some (some (.ow avs))):∃p vs Gs,σ[i]?=some (some (.ref p))/\Fs[i]?=some (p::Gs.flatten)/\H p=some (.lst vs)/\Hf p=none/\pY K Hf H avs vs Gs /\
  p∉Gs.flatten/\Gs.flatten.Nodup/\∀q∈p::Gs.flatten,H₀ q=none/\q∉(Fs.set i []).flatten:=by
 obtain⟨v,F,s1,s2,r,nd,o,_⟩:=R.move h;obtain⟨p,vs,Gs,rfl,rfl,h1,h2,h3⟩:=r.ow_inv;exact⟨p,vs,Gs,s1,s2,h1,h2,h3,(aA.mp nd).1,(aA.mp nd).2,o⟩
theorem yx{i:Nat}(hk:SK K te k):SS K (Ef (Qr K "list" A3 (xq i) (uM te xQ))) (CW i k):=by
 intro H₀ Hf₀ Hf S σ H Fs o R e D h;obtain⟨a0,e0,e⟩:=oBq.mp e;obtain⟨x,e1,e⟩:=oBq.mp e;obtain⟨avs,e2,e⟩:=oBq.mp e;rcases pJ e with ⟨hl,e⟩|e
 .skip
  cases e;obtain⟨p,vs,Gs,s1,_,h1,_⟩:=R.ow (qw e0);refine⟨.ref p,s1,.inl ⟨rfl,vs,tu.of h1⟩,hk R (a:=x.1) (S':=x.2) e1 _ λHf1 H1 Fs1 v F t1 R1 r1 o1=>?_⟩
  obtain⟨p',vs',Gs',s1',s2',h1',h2',h3',h4',h5',h6'⟩:=R1.ow (qw e2);rw[s1]at s1';cases s1';have pF:p∉F:=λm=>o1.out p m (qv s2' (by simp))
  refine⟨p,vs',v,rfl,rfl,h1',by rw[vy,←h3'.1];exact hl,h _ _ _ _ t1.sf (R1.turn s1 s2' (by simp) (F':=p::(Gs'++[F]).flatten) (pI.news oW h2' ((h3'.keepUpd h4').snoc (r1.keepUpd pF))) ?_ λq hq=>?_)⟩
  .rw [fAq,cx];refine aA.mpr ⟨λm=>(mAq.mp m).elim h4' pF,nAq.mpr ⟨h5',o1.nd,λa ha b hb e=>o1.out b hb (qv s2' (mCo _ (e ▸ ha)))⟩⟩
  .rw [fAq,cx]at hq;rcases ag.mp hq with z|z
   .exact h6' q (by rw[z];simp)
   .rcases mAq.mp z with z|z
    .exact h6' q (mCo _ z)
    .exact ⟨o1.fr q z,λm=>o1.out q z (qR m)⟩
 .cases e
theorem Im{i:Nat}(hl:SL K te l):SS K (Ef (Qr K "list" JE (xq i) (uM te xQ))) (L1 i l):=by
 intro H₀ Hf₀ Hf S σ H Fs o R e D h;obtain⟨a0,e0,e⟩:=oBq.mp e;obtain⟨x,e1,e⟩:=oBq.mp e;obtain⟨avs,e2,e⟩:=oBq.mp e;rcases pJ e with ⟨hle,e⟩|e
 .skip
  cases e;obtain⟨p,vs,Gs,s1,_,h1,_⟩:=R.ow (qw e0);refine⟨.ref p,s1,.inl ⟨rfl,vs,tu.of h1⟩,hl R (ds:=x.1) (S':=x.2) e1 _ λHf1 H1 Fs1 b ws t1 R1 hb r1=>?_⟩
  obtain⟨p',vs',Gs',s1',s2',h1',h2',h3',h4',h5',h6'⟩:=R1.ow (qw e2);rw[s1]at s1';cases s1';refine⟨p,b,vs',ws,rfl,rfl,h1',hb,by rw[vy,←h3'.1,←r1.1];exact hle,h _ _ _ _ t1.sf (R1.turn s1 s2' (by simp) (F':=p::(Gs'++aK x.1.length []).flatten) (pI.news oW h2' ((h3'.keepUpd h4').append (P6 r1))) ?_ λq hq=>?_)⟩
  .rw [fAq,wj,aNq];exact aA.mpr ⟨h4',h5'⟩
  .rw [fAq,wj,aNq]at hq;exact h6' q hq
 .cases e
theorem Ue{i:Nat}(hk:SK K te k) (hb:SR K tb b):SS K (Fg te (Vr (xq i) tb R7)) (T4 i b k):=by
 intro H₀ Hf₀ Hf S σ H Fs o R e D h;obtain⟨x,e1,e⟩:=oBq.mp e;obtain⟨a0,e0,e⟩:=oBq.mp e;obtain⟨y,e2,e⟩:=oBq.mp e;obtain⟨avs,e3,e⟩:=oBq.mp e;obtain⟨j,e4,e⟩:=oBq.mp e;obtain⟨n,e5,e⟩:=oMq.mp e;cases e;have hk':SK K te (vU k):=SK.frz hk;refine hk' R (a:=x.1) (S':=x.2) e1 _ λHf1 H1 Fs1 v F t1 R1 r1 o1=>?_
 obtain⟨p',_,_,s1,_⟩:=R1.ow (qw e0);refine⟨_,s1,hb R1 (d:=y.1) (S':=y.2) e2 _ λHf2 H2 Fs2 w t2 R2 r2=>?_⟩
 obtain⟨q',vs',Gs',s1',s2',h1',h2',h3',h4',h5',h6'⟩:=R2.ow (qw e3);rw[s1]at s1';cases s1';cases hy:y.1 with
 |int z =>
  rw[hy]at e4 r2;cases e4;cases r2;obtain⟨x1,hx1⟩:∃d,x.1 = .sh d:=by
   obtain⟨w,_,e⟩:=oMq.mp e1;rw[←e];exact⟨_,rfl⟩
  rw[hx1]at r1;have rv:=(r1.sh_inv.2).mono t2.sf;have n1:∀q∈Gs'.flatten,Hf2 q=none:=λq hq=>(h3'.owned q hq).2
  refine⟨p',vs',_,n,rfl,rfl,h1',by rw[←h3'.1];exact e5,?_⟩
  obtain⟨v0,F0,t1',t2',r0,nd0,o0,R0⟩:=R2.move (qw e3);have R4:=R0.frz (F:=Gs'.flatten) (λq hq=>h6' q (mCo _ hq)) n1
  have r4:=h3'.frozen (rA (H:=H2) n1) λq hq=>za hq
  have r5:pI K (Z.frz Hf2 H2 Gs'.flatten) H2 (.ow ((avs.map oK).map .sh)) (.ref p') [p']:=pI.new h1' (by rw[tJ h4'];exact h2') r4
  have R5:=R4.again (F:=p'::Gs'.flatten) (G:=[p']) s1 r5 (by simp) λq hq=>by rw[mSq.mp hq];exact h6' p' (by simp)
  have s5:(Fs2.set i [p'])[i]?=some [p']:=by
   have hi:i<Fs2.length:=(gSq.mp s2').1;rw[aZ hi]
  have R6:=R5.turn (o:=.lst (vs'.set n v)) s1 s5 (by simp) (F':=[p']) (pI.new oW (by rw[tJ h4'];exact h2') (r4.set (rv.mono (rA n1)) n)) (by simp) λq hq=>by
   rw[mSq.mp hq,eP];exact h6' p' (by simp)
  rw[eP,eP]at R6;rw[hx1,sr]at h;exact h _ _ _ _ ((t1.sf.trans t2.sf).trans (rA n1)) R6
 |_=>rw[hy]at e4;cases e4
theorem Bb{H:Hp}:∀{ds:List (oS×D)}{kvs:List (oS×V)}{key:oS},tY K H ds kvs->match getD ds key with
  |some d=>∃v,vm kvs key=some v/\rD K H d v
  |none=>vm kvs key=none
 | [],kvs,key,h=>by
  have:kvs=[]:=by
   have:=congrArg bD h.1;simpa using this.symm
  subst this;rfl
 |d::ds,[],key,h=>by
  have:=congrArg bD h.1;simp at this
 |d::ds,v::kvs,key,h=>by
  have h1:d.1=v.1/\ds.map (·.1)=kvs.map (·.1):=by
   have:=h.1;simpa using this
  have h2:rD K H d.2 v.2:=h.2 0 d v rfl rfl;have ht:tY K H ds kvs:=⟨h1.2,λi a b e1 e2=>h.2 (i+1) a b (by simpa using e1) (by simpa using e2)⟩
  unfold getD vm
  by_cases c:d.1=key
  .rw [dB (by simp[c]),dB (by simp[←h1.1,c])]
   exact⟨v.2,rfl,h2⟩
  .rw [cO (by simp[c]),cO (by simp[←h1.1,c])]
   exact Bb ht
theorem wk{H:Hp}{d:D}{v:V}{key:oS}(h:vp d=some key) (r:rD K H d v):v=kV key:=by
 cases r <;> simp only[vp]at h
 all_goals first|(exfalso;simp at h;done)|skip
 all_goals (cases h;rfl)
theorem tY.key{H:Hp}{ds:List (oS×D)}{kvs:List (oS×V)}(h:tY K H ds kvs) {i:Nat}{d:oS×D}{v:oS×V}(e1:ds[i]?=some d) (e2:kvs[i]?=some v):d.1=v.1:=by
 have:=congrArg (λl=>l[i]?) h.1
 simp only[gMq,e1,e2,cM]at this;exact aJ.inj this
theorem tY.len{H:Hp}{ds:List (oS×D)}{kvs:List (oS×V)}(h:tY K H ds kvs):ds.length=kvs.length:=by
 have:=congrArg bD h.1;simpa using this
theorem G9{H:Hp}{ds:List (oS×D)}{kvs:List (oS×V)}{key:oS}{d:D}{v:V}(h:tY K H ds kvs) (r:rD K H d v):tY K H (wK ds key d) (wL kvs key v):=by
 have ha:(ds.any λkv=>decide (kv.1=key))=kvs.any λkv=>decide (kv.1=key):=by
  have e1:(ds.any λkv=>decide (kv.1=key))=(ds.map (·.1)).any λk=>decide (k=key):=by rw[jg];rfl
  have e2:(kvs.any λkv=>decide (kv.1=key))=(kvs.map (·.1)).any λk=>decide (k=key):=by rw[jg];rfl
  rw[e1,e2,h.1]
 unfold wK wL;rw[ha];split
 .refine ⟨?_,λi a b e1 e2=>?_⟩
  .rw [mPq,mPq];have e1:((λkv:oS×D=>kv.1)∘λkv:oS×D=>if kv.1=key then (kv.1,d) else kv)=λkv=>kv.1:=by
    funext kv;show (if kv.1=key then (kv.1,d) else kv).1=kv.1
    split <;> rfl
   have e2:((λkv:oS×V=>kv.1)∘λkv:oS×V=>if kv.1=key then (kv.1,v) else kv)=λkv=>kv.1:=by
    funext kv;show (if kv.1=key then (kv.1,v) else kv).1=kv.1
    split <;> rfl
   rw[e1,e2];exact h.1
  .rw [gMq]at e1 e2;obtain⟨a',f1,rfl⟩:=oMq.mp e1;obtain⟨b',f2,rfl⟩:=oMq.mp e2;have hk:=h.key f1 f2
   by_cases c:a'.1=key
   .rw [pe c,pe (hk ▸ c)];exact r
   .rw [pD c,pD (hk ▸ c)];exact h.2 i a' b' f1 f2
 .refine ⟨by rw[mBq,mBq,h.1];rfl,λi a b e1 e2=>?_⟩
  by_cases hi:i<ds.length
  .rw [gZq hi]at e1;rw[gZq (h.len ▸ hi)]at e2;exact h.2 i a b e1 e2
  .have hi':i=ds.length:=by
    have:=(gSq.mp e1).1;rw[lAq,lSq]at this;lia
   subst hi';rw[gYq (ai _),eO]at e1;rw[h.len,gYq (ai _),eO]at e2;cases e1;cases e2;exact r
def BW:MK:=λS=>some (.owd [],S)
theorem zG:SK K Mh BW:=by
 intro H₀ Hf₀ Hf S σ H Fs av S' R e Q q;cases e;intro p hp;obtain⟨t,R2,n1,n2,n3⟩:=R.new (o:=.dK []) hp;exact q _ _ _ (.ref p) [p] t R2 (.owd oW n1 ⟨rfl,λi d v h=>by simp at h⟩) (yN.one R hp)
theorem qh.owd{H₀ Hf₀ Hf H:Hp}{S:AS}{σ:St}{Fs:List (List Addr)}(R:qh K H₀ Hf₀ Hf S σ H Fs) {i:Nat}{ds:List (oS×D)}(h:S[i]?=some (some (.owd ds))):∃p kvs,σ[i]?=some (some (.ref p))/\Fs[i]?=some [p]/\H p=some (.dK kvs)/\Hf p=none/\tY K Hf ds kvs /\
  H₀ p=none/\p∉(Fs.set i []).flatten:=by
 obtain⟨v,F,s1,s2,r,nd,o,_⟩:=R.move h;obtain⟨p,kvs,rfl,rfl,h1,h2,h3⟩:=r.owd_inv;exact⟨p,kvs,s1,s2,h1,h2,h3,(o p (by simp)).1,(o p (by simp)).2⟩
theorem ya{i:Nat}(hk:SK K te k) (hb:SR K tb b):SS K (RU (xq i) tb te) (AC i b k):=by
 intro H₀ Hf₀ Hf S σ H Fs o R e D h;obtain⟨x,e1,e⟩:=oBq.mp e;obtain⟨a0,e0,e⟩:=oBq.mp e;obtain⟨y,e2,e⟩:=oBq.mp e;obtain⟨kvs,e3,e⟩:=oBq.mp e;obtain⟨key,e4,e⟩:=oBq.mp e;rcases pJ e with ⟨hl,e⟩|e
 .skip
  cases e;have hk':SK K te (vU k):=SK.frz hk;refine hk' R (a:=x.1) (S':=x.2) e1 _ λHf1 H1 Fs1 v F t1 R1 r1 o1=>?_
  obtain⟨p',_,s1,_⟩:=R1.owd (Ao e0);refine⟨_,s1,hb R1 (d:=y.1) (S':=y.2) e2 _ λHf2 H2 Fs2 w t2 R2 r2=>?_⟩
  obtain⟨q',kv,s1',s2',h1',h2',h3',h4',h5'⟩:=R2.owd (Ao e3);rw[s1]at s1';cases s1';obtain⟨x1,hx1⟩:∃d,x.1 = .sh d:=by
   obtain⟨w,_,e⟩:=oMq.mp e1;rw[←e];exact⟨_,rfl⟩
  rw[hx1]at r1;have rv:=(r1.sh_inv.2).mono t2.sf;have hw:=wk e4 r2;subst hw;refine⟨p',_,rfl,OU.k h1' (by rw[vy,←h3'.len];exact hl),h _ _ _ _ (t1.sf.trans t2.sf) (R2.turn s1 s2' (by simp) (F':=[p']) (.owd oW h2' ?_) (by simp) λq hq=>by rw[mSq.mp hq];exact⟨h4',h5'⟩)⟩
  rw[hx1,sr];exact G9 h3' rv
 .cases e
def YB(a b:ME):ME:=λS=>(a S).bind λx=>(b x.2).bind λy=>match y.1 with
 | .dict kvs=>(vp x.1).map λkey=>(.bl (getD kvs key).isSome,y.2)
 |_=>none
def zP(a b:ME):ME:=λS=>(a S).bind λx=>(b x.2).bind λy=>match y.1 with
 | .dict kvs=>(vp x.1).map λkey=>(.bl (!(getD kvs key).isSome),y.2)
 |_=>none
def tZ(a b:ME):ME:=λS=>(a S).bind λx=>(b x.2).bind λy=>match x.1 with
 | .dict kvs=>(vp y.1).bind λkey=>(getD kvs key).map λd=>(d,y.2)
 |_=>none
theorem KD{H:Hp}{kvs:List (oS×D)}{x:V}{key:oS}{d:D}(r:rD K H (.dict kvs) x) (e:getD kvs key=some d):∃a v,x = .ref a/\CT H a (kV key) (some v)/\rD K H d v:=by
 obtain⟨p,vs,rfl,h1,h2⟩:=r.dict_inv;have g:=Bb (key:=key) h2;rw[e]at g;obtain⟨v,g1,g2⟩:=g;exact⟨p,v,rfl,by rw[←g1];exact CT.k h1,g2⟩
theorem Mn{H:Hp}{kvs:List (oS×D)}{x:V}{key:oS}(r:rD K H (.dict kvs) x):∃a o,x = .ref a/\CT H a (kV key) o/\o.isSome=(getD kvs key).isSome:=by
 obtain⟨p,vs,rfl,h1,h2⟩:=r.dict_inv;have g:=Bb (key:=key) h2;refine⟨p,_,rfl,CT.k h1,?_⟩;cases e:getD kvs key with
 |none=>rw[e]at g;rw[g];rfl
 |some d=>rw[e]at g;obtain⟨v,g1,_⟩:=g;rw[g1];rfl
theorem zQ{a:ME}(ha:SR K ta a) (hb:SR K tb b):SR K (JZ ta tb) (zP a b):=by
 intro H₀ Hf₀ Hf S σ H Fs d S' R e Q q;obtain⟨x,e1,e⟩:=oBq.mp e;obtain⟨y,e2,e⟩:=oBq.mp e;refine ha R (d:=x.1) (S':=x.2) e1 _ λHf1 H1 Fs1 v1 t1 R1 r1=>hb R1 (d:=y.1) (S':=y.2) e2 _ λHf2 H2 Fs2 v2 t2 R2 r2=>?_
 split at e
 .rename_i kvs hy;rw[hy]at r2;obtain⟨key,e3,e⟩:=oMq.mp e;cases e;obtain⟨p,o,rfl,g1,g2⟩:=Mn (key:=key) r2;refine⟨p,o,rfl,by rw[wk e3 r1];exact g1,?_⟩
  rw[g2];exact q _ _ _ _ (t1.trans t2) R2 .bl
 .cases e
theorem sV{a:ME}(ha:SR K ta a) (hb:SR K tb b):SR K (Po ta tb) (tZ a b):=by
 intro H₀ Hf₀ Hf S σ H Fs d S' R e Q q;obtain⟨x,e1,e⟩:=oBq.mp e;obtain⟨y,e2,e⟩:=oBq.mp e;refine ha R (d:=x.1) (S':=x.2) e1 _ λHf1 H1 Fs1 v1 t1 R1 r1=>hb R1 (d:=y.1) (S':=y.2) e2 _ λHf2 H2 Fs2 v2 t2 R2 r2=>?_
 split at e
 .rename_i kvs hy;rw[hy]at r1;obtain⟨key,e3,e⟩:=oBq.mp e;obtain⟨d',e4,e⟩:=oMq.mp e;cases e;obtain⟨p,v,rfl,g1,g2⟩:=KD (r1.mono t2.sh) e4;exact⟨p,v,rfl,by rw[wk e3 r2];exact g1,q _ _ _ _ (t1.trans t2) R2 g2⟩
 .cases e
end
def su(x:Nat) (body:MS):List D->AS->Option LY
 | [],S=>some (.nx S)
 |d::ds,S=>(body (S.set x (some (.sh d)))).bind λo=>match o with
  | .nx S'=>su x body ds S'
  | .ct S'=>su x body ds S'
  | .bk S'=>some (.nx S')
  | .rt a=>some (.rt a)
def uk:D->Option (List D)
 | .list ds=>some ds
 | .scr ns=>some (ns.map .int)
 |_=>none
def AE(x:Nat) (k:MK) (body:MS):MS:=λS=>(vU k S).bind λy=>(uk (oK y.1)).bind λds=>su x body ds y.2
def pZ(lo:Int) (n:Nat):List D:=(bq n).map λi:Nat=>.int (lo+i)
def Dx:List D->Option (List D)
 | [.int j]=>wm (-(2 ^ 62)<=j/\j<2 ^ 62) (some (pZ 0 j.toNat))
 |_=>none
def Xk:List D->Option (List D)
 | [.int i,.int j]=>wm (-(2 ^ 62)<=i/\i<2 ^ 62/\-(2 ^ 62)<=j/\j<2 ^ 62) (some (pZ i (j-i).toNat))
 |_=>none
def yU(x:Nat) (a:ML) (body:MS):MS:=λS=>(a S).bind λy=>(Dx y.1).bind λds=>su x body ds y.2
def Xn(x:Nat) (a:ML) (body:MS):MS:=λS=>(a S).bind λy=>(Xk y.1).bind λds=>su x body ds y.2
def zf(x y:Nat) (body:MS):Nat->List D->AS->Option LY
 |_,[],S=>some (.nx S)
 |i,d::ds,S=>(body ((S.set x (some (.sh (.int i)))).set y (some (.sh d)))).bind λo=>match o with
  | .nx S'=>zf x y body (i+1) ds S'
  | .ct S'=>zf x y body (i+1) ds S'
  | .bk S'=>some (.nx S')
  | .rt a=>some (.rt a)
def Gf(x y:Nat) (k:MK) (body:MS):MS:=λS=>(vU k S).bind λz=>(uk (oK z.1)).bind λds=>zf x y body 0 ds z.2
def IF(x y:Nat) (body:MS):List D->List D->AS->Option LY
 |d::ds,e::es,S=>(body ((S.set x (some (.sh d))).set y (some (.sh e)))).bind λo=>match o with
  | .nx S'=>IF x y body ds es S'
  | .ct S'=>IF x y body ds es S'
  | .bk S'=>some (.nx S')
  | .rt a=>some (.rt a)
 |_,_,S=>some (.nx S)
def Yb(x y:Nat) (k l:MK) (body:MS):MS:=λS=>(vU k S).bind λz=>(vU l z.2).bind λw=>(uk (oK z.1)).bind λds=>(uk (oK w.1)).bind λes =>
 if ds.length=es.length then IF x y body ds es w.2 else none
def tU(c:MT) (body:MS):Nat->MS
 |0,_=>none
 |n+1,S=>(c S).bind λx=>if x.1=true then (body x.2).bind λo=>match o with
   | .nx S'=>tU c body n S'
   | .ct S'=>tU c body n S'
   | .bk S'=>some (.nx S')
   | .rt a=>some (.rt a)
  else some (.nx x.2)
section
variable {K:W.Frag}{te tf:TE}{k l:MK}{tb:TS}{body:MS}{x y:Nat}
theorem zK{H:Hp}{d:D}{ds:List D}{v:V}(e:uk d=some ds) (r:rD K H d v):∃a vs,v = .ref a/\tu K H a vs/\qq K H ds vs:=by
 cases d with
 |list es =>
  cases e;obtain⟨p,vs,rfl,h1,h2⟩:=r.list_inv;exact⟨p,vs,rfl,tu.of h1,h2⟩
 |scr ns =>
  cases e;cases r with
  |scr h=>exact⟨_,_,rfl,h,tM ns⟩
 |_=>cases e
theorem CK{te:TE}{S:AS}{z:AV×AS}(e:vU k S=some z):∃d,z.1 = .sh d:=by
 obtain⟨w,_,e⟩:=oMq.mp e;rw[←e];exact⟨_,rfl⟩
theorem qh.setD{H₀ Hf₀ Hf H:Hp}{S:AS}{σ:St}{Fs:List (List Addr)}{d:D}{v:V}(R:qh K H₀ Hf₀ Hf S σ H Fs) (i:Nat) (r:rD K Hf d v):qh K H₀ Hf₀ Hf (S.set i (some (.sh d))) (σ.set i (some v)) H (Fs.set i []) :=
 R.set i (.sh r) bp λq h=>(by cases h)
theorem vN(hk:SK K te k) (hb:SS K tb body):SS K (O9 (JQ K te) (tX x) tb) (AE x k body):=by
 intro H₀ Hf₀ Hf S σ H Fs o R e D h;obtain⟨z,e1,e⟩:=oBq.mp e;obtain⟨ds,e2,e⟩:=oBq.mp e;have hk':SK K te (vU k):=SK.frz hk;refine hk' R (a:=z.1) (S':=z.2) e1 _ λHf1 H1 Fs1 v F t1 R1 r1 o1=>?_
 obtain⟨d,hd⟩:=CK (te:=te) e1;rw[hd]at r1;rw[hd,sr]at e2;obtain⟨a,vs,rfl,g1,g2⟩:=zK e2 r1.sh_inv.2;refine⟨a,rfl,⟨vs,R1.sub.seq g1⟩,Hs (xs:=vs) (λi σ' H'=>∃Hf' S' Fs',qh K H₀ Hf₀ Hf' S' σ' H' Fs'/\qk Hf1 Hf'/\su x body (ds.drop i) S'=some o) ⟨Hf1,z.2,Fs1,R1,.refl _,e⟩
  (λi σ' H' _ ⟨Hf',S',Fs',R',s',_⟩=>R'.sub.seq (s'.seq g1)) ?_ ?_⟩
 .rintro i w σ' H' hw ⟨Hf',S',Fs',R',s',e'⟩;obtain⟨di,hdi,rw'⟩:=g2.get' hw;have hlt:i<ds.length:=(gSq.mp hdi).1;rw[ba hlt]at e';have hdi':ds[i]=di:=(gSq.mp hdi).2;rw[hdi']at e';obtain⟨ob,e3,e4⟩:=oBq.mp e';refine hb (R'.setD x (rw'.mono s')) e3 _ ?_;cases ob with
  |nx S2=>exact λHf2 σ2 H2 Fs2 s2 R2=>⟨Hf2,S2,Fs2,R2,s'.trans s2,e4⟩
  |ct S2=>exact λHf2 σ2 H2 Fs2 s2 R2=>⟨Hf2,S2,Fs2,R2,s'.trans s2,e4⟩
  |bk S2=>cases e4;exact λHf2 σ2 H2 Fs2 s2 R2=>h _ _ _ _ ((t1.sf.trans s').trans s2) R2
  |rt a=>cases e4;exact h
 .rintro σ' H' ⟨Hf',S',Fs',R',s',e'⟩;rw[←g2.1,dW]at e';cases e';exact h _ _ _ _ (t1.sf.trans s') R'
theorem Ll{H₀ Hf₀ Hf1 H1:Hp}{S1:AS}{σ:St}{Fs1:List (List Addr)}{o:LY}{D:Bw}{lo:Int}{n:Nat}(hb:SS K tb body) (R1:qh K H₀ Hf₀ Hf1 S1 σ H1 Fs1) (e:su x body (pZ lo n) S1=some o) (h:D0 K H₀ Hf₀ Hf1 D o) :
  ∃W:Nat->Nat->St->Hp->Prop,(∃m,W 0 m σ H1)/\∀i m σ H,W i m σ H ->
   ((PQ lo n).stop i H/\D.nx σ H)∨((PQ lo n).go i H/\∃N:St->Hp->Prop,(∀σ' H',N σ' H'->∃m',m'<m/\W (i+1) m' σ' H')/\∀v H',(PQ lo n).yld i H v H'->tX x v σ H' λσ2 H2=>tb { D with nx:=N,ct:=N,bk:=D.nx } σ2 H2):=by
 refine KG (λi σ' H'=>∃Hf' S' Fs',qh K H₀ Hf₀ Hf' S' σ' H' Fs'/\qk Hf1 Hf'/\su x body ((pZ lo n).drop i) S'=some o) ⟨Hf1,S1,Fs1,R1,.refl _,e⟩ ?_ ?_
 .rintro i σ' H' hi ⟨Hf',S',Fs',R',s',e'⟩;have hlt:i<(pZ lo n).length:=by unfold pZ;rw[lMq,bf];exact hi
  rw[ba hlt]at e';have hdi:(pZ lo n)[i] = .int (lo+i):=by simp[pZ]
  rw[hdi]at e';obtain⟨ob,e3,e4⟩:=oBq.mp e';refine hb (R'.setD x .int) e3 _ ?_;cases ob with
  |nx S2=>exact λHf2 σ2 H2 Fs2 s2 R2=>⟨Hf2,S2,Fs2,R2,s'.trans s2,e4⟩
  |ct S2=>exact λHf2 σ2 H2 Fs2 s2 R2=>⟨Hf2,S2,Fs2,R2,s'.trans s2,e4⟩
  |bk S2=>cases e4;exact λHf2 σ2 H2 Fs2 s2 R2=>h _ _ _ _ (s'.trans s2) R2
  |rt a=>cases e4;exact h
 .rintro σ' H' ⟨Hf',S',Fs',R',s',e'⟩;have hl:(pZ lo n).length=n:=by unfold pZ;rw[lMq,bf]
  rw[dA (eN hl)]at e';cases e';exact h _ _ _ _ s' R'
theorem xO{ta:TA}{a:ML}(ha:Rj K ta a) (hb:SS K tb body):SS K (O9 (Pr ta) (tX x) tb) (yU x a body):=by
 intro H₀ Hf₀ Hf S σ H Fs o R e D h;obtain⟨z,e1,e⟩:=oBq.mp e;obtain⟨ds,e2,e⟩:=oBq.mp e;refine ha R (ds:=z.1) (S':=z.2) e1 _ λHf1 H1 Fs1 vs t1 R1 r1=>?_
 unfold Dx at e2;split at e2
 .rename_i j hz;rcases pJ e2 with ⟨hj,e2⟩|e2
  .skip
   cases e2;rw[hz]at r1;obtain⟨v,ws,rfl,h1,h2⟩:=r1.cons_inv;rw[h2.nil_inv];cases h1;exact⟨j,rfl,hj.1,hj.2,Ll hb R1 e (h.mono t1.sf)⟩
  .cases e2
 .cases e2
theorem FP(hk:SK K te k) (hb:SS K tb body):SS K (O9 (RK K (uM te xQ)) (Me K 2 (Bf (tX x) (Bf (tX y) L9))) tb) (Gf x y k body):=by
 intro H₀ Hf₀ Hf S σ H Fs o R e D h;obtain⟨z,e1,e⟩:=oBq.mp e;obtain⟨ds,e2,e⟩:=oBq.mp e;have hk':SK K te (vU k):=SK.frz hk;refine hk' R (a:=z.1) (S':=z.2) e1 _ λHf1 H1 Fs1 v F t1 R1 r1 o1=>?_
 obtain⟨d,hd⟩:=CK (te:=te) e1;rw[hd]at r1;rw[hd,sr]at e2;obtain⟨a,vs,rfl,g1,g2⟩:=zK e2 r1.sh_inv.2;refine⟨a,rfl,⟨vs,R1.sub.seq g1⟩,Nz (xs:=vs) (λi σ' H'=>∃Hf' S' Fs',qh K H₀ Hf₀ Hf' S' σ' H' Fs'/\qk Hf1 Hf'/\zf x y body i (ds.drop i) S'=some o) ⟨Hf1,z.2,Fs1,R1,.refl _,e⟩
  (λi σ' H' _ ⟨Hf',S',Fs',R',s',_⟩=>R'.sub.seq (s'.seq g1)) ?_ ?_⟩
 .rintro i w σ' H' T hw ⟨Hf',S',Fs',R',s',e'⟩ hT;obtain⟨di,hdi,rw'⟩:=g2.get' hw;have hlt:i<ds.length:=(gSq.mp hdi).1;rw[ba hlt]at e';have hdi':ds[i]=di:=(gSq.mp hdi).2;rw[hdi']at e';obtain⟨ob,e3,e4⟩:=oBq.mp e';have R2:=(R'.new (o:=.tup [.int i,w]) hT).2.1;refine hb ((R2.setD x .int).setD y (rw'.mono s')) e3 _ ?_;cases ob with
  |nx S2=>exact λHf2 σ2 H2 Fs2 s2 R2=>⟨Hf2,S2,Fs2,R2,s'.trans s2,e4⟩
  |ct S2=>exact λHf2 σ2 H2 Fs2 s2 R2=>⟨Hf2,S2,Fs2,R2,s'.trans s2,e4⟩
  |bk S2=>cases e4;exact λHf2 σ2 H2 Fs2 s2 R2=>h _ _ _ _ ((t1.sf.trans s').trans s2) R2
  |rt a=>cases e4;exact h
 .rintro σ' H' ⟨Hf',S',Fs',R',s',e'⟩;rw[←g2.1,dW]at e';cases e';exact h _ _ _ _ (t1.sf.trans s') R'
theorem CB{c:TT}{m:MT}(n:Nat) (hc:E3 K c m) (hb:SS K tb body):SS K (NB c tb) (tU m body n):=by
 intro H₀ Hf₀ Hf S σ H Fs o R e D h;refine⟨λn σ' H'=>∃Hf' S' Fs',qh K H₀ Hf₀ Hf' S' σ' H' Fs'/\qk Hf Hf'/\tU m body n S'=some o,⟨n,Hf,S,Fs,R,.refl _,e⟩,?_⟩
 rintro n σ' H' ⟨Hf',S',Fs',R',s',e'⟩;cases n with
 |zero=>cases e'
 |succ n =>
  obtain⟨z,e1,e2⟩:=oBq.mp e';refine hc R' (b:=z.1) (S':=z.2) e1 _ λHf1 H1 Fs1 t1 R1=>?_
  split at e2
  .rename_i hz;rw[hz];refine HZ ⟨λσ2 H2=>∃Hf' S' Fs',qh K H₀ Hf₀ Hf' S' σ2 H2 Fs'/\qk Hf Hf'/\tU m body n S'=some o,λσ2 H2 w=>⟨n,dw n,w⟩,?_⟩
   obtain⟨ob,e3,e4⟩:=oBq.mp e2;refine hb R1 e3 _ ?_;cases ob with
   |nx S2=>exact λHf2 σ2 H2 Fs2 s2 R2=>⟨Hf2,S2,Fs2,R2,(s'.trans t1.sf).trans s2,e4⟩
   |ct S2=>exact λHf2 σ2 H2 Fs2 s2 R2=>⟨Hf2,S2,Fs2,R2,(s'.trans t1.sf).trans s2,e4⟩
   |bk S2=>cases e4;exact λHf2 σ2 H2 Fs2 s2 R2=>h _ _ _ _ ((s'.trans t1.sf).trans s2) R2
   |rt a=>cases e4;exact h
  .rename_i hz;rw[dY]at hz;rw[hz];cases e2;exact IX (h _ _ _ _ (s'.trans t1.sf) R1)
end
def uH(np n:Nat) (m:MS):MF:=λds=>if ds.length=np then (m (ds.map (λd=>some (.sh d))++aK (n-ds.length) none)).bind λo=>match o with
  | .rt a=>some a
  | .nx _=>some (.sh .non)
  |_=>none
 else none
theorem KQ{K:W.Frag}{Hf H:Hp}{ds:List D}{vs:List V}(N:List Str) (s:qk Hf H) (r:qq K Hf ds vs) :
  qh K H Hf Hf (ds.map (λd=>some (.sh d))++aK (N.length-ds.length) none) (L2.yG N vs) H (aK (ds.length+(N.length-ds.length)) []):=by
 have fl:=wj (ds.length+(N.length-ds.length));refine⟨by simp[L2.yG,r.1],by simp,λi av e=>?_,λi e=>?_,by rw[fl];exact bp,λp hp=>(by rw[fl]at hp;cases hp),s,qk.refl _,λb h _=>h,qk.refl _⟩
 .by_cases hi:i<ds.length
  .rw [gZq (by simpa using hi),gMq]at e
   obtain⟨d,e1,e2⟩:=oMq.mp e;cases e2;obtain⟨v,e3,rv⟩:=r.get e1;refine⟨v,[],?_,?_,.sh rv⟩
   .unfold L2.yG;rw[gZq (by simpa [←r.1] using hi),gMq,e3]
    rfl
   .rw [dq,pe (by lia)]
  .rw [gYq (by simpa using hi)]at e
   have:=mGq e;rw[dR this]at e;have h2:=dR this;cases h2
 .rw [dq];have hi:=(gSq.mp e).1;rw[lAq,lMq,eJ]at hi;rw[pe hi]
theorem Py{K:W.Frag}{t:TS}{m:MS}{np:Nat}(N:List Str) (h:SS K t m) {vs:List V}{H:Hp}{Q:VK}{E:XK}(hs:ud K (uH np N.length m) vs H Q E):t { nx:=λ_ H'=>Q .non H',rt:=Q } (L2.yG N vs) H:=by
 obtain⟨Hf,ds,a,s,r,e,q⟩:=hs;unfold uH at e;split at e
 .obtain ⟨o,e1,e2⟩:=oBq.mp e;refine h (KQ N s r) e1 _ ?_;cases o with
  |rt a' =>
   cases e2;exact λHf' H' v F s1 s2 s3 l r nd fr=>q Hf' H' v F s1 s2 s3 l r nd fr
  |nx S' =>
   cases e2;exact λHf' σ' H' Fs' s1 R=>q Hf' H' .non [] R.sf R.fr R.sub R.lim (.sh .non) bp λq h=>(by cases h)
  |bk S'=>cases e2
  |ct S'=>cases e2
 .cases e
theorem SD{K:W.Frag}{m:MS}{np n:Nat}{vs:List V}{H:Hp}{Q:VK}{E:XK}(hs:ud K (uH np n m) vs H Q E):vs.length=np:=by
 obtain⟨Hf,ds,a,s,r,e,q⟩:=hs;unfold uH at e;split at e
 .rename_i h;rw[←r.1,h]
 .cases e
def fzAll:List Nat->AS->Option AS
 | [],S=>some S
 |j::js,S=>(S[j]?.join).bind λa=>fzAll js (S.set j (some (.sh (oK a))))
def S6:Option AV->Option AV
 |some (.sh d)=>some (.sh d)
 |_=>none
def ER(S:AS):List Nat->Option AS
 | []=>some []
 |j::js=>(S6 S[j]?.join).bind λa=>(ER S js).map (some a :: ·)
def qL(tf:MT) (te:MK) (cap:AS):List D->Option (List AV)
 | []=>some []
 |d::ds=>(tf (some (.sh d)::cap)).bind λb=>if b.1=true then (te b.2).bind λa=>(qL tf te cap ds).map (a.1 :: ·) else qL tf te cap ds
abbrev MI:=AS->Option (List D×AS)
def Bq(k:MK):MI:=λS=>(vU k S).bind λy=>(uk (oK y.1)).map λds=>(ds,y.2)
def VY(a:ML):MI:=λS=>(a S).bind λy=>(Dx y.1).map λds=>(ds,y.2)
def uf(src:MI) (fr:List Nat) (tf:MT) (te:MK):MK:=λS=>(src S).bind λy=>(fzAll fr y.2).bind λS2=>(ER S2 fr).bind λcap=>wm (y.1.length<=rG) ((qL tf te cap y.1).map λavs=>(.ow avs,S2))
def sJ:MT:=λS=>some (true,S)
section
variable {K:W.Frag}{H₀ Hf₀ Hf Hf' H H':Hp}{S S':AS}{σ:St}{Fs Fs':List (List Addr)}
theorem qh.fz(R:qh K H₀ Hf₀ Hf S σ H Fs) {j:Nat}{a:AV}(e:S[j]?.join=some a):∃Hf' Fs',zm Hf H Fs Hf' H Fs'/\qh K H₀ Hf₀ Hf' (S.set j (some (.sh (oK a)))) σ H Fs':=by
 obtain⟨v,F,s1,s2,r,nd,o,R1⟩:=R.move (pS e);have n:∀q∈F,Hf q=none:=λq hq=>(r.owned q hq).2
 have R2:=R1.frz o n;have r2:=r.frozen (rA (H:=H) n) λq hq=>za hq
 have R3:=R2.again (F:=F) (G:=[]) s1 (.sh r2) bp λq h=>(by cases h)
 refine⟨_,_,⟨rA n,.refl _,λp hp=>qR hp,λb h g=>?_⟩,R3⟩
 by_cases m:b∈F
 .exact .inr (mFq.mpr ⟨F,mGq s2,m⟩)
 .rw [tJ m]at g;exact absurd h g
theorem qh.fzAll:∀{fr:List Nat}{Hf:Hp}{S S':AS}{Fs:List (List Addr)},qh K H₀ Hf₀ Hf S σ H Fs->fzAll fr S=some S'->∃Hf' Fs',zm Hf H Fs Hf' H Fs'/\qh K H₀ Hf₀ Hf' S' σ H Fs'
 | [],Hf,S,S',Fs,R,e=>by
  cases e;exact⟨Hf,Fs,.refl,R⟩
 |j::js,Hf,S,S',Fs,R,e=>by
  obtain⟨a,e1,e2⟩:=oBq.mp e;obtain⟨Hf1,Fs1,t1,R1⟩:=R.fz e1;obtain⟨Hf2,Fs2,t2,R2⟩:=qh.fzAll R1 e2;exact⟨Hf2,Fs2,t1.trans t2,R2⟩
theorem Gr(R:qh K H₀ Hf₀ Hf S σ H Fs):∀{fr:List Nat}{cap:AS},ER S fr=some cap->cap.length=fr.length/\∀(k:Nat) (a:AV),cap[k]?=some (some a)->∃d v,a = .sh d/\(slots σ fr)[k]?=some (some v)/\rD K Hf d v
 | [],cap,e=>by
  cases e;exact⟨rfl,λk a h=>by simp at h⟩
 |j::js,cap,e=>by
  obtain⟨a,e1,e2⟩:=oBq.mp e;obtain⟨cap',e3,e4⟩:=oMq.mp e2;subst e4;obtain⟨h1,h2⟩:=Gr R e3;refine⟨by simp[h1],λk b hk=>?_⟩
  cases k with
  |zero =>
   cases hk;cases ej:S[j]?.join with
   |none=>rw[ej]at e1;cases e1
   |some c =>
    rw[ej]at e1;cases c with
    |sh d =>
     cases e1;obtain⟨v,F,s1,s2,r⟩:=R.rep j _ (pS ej);refine⟨d,v,rfl,?_,r.sh_inv.2⟩;show some ((σ[j]?).join)=_;rw[s1];rfl
    |_=>cases e1
  |succ k=>exact h2 k b (by simpa using hk)
theorem Kl(R:qh K H₀ Hf₀ Hf S σ H Fs) {fr:List Nat}{cap:AS}(e:ER S fr=some cap) {d:D}{x:V}(rx:rD K Hf d x) :
  qh K H₀ Hf₀ Hf (some (.sh d)::cap) (some x::slots σ fr) H (aK (cap.length+1) []):=by
 obtain⟨h1,h2⟩:=Gr R e;have fl:=wj (cap.length+1);refine⟨by simp[slots,h1],by simp,λi av ei=>?_,λi ei=>?_,by rw[fl];exact bp,λp hp=>(by rw[fl]at hp;cases hp),R.sub,R.fr,R.lim,R.sf⟩
 .cases i with
  |zero =>
   cases ei;exact⟨x,[],rfl,by simp,.sh rx⟩
  |succ k =>
   have hk:k<cap.length:=(gSq.mp (by simpa using ei)).1
   obtain⟨d',v,rfl,s1,r⟩:=h2 k av (by simpa using ei)
   exact⟨v,[],by simpa using s1,by rw[dq,pe (by lia)],.sh r⟩
 .rw [dq];have hi:=(gSq.mp ei).1;rw[pe (by simpa using hi)]
theorem qh.updOut(R:qh K H₀ Hf₀ Hf S σ H Fs) {p:Addr}{o:HO}(h1:p∉Fs.flatten) (h2:Hf p=none) (h3:H₀ p=none):qh K H₀ Hf₀ Hf S σ (qH H p o) Fs where
 len:=R.len
 lenF:=R.lenF
 rep:=λi av e=>by
  obtain⟨v,F,s1,s2,r⟩:=R.rep i av e;exact⟨v,F,s1,s2,r.keepUpd λm=>h1 (qv s2 m)⟩
 emp:=R.emp
 nd:=R.nd
 fresh:=R.fresh
 sub:=λb u e=>by
  rw[oQ λz=>by rw[z,h2]at e;cases e]
  exact R.sub b u e
 fr:=λb u e=>by
  rw[oQ λz=>by rw[z,h3]at e;cases e]
  exact R.fr b u e
 lim:=R.lim
 sf:=R.sf
theorem qh.outer{σ2:St}{Fs2 Fs3:List (List Addr)}{Hf3 H3:Hp}{S3:AS}(R:qh K H₀ Hf₀ Hf S σ H Fs) (R3:qh K H₀ Hf₀ Hf3 S3 σ2 H3 Fs3) (t:zm Hf H Fs2 Hf3 H3 Fs3) (h0:Fs2.flatten=[]):zm Hf H Fs Hf3 H3 Fs/\qh K H₀ Hf₀ Hf3 S σ H3 Fs:=by
 have g:∀b,Hf b=none->H b≠none->Hf3 b=none:=λb h1 h2=>by
  by_cases e:Hf3 b=none
  .exact e
  .rcases t.gr b h1 e with z|z
   .exact absurd z h2
   .rw [h0]at z;cases z
 exact⟨⟨t.sf,t.sh,λ_ h=>h,λb h1 h2=>.inl (by
  by_cases e:H b=none
  .exact e
  .exact absurd (g b h1 e) h2)⟩,R.more t.sh t.sf R3.sub (λq hq=>g q (R.mem hq).2 (R.mem hq).1) R3.lim⟩
end
section
variable {K:W.Frag}{tf:TT}{te:TE}{mf:MT}{me:MK}{fr:List Nat}
theorem zM{H₀ Hf₀ Hf1 H1:Hp}{S1:AS}{σ:St}{Fs1:List (List Addr)}{cap:AS}{ds:List D}{avs:List AV}{J:It}{Q:VK}(hf:E3 K tf mf) (he:SK K te me)
  (R1:qh K H₀ Hf₀ Hf1 S1 σ H1 Fs1) (ec:ER S1 fr=some cap) (hl:ds.length<=rG) (e:qL mf me cap ds=some avs)
  (hgo:∀i H,qk Hf1 H->i<ds.length->J.go i H) (hst:∀H,qk Hf1 H->J.stop ds.length H) (hy:∀i H x H',qk Hf1 H->i<ds.length->J.yld i H x H'->H'=H/\∃d,ds[i]?=some d/\rD K Hf1 d x)
  (q:∀Hf' H' v F,zm Hf1 H1 Fs1 Hf' H' Fs1->qh K H₀ Hf₀ Hf' S1 σ H' Fs1->pI K Hf' H' (.ow avs) v F->yN H₀ H1 Fs1 Fs1 F->Q v H') :
  ∀acc,H1 acc=none->∃W:Nat->Nat->Hp->Prop,(∃m,W 0 m (qH H1 acc (.lst [])))/\∀i m H,W i m H ->
   (J.stop i H/\Q (.ref acc) H) ∨
   (J.go i H/\∃N:Hp->Prop,(∀H',N H'->∃m',m'<m/\W (i+1) m' H')/\∀x H',J.yld i H x H'->tf (some x::slots σ fr) H' λb H2 =>
    if b=true then te (some x::slots σ fr) H2 λy H3=>∃ys,H3 acc=some (.lst ys)/\ys.length<ko/\N (qH H3 acc (.lst (ys++[y]))) else N H2):=by
 intro acc hacc;obtain⟨t0,R0,n1,n2,n3⟩:=R1.new (o:=.lst []) hacc
 let P:Nat->Hp->Prop:=λi H=>∃Hf as vs Gs uJ,qh K H₀ Hf₀ Hf S1 σ H Fs1/\zm Hf1 H1 Fs1 Hf H Fs1/\H acc=some (.lst vs)/\Hf acc=none/\pY K Hf H as vs Gs/\yN H₀ H1 Fs1 Fs1 (acc::Gs.flatten)/\as.length<=i /\
  qL mf me cap (ds.drop i)=some uJ/\avs=as++uJ
 refine⟨λi m H=>m=ds.length-i/\i<=ds.length/\P i H,⟨ds.length,by simp,bg _,Hf1,[],[],[],avs,R0,t0,oW,n1,.nil,yN.one R1 hacc,bg _,e,rfl⟩,?_⟩
 rintro i m H ⟨rfl,hi,Hf,as,vs,Gs,uJ,R,t,ha,hfa,ra,ow,la,er,ea⟩;have hs:qk Hf1 H:=t.sf.trans R.sub
 by_cases hlt:i<ds.length
 .refine .inr ⟨hgo i H hs hlt,P (i+1),λH' p=>⟨ds.length-(i+1),by lia,rfl,hlt,p⟩,λx H' y=>?_⟩
  obtain⟨rfl,d,hd,rx⟩:=hy i H x H' hs hlt y;rw[ba hlt,(gSq.mp hd).2]at er;obtain⟨b,e1,e2⟩:=oBq.mp er;have fl:=wj (cap.length+1);refine hf (Kl R ec (rx.mono t.sf)) (b:=b.1) (S':=b.2) e1 _ λHf2 H2 Fs2 t2 R2=>?_
  obtain⟨t2',R2'⟩:=R.outer R2 t2 fl;have ha2:H2 acc=some (.lst vs):=t2.sh _ _ ha;have hfa2:Hf2 acc=none:=by
   by_cases z:Hf2 acc=none
   .exact z
   .rcases t2.gr acc hfa z with z|z
    .rw [ha]at z;cases z
    .rw [fl]at z;cases z
  have ra2:=ra.stp (λq hq=>ow.out q (mCo _ hq)) t2'
  split at e2
  .rename_i hb;rw[hb];refine HZ ?_;obtain⟨a,e3,e4⟩:=oBq.mp e2;obtain⟨rest',e5,e6⟩:=oMq.mp e4;subst e6;refine he R2 (a:=a.1) (S':=a.2) e3 _ λHf3 H3 Fs3 v F t3 R3 r3 o3=>?_
   have fl2:Fs2.flatten=[]:=by
    cases hz:Fs2.flatten with
    |nil=>rfl
    |cons z zs =>
     have:=t2.own z (by rw[hz];simp)
     rw[fl]at this;cases this
   obtain⟨t3',R3'⟩:=R2'.outer R3 t3 fl2;have ha3:H3 acc=some (.lst vs):=t3.sh _ _ ha2;have hfa3:Hf3 acc=none:=by
    by_cases z:Hf3 acc=none
    .exact z
    .rcases t3.gr acc hfa2 z with z|z
     .rw [ha2]at z;cases z
     .rw [fl2]at z;cases z
   have ra3:=ra2.stp (λq hq=>ow.out q (mCo _ hq)) t3'
   have newF:∀q∈F,H2 q=none:=λq hq=>(o3.new q hq).elim id λz=>by rw[fl2]at z;cases z
   have accF:acc∉F:=λm=>by rw[newF acc m]at ha2;cases ha2
   have accG:acc∉Gs.flatten:=(aA.mp ow.nd).1;have tt:=(t.trans t2').trans t3';refine⟨vs,ha3,?_,?_⟩
   .rw [vy,←ra.1];lia
   .refine ⟨Hf3,as++[a.1],vs++[v],Gs++[F],rest',R3'.updOut n3 hfa3 n2,⟨tt.sf,λb o eb=>?_,λ_ h=>h,tt.gr⟩,oW,hfa3,(ra3.keepUpd accG).snoc (r3.keepUpd accF),?_,by rw[lAq,lSq];lia,e5,by rw[ea];simp⟩
    .rw [oQ λz=>by rw[z,hacc]at eb;cases eb]
     exact tt.sh b o eb
    .rw [fAq,cx];have oF:yN H₀ H1 Fs1 Fs1 F:=⟨o3.nd,o3.fr,λq hq m=>(R2'.mem m).1 (newF q hq),λq hq=>.inl ((t.trans t2').sh.free (newF q hq))⟩
     refine(show yN H₀ H1 Fs1 Fs1 ((acc::Gs.flatten)++F) from ow.app oF λq hq m=>?_)
     rcases ag.mp hq with z|z
     .rw [z]at m;exact accF m
     .exact (ra2.owned q z).1 (newF q m)
  .rename_i hb;rw[dY]at hb;rw[hb];exact IX ⟨Hf2,as,vs,Gs,uJ,R2',t.trans t2',ha2,hfa2,ra2,ow,by lia,e2,ea⟩
 .have e0:i=ds.length:=by lia
  subst e0;rw[dW]at er;cases er;rw[aNq]at ea;subst ea;exact .inl ⟨hst H hs,q Hf H (.ref acc) _ t R (pI.news ha hfa ra) ow⟩
theorem sZ{tl:TE}{k:MK}(hk:SK K tl k) (hf:E3 K tf mf) (he:SK K te me):SK K (DL (JQ K tl) fr tf te) (uf (Bq k) fr mf me):=by
 intro H₀ Hf₀ Hf S σ H Fs av S' R e Q q;obtain⟨y,e1,e⟩:=oBq.mp e;obtain⟨z,e0,e1⟩:=oBq.mp e1;obtain⟨ds,e2,e1⟩:=oMq.mp e1;subst e1;obtain⟨S2,e3,e⟩:=oBq.mp e;obtain⟨cap,e4,e⟩:=oBq.mp e;rcases pJ e with ⟨hl,e⟩|e
 .obtain ⟨avs,e5,e⟩:=oMq.mp e;cases e;have hk':SK K tl (vU k):=SK.frz hk;refine hk' R (a:=z.1) (S':=z.2) e0 _ λHf1 H1 Fs1 v F t1 R1 r1 o1=>?_
  obtain⟨d,hd⟩:=CK (te:=tl) e0;rw[hd]at r1;rw[hd,sr]at e2;obtain⟨Hf2,Fs2,t2,R2⟩:=R1.fzAll e3;obtain⟨a,vs,rfl,g1,g2⟩:=zK e2 (r1.sh_inv.2.mono t2.sf);refine⟨a,rfl,⟨vs,R2.sub.seq g1⟩,zM (K:=K) hf he R2 e4 hl e5 (λi H s hi=>⟨vs,vs[i]'(g2.1 ▸ hi),s.seq g1,gEg (g2.1 ▸ hi)⟩) (λH s=>⟨vs,s.seq g1,eN g2.1.symm⟩) (λi H x H' s hi y=>?_) λHf' H' v F t R' r o=>q _ _ _ v F ((t1.trans t2).trans t) R' r (o.back (t1.trans t2))⟩
  obtain⟨y1,y2⟩:=y;obtain⟨di,h1,h2⟩:=g2.get' (y2 vs (s.seq g1));exact⟨y1,di,h1,h2⟩
 .cases e
theorem Ap{lo:Int}{n i:Nat}(h:i<n):(pZ lo n)[i]?=some (.int (lo+i)):=by
 unfold pZ;rw[gMq,gD h];rfl
theorem qd(lo:Int) (n:Nat):(pZ lo n).length=n:=by unfold pZ;rw[lMq,bf]
theorem BE{ta:TA}{a:ML}(ha:Rj K ta a) (hf:E3 K tf mf) (he:SK K te me):SK K (DL (Pr ta) fr tf te) (uf (VY a) fr mf me):=by
 intro H₀ Hf₀ Hf S σ H Fs av S' R e Q q;obtain⟨y,e1,e⟩:=oBq.mp e;obtain⟨z,e0,e1⟩:=oBq.mp e1;obtain⟨ds,e2,e1⟩:=oMq.mp e1;subst e1;obtain⟨S2,e3,e⟩:=oBq.mp e;obtain⟨cap,e4,e⟩:=oBq.mp e;rcases pJ e with ⟨hl,e⟩|e
 .obtain ⟨avs,e5,e⟩:=oMq.mp e;cases e;refine ha R (ds:=z.1) (S':=z.2) e0 _ λHf1 H1 Fs1 vs t1 R1 r1=>?_
  unfold Dx at e2;split at e2
  .rename_i j hz;rcases pJ e2 with ⟨hj,e2⟩|e2
   .skip
    cases e2;rw[hz]at r1;obtain⟨v,ws,rfl,h1,h2⟩:=r1.cons_inv;rw[h2.nil_inv];cases h1;obtain⟨Hf2,Fs2,t2,R2⟩:=R1.fzAll e3;refine⟨j,rfl,hj.1,hj.2,zM (K:=K) hf he R2 e4 hl e5 (λi H s hi=>(by rw[qd]at hi;exact hi)) (λH s=>(by rw[qd];exact ai _)) (λi H x H' s hi y=>?_) λHf' H' v F t R' r o=>q _ _ _ v F ((t1.trans t2).trans t) R' r (o.back (t1.trans t2))⟩
    obtain⟨y1,y2⟩:=y;rw[qd]at hi;exact⟨y1,_,Ap hi,by rw[y2];exact .int⟩
   .cases e2
  .cases e2
 .cases e
theorem vz:E3 K VH sJ:=by
 intro H₀ Hf₀ Hf S σ H Fs b S' R e Q q;cases e;exact q _ _ _ .refl R
end
mutual
def py:D->Option PyData
 | .non=>some .none
 | .bl b=>some (.bool b)
 | .int i=>some (.int i)
 | .str x=>some (.str x)
 | .list ds=>(Lb ds).map .list
 | .tup ds=>(Lb ds).map .tuple
 |_=>none
def Lb:List D->Option (List PyData)
 | []=>some []
 |d::ds=>(py d).bind λx=>(Lb ds).map (x :: ·)
end
section
variable {X:Cx}
theorem yW{h:Heap}:∀{ds:List D}{vs:List V}{its:List Value}{xs:List PyData},(∀(i:Nat) (d:D) (v:V),ds[i]?=some d->vs[i]?=some v->∀u x,qc v u->py d=some x->∃as,Reads h u x as)->ds.length=vs.length->pO vs its->Lb ds=some xs->∃as,ReadsAll h its xs as
 | [],vs,its,xs,_,hl,hv,e=>by
  have:vs=[]:=aS.mp hl.symm;subst this;cases hv;simp only[Lb]at e;cases e;exact⟨_,.nil⟩
 |d::ds,vs,its,xs,ih,hl,hv,e=>by
  cases vs with
  |nil=>simp at hl
  |cons v vs =>
   cases hv with
   |cons r t =>
    simp only[Lb]at e;obtain⟨x,e1,e2⟩:=oBq.mp e;obtain⟨ys,e3,e4⟩:=oMq.mp e2;subst e4;obtain⟨as,h1⟩:=ih 0 d v rfl rfl _ x r e1;obtain⟨bs,h2⟩:=yW (λi d' v' q1 q2=>ih (i+1) d' v' (by simpa using q1) (by simpa using q2)) (by simpa using hl) t e3
    exact⟨_,.cons h1 h2⟩
theorem FX{oq:List (Addr×Obj)}{σ:St}{H:Hp}{s:Shared}(I:Inv X oq σ H s) {d:D}{v:V}(r:rD X.K H d v):∀(u:Value) (x:PyData),qc v u->py d=some x->∃as,Reads s.heap u x as:=by
 induction r with
 |non=>intro u x ru e;cases ru;simp only[py]at e;cases e;exact⟨_,.none⟩
 |bl=>intro u x ru e;cases ru;simp only[py]at e;cases e;exact⟨_,.bool _⟩
 |int=>intro u x ru e;obtain⟨t,rfl⟩:=ru;simp only[py]at e;cases e;exact⟨_,.int _ _⟩
 |str=>intro u x ru e;obtain⟨t,rfl⟩:=ru;simp only[py]at e;cases e;exact⟨_,.str _ _⟩
 |ty=>intro u x ru e;simp only[py]at e;cases e
 |list h l _ ih =>
  intro u x ru e;cases ru;simp only[py]at e;obtain⟨xs,e1,rfl⟩:=oMq.mp e;obtain⟨its,rv,hl,hz⟩:=I.list (tu.of h);obtain⟨o,ho,hc,n,hd⟩:=hl.isList;obtain⟨as,e2⟩:=yW ih l rv e1;exact⟨_,Reads.list ho hc hd (by simpa using e2)⟩
 |tup h l _ ih =>
  intro u x ru e;cases ru;simp only[py]at e;obtain⟨xs,e1,rfl⟩:=oMq.mp e;obtain⟨its,rv,⟨o,ho,hc,n,hd⟩,hz⟩:=I.tuple (DP.of h);obtain⟨as,e2⟩:=yW ih l rv e1;exact⟨_,Reads.tuple ho hc hd (by simpa using e2)⟩
 |dict h l _ ih=>intro u x ru e;simp only[py]at e;cases e
 |fd h l _ ih=>intro u x ru e;simp only[py]at e;cases e
 |scr h=>intro u x ru e;simp only[py]at e;cases e
 |exc rf nf h hx=>intro u x ru e;simp only[py]at e;cases e
 |exc0 rf h=>intro u x ru e;simp only[py]at e;cases e
 |cls h=>intro u x ru e;simp only[py]at e;cases e
 |ins rf h l _ ih=>intro u x ru e;simp only[py]at e;cases e
def VO(K:W.Frag) (neg:Bool):R2:=λx y H Q=>∃(d e:D) (a b:PyData),rD K H d x/\rD K H e y/\py d=some a/\py e=some b/\SeqAt.shaped a=true/\SeqAt.shaped b=true/\SeqAt.noMix a b=true /\
 Q (.bl (if neg then !(PySem.Spec.same a b) else PySem.Spec.same a b)) H
theorem IV(hu:X.A.units+64<mC):Dd X (kS .Eq) (VO X.K false):=by
 intro oq s σ H x y v u Q I rx ry h;obtain⟨d,e,a,b,h1,h2,p1,p2,s1,s2,nm,q⟩:=h;obtain⟨as,r1⟩:=FX I h1 _ _ rx p1;obtain⟨bs,r2⟩:=FX I h2 _ _ ry p2;exact jI r1 r2 s1 s2 hu nm (qr I q rfl)
end
def DE(d e:D):Option D:=(py d).bind λa=>(py e).bind λb=>if SeqAt.shaped a=true/\SeqAt.shaped b=true/\SeqAt.noMix a b=true then some (.bl (PySem.Spec.same a b)) else none
def YM(d e:D):Option D:=(DE d e).bind Tc
section
variable {K:W.Frag}
theorem Ic:D9 K (VO K false) DE:=by
 intro x y H Q dx dy d rx ry e q;obtain⟨a,e1,e⟩:=oBq.mp e;obtain⟨b,e2,e⟩:=oBq.mp e;split at e
 .rename_i h;cases e;exact⟨dx,dy,a,b,rx,ry,e1,e2,h.1,h.2.1,h.2.2,q _ .bl⟩
 .cases e
end
abbrev dI(ns:List Int):D:=.list (ns.map .int)
abbrev dM(rs:List (List Int)):D:=.list (rs.map dI)
theorem MR(ns:List Int):Lb (ns.map .int)=some (ns.map PyData.int):=by
 induction ns with
 |nil=>simp[Lb]
 |cons n ns ih=>simp[Lb,py,ih]
theorem S4(ns:List Int):py (dI ns)=some (xh ns):=by
 show py (.list _)=_;simp only[py,MR];rfl
theorem Pe(rs:List (List Int)):Lb (rs.map dI)=some (rs.map xh):=by
 induction rs with
 |nil=>simp[Lb]
 |cons r rs ih =>
  show Lb (dI r::rs.map dI)=_;simp only[Lb,S4,ih];rfl
theorem VR(rs:List (List Int)):py (dM rs)=some (AB rs):=by
 show py (.list _)=_;simp only[py,Pe];rfl
theorem C2(r:List Int):SeqAt.shaped (xh r)=true:=by
 have h2:=W.depthAll_ints r;have h3:PyData.depth (xh r)<=64:=by simp only[xh,PyData.depth];lia
 show (PyData.canLay0 (xh r) && decide (PyData.depth (xh r)<=64))=true;rw[eR];exact⟨by simp only[xh,PyData.canLay0];exact W.canLayAll0_ints r,decide_eq_true h3⟩
@[simp] theorem Us (ns ms:List Int):DE (dI ns) (dI ms)=some (.bl (decide (ns=ms))):=by
 unfold DE;rw[S4,S4];show (if _ then _ else _)=_
 rw[pe ⟨C2 ns,C2 ms,by simp only[xh,SeqAt.noMix];exact W.noMix_ints ns ms⟩]
 simp only[xh,PySem.Spec.same,W.same_ints]
@[simp] theorem Sr (rs ts:List (List Int)):DE (dM rs) (dM ts)=some (.bl (decide (rs=ts))):=by
 unfold DE;rw[VR,VR];show (if _ then _ else _)=_
 rw[pe ⟨BU rs,BU ts,by simp only[AB,SeqAt.noMix];exact Dm rs ts⟩]
 simp only[AB,PySem.Spec.same,DV]
def B5(l:ML):MK:=λS=>(l S).map λx=>(.ow (x.1.map .sh),x.2)
def CD(l:ML):MK:=λS=>(l S).bind λx=>(rJ x.1).map λns=>(.ow ((qz ns).map λn=>.sh (.int n)),x.2)
def IC:List D->Option (List (List Int))
 | []=>some []
 | .list ds::es=>(rJ ds).bind λr=>(IC es).map (r :: ·)
 |_=>none
def Xy(l:ML):MK:=λS=>(l S).bind λx=>(IC x.1).map λrs=>(.ow ((qY rs).map λr=>.sh (dI r)),x.2)
section
variable {K:W.Frag}{te:TE}{l:ML}
theorem Cp(hl:SQ K te l):SK K (JH (λxs H Q=>∃p ys,xs=[.ref p]/\(tu K H p ys∨DP K H p ys)/\∀l,H l=none->Q (.ref l) (qH H l (.lst ys))) (uM te xQ)) (B5 l):=by
 intro H₀ Hf₀ Hf S σ H Fs av S' R e Q q;obtain⟨x,e1,e⟩:=oMq.mp e;cases e;refine hl R (ds:=x.1) (S':=x.2) e1 _ λHf1 H1 Fs1 p1 vs1 t1 R1 h1 r1=>⟨p1,vs1,rfl,.inl h1,λp hp=>?_⟩
 obtain⟨t4,R4,n1,n2,n3⟩:=R1.new (o:=.lst vs1) hp;exact q _ _ _ (.ref p) [p] (t1.trans t4) R4 (pI.new oW n1 r1) ((yN.one R1 hp).back t1)
theorem xa(ns:List Int):(ns.map λn=>AV.sh (.int n))=(ns.map D.int).map .sh:=by rw[mPq];rfl
theorem ON(hl:SQ K te l):SK K (JH (λxs H Q=>∃(a:Addr) (ns:List Int),xs=[.ref a]/\tu K H a (ns.map V.int)/\∀p,H p=none->Q (.ref p) (qH H p (.lst ((qz ns).map V.int)))) (uM te xQ)) (CD l):=by
 intro H₀ Hf₀ Hf S σ H Fs av S' R e Q q;obtain⟨x,e1,e⟩:=oBq.mp e;obtain⟨ns,e2,e⟩:=oMq.mp e;cases e;refine hl R (ds:=x.1) (S':=x.2) e1 _ λHf1 H1 Fs1 p1 vs1 t1 R1 h1 r1=>?_
 rw[uF e2]at r1;rw[qV r1]at h1;refine⟨p1,ns,rfl,h1,λp hp=>?_⟩
 obtain⟨t4,R4,n1,n2,n3⟩:=R1.new (o:=.lst ((qz ns).map V.int)) hp;rw[xa]at q;exact q _ _ _ (.ref p) [p] (t1.trans t4) R4 (pI.new oW n1 (tM _)) ((yN.one R1 hp).back t1)
end
def Ws:String->D->Bool
 |T,.list _=>T == "list"
 |T,.scr _=>T == "list"
 |T,.str _=>T == "str"
 |_,_=>false
def XN(T:String) (f:D->List D->Option D) (a:ME) (as:ML):ME:=λS=>(a S).bind λx=>if Ws T x.1=true then (as x.2).bind λy=>(f x.1 y.1).map λd=>(d,y.2) else none
def Yr(K:W.Frag) (r:V->List V->Hp->VK->Prop) (f:D->List D->Option D):Prop:=∀{x:V}{vs:List V}{H:Hp}{Q:VK}{dx:D}{ds:List D}{d:D},rD K H dx x->qq K H ds vs->f dx ds=some d->(∀v,rD K H d v->Q v H)->r x vs H Q
section
variable {K:W.Frag}{te:TE}{ta:TA}{a:ME}{as:ML}{r:V->List V->Hp->VK->Prop}{f:D->List D->Option D}{T:String}
theorem T8{H:Hp}{d:D}{v:V}(h:Ws T d=true) (rv:rD K H d v):VB K T v H:=by
 cases rv <;> simp only[Ws]at h
 all_goals first|(exfalso;simp at h;done)|skip
 .exact eq_of_beq h
 .rename_i p vs ds h1 l e;exact .inl ⟨eq_of_beq h,vs,tu.of h1⟩
 .rename_i p ns h1;exact .inl ⟨eq_of_beq h,_,h1⟩
theorem Sl(hr:Yr K r f) (ha:SR K te a) (hs:Rj K ta as):SR K (Qr K T r te ta) (XN T f a as):=by
 intro H₀ Hf₀ Hf S σ H Fs d S' R e Q q;obtain⟨x,e1,e⟩:=oBq.mp e;split at e
 .rename_i hT;obtain⟨y,e2,e⟩:=oBq.mp e;obtain⟨z,e3,e⟩:=oMq.mp e;cases e;refine ha R (d:=x.1) (S':=x.2) e1 _ λHf1 H1 Fs1 v t1 R1 r1=>⟨T8 hT r1,hs R1 (ds:=y.1) (S':=y.2) e2 _ λHf2 H2 Fs2 vs t2 R2 r2=>?_⟩
  exact hr (r1.mono t2.sh) r2 e3 λv rv=>q _ _ _ v (t1.trans t2) R2 rv
 .cases e
def E6:D->List D->Option D
 | .list ds,[.int k]=>(rJ ds).bind λns=>if k∈ns then some (.int (ns.idxOf k:Nat)) else none
 |_,_=>none
theorem Hk:Yr K (Mw K) E6:=by
 intro x vs H Q dx ds d rx rs e q;unfold E6 at e;split at e
 .rename_i es k;obtain⟨ns,e1,e⟩:=oBq.mp e;split at e
  .rename_i hk;cases e;obtain⟨v,ws,rfl,h1,h2⟩:=rs.cons_inv;rw[h2.nil_inv];cases h1;rw[uF e1]at rx;obtain⟨p,us,rfl,h3,h4⟩:=rx.list_inv;rw[qV h4]at h3;exact⟨p,ns,k,rfl,rfl,tu.of h3,hk,q _ .int⟩
  .cases e
 .cases e
def XT(a:ME):ME:=λS=>(a S).bind λx=>match x.1 with
 | .list ds=>(IC ds).map λrs=>(.int (rs.countP (·=([]:List Int)):Nat),x.2)
 |_=>none
def XR:D->Option Bool
 | .non=>some false
 | .bl b=>some b
 | .int i=>some (i != 0)
 | .list ds=>some (!ds.isEmpty)
 | .tup ds=>some (!ds.isEmpty)
 | .dict ds=>some (!ds.isEmpty)
 |_=>none
def Yz(a:ME):MT:=λS=>(a S).bind λx=>(XR x.1).map λb=>(b,x.2)
end
def qS:AV->List Nat->Option (List AV)
 | .ow avs,[]=>some avs
 | .ow avs,j::js=>(avs[j]?).bind λa=>qS a js
 |_,_=>none
def putAt:AV->List Nat->List AV->AV
 | .ow _,[],as=>.ow as
 | .ow avs,j::js,as=>match avs[j]? with
  |some a=>.ow (avs.set j (putAt a js as))
  |none=>.ow avs
 |a,_,_=>a
def IG(H:Hp):V->List Nat->V->Prop
 |v,[],w=>v=w
 |v,j::js,w=>∃p vs u,v = .ref p/\H p=some (.lst vs)/\vs[j]?=some u/\IG H u js w
section
variable {K:W.Frag}{H₀ Hf₀ Hf Hf' H H':Hp}{S S':AS}{σ:St}{Fs Fs':List (List Addr)}
theorem yI:∀{Fs:List (List Addr)}{F G:List Addr}(i:Nat),Fs.flatten.Nodup->Fs[i]?=some G->F.Nodup->(∀p∈F,p∈G∨p∉Fs.flatten)->(Fs.set i F).flatten.Nodup
 | [],F,G,i,h,e,_,_=>by simp at e
 |E::Gs,F,G,0,h,e,hF,hd=>by
  simp at e;subst e;rw[eC,fCq,nAq];rw[fCq,nAq]at h;refine⟨hF,h.2.1,λa ha b hb e=>?_⟩
  subst e;rcases hd a ha with z|z
  .exact h.2.2 a z a hb rfl
  .exact z (by rw[fCq];exact ar _ hb)
 |E::Gs,F,G,i+1,h,e,hF,hd=>by
  rw[eD,fCq,nAq];rw[fCq,nAq]at h;have e':Gs[i]?=some G:=by simpa using e
  refine⟨h.1,yI i h.2.1 e' hF λp hp=>(hd p hp).imp id λz m=>z (by rw[fCq];exact ar _ m),λa ha b hb e=>?_⟩
  subst e;rcases sQ hb with q|q
  .rcases hd a q with z|z
   .exact h.2.2 a ha a (mFq.mpr ⟨G,mGq e',z⟩) rfl
   .exact z (by rw[fCq];exact az _ ha)
  .exact h.2.2 a ha a q rfl
theorem Do:∀{Fs:List (List Addr)}{F G:List Addr}{i j:Nat}{p:Addr},Fs.flatten.Nodup->Fs[i]?=some F->Fs[j]?=some G->i≠j->p∈F->p∉G
 | [],F,G,i,j,p,_,e,_,_,_,_=>by simp at e
 |E::Es,F,G,0,0,p,h,e,f,n,_,_=>n rfl
 |E::Es,F,G,0,j+1,p,h,e,f,n,hp,m=>by
  simp at e;subst e;rw[fCq,nAq]at h;exact h.2.2 p hp p (mFq.mpr ⟨G,mGq (i:=j) (by simpa using f),m⟩) rfl
 |E::Es,F,G,i+1,0,p,h,e,f,n,hp,m=>by
  simp at f;subst f;rw[fCq,nAq]at h;exact h.2.2 p m p (mFq.mpr ⟨F,mGq (i:=i) (by simpa using e),hp⟩) rfl
 |E::Es,F,G,i+1,j+1,p,h,e,f,n,hp,m=>by
  rw[fCq,nAq]at h;exact Do h.2.1 (i:=i) (j:=j) (by simpa using e) (by simpa using f) (λz=>n (by rw[z])) hp m
theorem pI.path:∀{path:List Nat}{av:AV}{v:V}{F:List Addr}{as:List AV},pI K Hf H av v F->F.Nodup->qS av path=some as->∃p vs Gs,IG H v path (.ref p)/\H p=some (.lst vs)/\Hf p=none/\pY K Hf H as vs Gs/\p∈F/\p∉Gs.flatten/\Gs.flatten.Nodup/\(∀q∈Gs.flatten,q∈F) /\
  ∀as' vs' Gs',pY K Hf (qH H p (.lst vs')) as' vs' Gs'->(p::Gs'.flatten).Nodup->(∀q∈Gs'.flatten,q∈Gs.flatten∨q∉F)->∃F',pI K Hf (qH H p (.lst vs')) (putAt av path as') v F'/\F'.Nodup/\∀q∈F',q∈F∨q∈Gs'.flatten
 | [],av,v,F,as,r,nd,e=>by
  cases av with
  |ow avs =>
   cases e;obtain⟨p,vs,Gs,rfl,rfl,h1,h2,h3⟩:=r.ow_inv;have n:=aA.mp nd;refine⟨p,vs,Gs,rfl,h1,h2,h3,by simp,n.1,n.2,λq hq=>mCo _ hq,λas' vs' Gs' r' nd' _=>⟨p::Gs'.flatten,pI.news oW h2 r',nd',λq hq=>?_⟩⟩
   rcases ag.mp hq with z|z
   .exact .inl (by rw[z];simp)
   .exact .inr z
  |_=>cases e
 |j::js,av,v,F,as,r,nd,e=>by
  cases av with
  |ow avs =>
   obtain⟨a,e1,e2⟩:=oBq.mp (show (avs[j]?).bind (λa=>qS a js)=some as from e)
   obtain⟨p0,vs0,Gs0,rfl,rfl,h1,h2,h3⟩:=r.ow_inv;have n:=aA.mp nd;have hj:j<avs.length:=(gSq.mp e1).1;have hv:vs0[j]?=some (vs0[j]'(h3.1 ▸ hj)):=gEg _;have hg:Gs0[j]?=some (Gs0[j]'(h3.2.1 ▸ hj)):=gEg _;generalize vs0[j]'(h3.1 ▸ hj)=vj at hv;generalize Gs0[j]'(h3.2.1 ▸ hj)=Fj at hg;have rj:=h3.2.2 j a vj Fj e1 hv hg;have ndj:Fj.Nodup:=cg.sublist (aD (mGq hg)) n.2;have sub:∀q∈Fj,q∈Gs0.flatten:=λq hq=>qv hg hq
   obtain⟨p,vs,Gs,g1,g2,g3,g4,g5,g6,g6',g7,g8⟩:=pI.path rj ndj e2;have pne:p0≠p:=λz=>n.1 (z ▸ sub p g5)
   refine⟨p,vs,Gs,⟨p0,vs0,vj,rfl,h1,hv,g1⟩,g2,g3,g4,mCo _ (sub p g5),g6,g6',λq hq=>mCo _ (sub q (g7 q hq)),λas' vs' Gs' r' nd' hd=>?_⟩
   obtain⟨F',k1,k2,k3⟩:=g8 as' vs' Gs' r' nd' λq hq=>(hd q hq).imp id λz m=>z (mCo _ (sub q m))
   have hF':∀q∈F',q∈Fj∨q∉Gs0.flatten:=λq hq=>by
    rcases k3 q hq with z|z
    .exact .inl z
    .rcases hd q z with y|y
     .exact .inl (g7 q y)
     .exact .inr λm=>y (mCo _ m)
   refine⟨p0::(Gs0.set j F').flatten,?_,aA.mpr ⟨λm=>?_,yI j n.2 hg k2 hF'⟩,λq hq=>?_⟩
   .show pI K Hf (qH H p (.lst vs')) (match avs[j]? with|some a=>.ow (avs.set j (putAt a js as'))|none=>.ow avs) (.ref p0) _
    rw[e1];refine .ow (vs:=vs0) (by rw[oQ pne];exact h1) h2 (by rw[lZq];exact h3.1) (by rw[lZq,lZq];exact h3.2.1) λi b w G q1 q2 q3=>?_
    rw[bI]at q1 q3
    by_cases hij:j=i
    .subst hij;rw[pe rfl,pe hj]at q1;rw[pe rfl,pe (h3.2.1 ▸ hj)]at q3;rw[hv]at q2;cases q1;cases q2;cases q3;exact k1
    .rw [pD hij]at q1 q3;exact(h3.2.2 i b w G q1 q2 q3).keepUpd λm=>Do n.2 hg q3 hij g5 m
   .rcases sQ m with z|z
    .rcases k3 p0 z with y|y
     .exact n.1 (sub p0 y)
     .rcases hd p0 y with x|x
      .exact n.1 (sub p0 (g7 p0 x))
      .exact x (by simp)
    .exact n.1 z
   .rcases ag.mp hq with z|z
    .exact .inl (by rw[z];simp)
    .rcases sQ z with z|z
     .exact (k3 q z).imp (λy=>mCo _ (sub q y)) id
     .exact .inl (mCo _ z)
  |_=>cases e
theorem qh.turnAny(R:qh K H₀ Hf₀ Hf S σ H Fs) {i:Nat}{av:AV}{p:Addr}{o:HO}{v:V}{F F':List Addr}(s1:σ[i]?=some (some v)) (s2:Fs[i]?=some F) (hp:p∈F) (r:pI K Hf (qH H p o) av v F') (nd:F'.Nodup)
  (hf:∀q∈F',H₀ q=none/\q∉(Fs.set i []).flatten):qh K H₀ Hf₀ Hf (S.set i (some av)) σ (qH H p o) (Fs.set i F'):=by
 have hin:p∈Fs.flatten:=mFq.mpr ⟨F,mGq s2,hp⟩;have pn:Hf p=none:=(R.mem hin).2;have p0:H₀ p=none:=R.fresh p hin;have out:=uX R.nd s2 hp;have R1:qh K H₀ Hf₀ Hf (S.set i none) σ (qH H p o) (Fs.set i []):=by
  refine⟨by simp[R.len],by simp[R.lenF],λj a ej=>?_,λj ej=>?_,sj i R.nd bp (λp hp=>by cases hp),λp hp=>R.fresh p (qR hp),λb u e=>?_,λb u e=>?_,R.lim,R.sf⟩
  .rw [bI]at ej
   by_cases hij:i=j
   .subst hij;rw[pe rfl]at ej;split at ej <;> cases ej
   .rw [pD hij]at ej;obtain⟨w,G,f1,f2,q⟩:=R.rep j a ej;refine⟨w,G,f1,by rw[aX hij];exact f2,q.keep (.refl _) (λc hc=>oQ λe=>out ?_) λc hc=>(q.owned c hc).2⟩
    subst e;exact mFq.mpr ⟨G,mGq (i:=j) (by rw[aX hij];exact f2),hc⟩
  .rw [bI]at ej
   by_cases hij:i=j
   .subst hij;rw[pe rfl]at ej;split at ej
    .rename_i hi;rw[aZ (R.lenF.symm ▸ hi)]
    .cases ej
   .rw [pD hij]at ej;rw[aX hij];exact R.emp j ej
  .rw [oQ λz=>by rw[z,pn]at e;cases e]
   exact R.sub b u e
  .rw [oQ λz=>by rw[z,p0]at e;cases e]
   exact R.fr b u e
 exact R1.again (F:=F) s1 r nd hf
theorem qh.kill(R:qh K H₀ Hf₀ Hf S σ H Fs) (x:Nat):qh K H₀ Hf₀ Hf (S.set x none) σ H (Fs.set x []):=by
 refine⟨by simp[R.len],by simp[R.lenF],λj a ej=>?_,λj ej=>?_,sj x R.nd bp (λp hp=>by cases hp),λp hp=>R.fresh p (qR hp),R.sub,R.fr,R.lim,R.sf⟩
 .rw [bI]at ej
  by_cases hij:x=j
  .subst hij;rw[pe rfl]at ej;split at ej <;> cases ej
  .rw [pD hij]at ej;obtain⟨w,G,f1,f2,q⟩:=R.rep j a ej;exact⟨w,G,f1,by rw[aX hij];exact f2,q⟩
 .rw [bI]at ej
  by_cases hij:x=j
  .subst hij;rw[pe rfl]at ej;split at ej
   .rename_i hi;rw[aZ (R.lenF.symm ▸ hi)]
   .cases ej
  .rw [pD hij]at ej;rw[aX hij];exact R.emp j ej
end
abbrev aI(ns:List Int):AV:=.ow (ns.map λn=>.sh (.int n))
def BX:List AV->Option (List Int)
 | []=>some []
 | .sh (.int i)::r=>(BX r).map (i :: ·)
 |_=>none
def Df:List AV->Option (List (List Int))
 | []=>some []
 | .ow as::r=>(BX as).bind λns=>(Df r).map (ns :: ·)
 |_=>none
theorem Ge:∀{as:List AV}{ns:List Int},BX as=some ns->as=ns.map λn=>.sh (.int n)
 | [],ns,h=>by cases h;rfl
 |a::as,ns,h=>by
  cases a with
  |sh d =>
   cases d with
   |int i =>
    obtain⟨ms,h1,h2⟩:=oMq.mp (show (BX as).map (i :: ·)=some ns from h)
    subst h2;rw[Ge h1];rfl
   |_=>cases h
  |_=>cases h
theorem Cr:∀{as:List AV}{rs:List (List Int)},Df as=some rs->as=rs.map aI
 | [],rs,h=>by cases h;rfl
 |a::as,rs,h=>by
  cases a with
  |ow es =>
   obtain⟨r,h1,h⟩:=oBq.mp (show (BX es).bind (λns=>(Df as).map (ns :: ·))=some rs from h)
   obtain⟨ts,h2,h3⟩:=oMq.mp h;subst h3;rw[Cr h2,Ge h1];rfl
  |_=>cases h
@[simp] theorem Kx (ns:List Int):BX (ns.map λn=>.sh (.int n))=some ns:=by
 induction ns with
 |nil=>rfl
 |cons n ns ih=>show (BX (ns.map λn=>.sh (.int n))).map (n :: ·)=_;rw[ih];rfl
@[simp] theorem LH (rs:List (List Int)):Df (rs.map aI)=some rs:=by
 induction rs with
 |nil=>rfl
 |cons r rs ih=>show (BX (r.map λn=>.sh (.int n))).bind (λns=>(Df (rs.map aI)).map (ns :: ·))=_;rw[Kx,ih];rfl
def A0(k:MK):MK:=λS=>(k S).bind λx=>match x.1 with
 | .ow avs=>(Df avs).map λrs=>(.ow ((qY rs).map aI),x.2)
 |_=>none
section
variable {K:W.Frag}{Hf H:Hp}
theorem HI{ns:List Int}{v:V}{F:List Addr}(h:pI K Hf H (aI ns) v F):∃p,v = .ref p/\F=[p]/\H p=some (.lst (ns.map V.int))/\Hf p=none:=by
 obtain⟨p,vs,Gs,rfl,rfl,h1,h2,h3⟩:=h.ow_inv;have e:∀{ns:List Int}{vs:List V}{Gs:List (List Addr)},pY K Hf H (ns.map λn=>AV.sh (.int n)) vs Gs->vs=ns.map V.int/\Gs.flatten=[]:=by
  intro ns
  induction ns with
  |nil =>
   intro vs Gs h;obtain⟨a,b⟩:=h.nil_inv;exact⟨a,by rw[b];rfl⟩
  |cons n ns ih =>
   intro vs Gs h;obtain⟨v,ws,F,Gs',rfl,rfl,r1,r2⟩:=pY.cons_inv (a:=.sh (.int n)) h;obtain⟨f1,f2⟩:=r1.sh_inv;subst f1;cases f2;obtain⟨g1,g2⟩:=ih r2;rw[g1];exact⟨rfl,by rw[fCq,g2];rfl⟩
 obtain⟨e1,e2⟩:=e h3;rw[e2];subst e1;exact⟨p,rfl,rfl,h1,h2⟩
theorem SC{ns:List Int}{p:Addr}(h1:H p=some (.lst (ns.map V.int))) (h2:Hf p=none):pI K Hf H (aI ns) (.ref p) [p]:=by
 have:=pI.new (K:=K) (Hf:=Hf) (H:=H) (ds:=ns.map D.int) h1 h2 (tM ns);rw[←xa]at this;exact this
theorem wF:∀{rs:List (List Int)}{vs:List V}{Gs:List (List Addr)},pY K Hf H (rs.map aI) vs Gs->∃ps,vs=ps.map V.ref/\Gs=ps.map (λp=>[p])/\rX H ps rs/\∀p∈ps,Hf p=none
 | [],vs,Gs,h=>by
  obtain⟨a,b⟩:=h.nil_inv;exact⟨[],a,b,.nil,λp hp=>by cases hp⟩
 |r::rs,vs,Gs,h=>by
  obtain⟨v,ws,F,Gs',rfl,rfl,r1,r2⟩:=pY.cons_inv (a:=aI r) (as:=rs.map aI) h;obtain⟨p,rfl,rfl,h1,h2⟩:=HI r1;obtain⟨ps,rfl,rfl,h3,h4⟩:=wF r2;exact⟨p::ps,rfl,rfl,rX.cons_iff.mpr ⟨h1,h3⟩,λq hq=>(ag.mp hq).elim (λe=>e ▸ h2) (h4 q)⟩
theorem Ah:∀{rs:List (List Int)}{ps:List Addr},rX H ps rs->(∀p∈ps,Hf p=none)->pY K Hf H (rs.map aI) (ps.map V.ref) (ps.map λp=>[p])
 | [],[],_,_=>.nil
 | [],_::_,h,_=>by have:=h.length;simp at this
 |_::_,[],h,_=>by have:=h.length;simp at this
 |r::rs,p::ps,h,n=>by
  obtain⟨h1,h2⟩:=rX.cons_iff.mp h;exact .cons (SC h1 (n p (by simp))) (Ah h2 λq hq=>n q (mCo _ hq))
theorem flat_one(ps:List Addr):(ps.map λp=>[p]).flatten=ps:=by
 induction ps with
 |nil=>rfl
 |cons p ps ih=>rw[ao,fCq,ih];rfl
theorem Ew{te:TE}{k:MK}(hk:SK K te k):SK K (JH (λxs H Q=>∃(a:Addr) (ps:List Addr) (rs:List (List Int)),xs=[.ref a]/\tu K H a (ps.map V.ref)/\rX H ps rs /\
  ∀p qs,H p=none->qs.Perm ps->rX (qH H p (.lst (qs.map V.ref))) qs (qY rs)->Q (.ref p) (qH H p (.lst (qs.map V.ref)))) (uM te xQ)) (A0 k):=by
 intro H₀ Hf₀ Hf S σ H Fs av S' R e Q q;obtain⟨x,e1,e⟩:=oBq.mp e;refine hk R (a:=x.1) (S':=x.2) e1 _ λHf1 H1 Fs1 v F t1 R1 r1 o1=>?_
 split at e
 .rename_i avs hx;obtain⟨rs,e2,e⟩:=oMq.mp e;cases e;rw[hx,Cr e2]at r1;obtain⟨p0,vs,Gs,rfl,rfl,h1,h2,h3⟩:=r1.ow_inv;obtain⟨ps,rfl,rfl,hE,hn⟩:=wF h3;rw[flat_one]at o1;refine⟨p0,ps,rs,rfl,tu.of h1,hE,λp qs hp hq hE2=>?_⟩
  obtain⟨t4,R4,n1,n2,n3⟩:=R1.new (o:=.lst (qs.map V.ref)) hp;have pq:p∉qs:=λm=>hE.free (H:=H1) hp (hq.mem_iff.mp m)
  have hm:∀z∈qs,z∈p0::ps:=λz hz=>mCo _ (hq.mem_iff.mp hz)
  refine q _ _ _ (.ref p) (p::(qs.map λp=>[p]).flatten) (t1.trans t4) R4 (pI.news oW n1 (Ah hE2 λz hz=>hn z (hq.mem_iff.mp hz))) ?_
  rw[flat_one];refine⟨aA.mpr ⟨pq,hq.nodup_iff.mpr (aA.mp o1.nd).2⟩,λz hz=>?_,λz hz=>?_,λz hz=>?_⟩
  .rcases ag.mp hz with y|y
   .rw [y];exact n2
   .exact o1.fr z (hm z y)
  .rcases ag.mp hz with y|y
   .rw [y];exact n3
   .exact o1.out z (hm z y)
  .rcases ag.mp hz with y|y
   .rw [y];exact .inl (t1.sh.free hp)
   .exact o1.new z (hm z y)
 .cases e
def Q5:AV->Option D
 | .sh d=>if d.scal=true then some d else none
 |_=>none
def yH(f:MF) (a:ML):ME:=λS=>(a S).bind λx=>(f x.1).bind λr=>(Q5 r).map λd=>(d,x.2)
theorem vQ{f:MF}{ta:TA}{a:ML}(ha:Rj K ta a):SR K (Gj (ud K f) [] E0 ta) (yH f a):=by
 intro H₀ Hf₀ Hf S σ H Fs d S' R e Q q;obtain⟨x,e1,e⟩:=oBq.mp e;obtain⟨r,e2,e⟩:=oBq.mp e;obtain⟨z,e3,e⟩:=oMq.mp e;cases e;refine ha R (ds:=x.1) (S':=x.2) e1 _ λHf1 H1 Fs1 vs t1 R1 r1=>?_
 rw[aNq];refine⟨H1,x.1,r,.refl _,r1,e2,λHf' H' v F s1 s2 s3 l rv nd fr=>?_⟩
 have t2:zm Hf1 H1 Fs1 Hf1 H' Fs1:=⟨.refl _,s2,λ_ h=>h,λb h g=>absurd h g⟩
 cases r with
 |sh d' =>
  simp only[Q5]at e3;split at e3
  .rename_i hs;cases e3;exact q _ _ _ v (t1.trans t2) (R1.laid s2) (rv.sh_inv.2.scal hs)
  .cases e3
 |_=>cases e3
end
section
variable (S:AS)
@[simp] theorem We (i:Nat):oz i S=(S[i]?.join).map λa=>(oK a,S):=rfl
@[simp] theorem Vp (i:Nat):pG i S=(S[i]?.join).map λa=>(.sh (oK a),S.set i (some (.sh (oK a)))):=rfl
@[simp] theorem Vw (i:Nat):EK i S=(S[i]?.join).map λa=>(a,S.set i none):=rfl
@[simp] theorem W8 (k:MK):rOf k S=(k S).map λx=>(oK x.1,x.2):=rfl
@[simp] theorem Xh (m:ME):kSc m S=(m S).bind λx=>if x.1.scal then some (.sh x.1,x.2) else none:=rfl
@[simp] theorem Vl (k:MK):vU k S=(k S).map λx=>(.sh (oK x.1),x.2):=rfl
@[simp] theorem YK (d:D):rC d S=if d.scal then some (d,S) else none:=rfl
@[simp] theorem W5 (f:D->D->Option D) (a b:ME):pW f a b S=(a S).bind λx=>(b x.2).bind λy=>(f x.1 y.1).map λd=>(d,y.2):=rfl
@[simp] theorem Xt (f:D->Option D) (a:ME):DF f a S=(a S).bind λx=>(f x.1).map λd=>(d,x.2):=rfl
@[simp] theorem UU (a b:MT):D2 a b S=(a S).bind λx=>if x.1=true then b x.2 else some (false,x.2):=rfl
@[simp] theorem Vm (a b:MT):Th a b S=(a S).bind λx=>if x.1=true then some (true,x.2) else b x.2:=rfl
@[simp] theorem UJ (a:MT):NW a S=(a S).map λx=>(!x.1,x.2):=rfl
@[simp] theorem Xu (c:MT) (a b:ME):Wb c a b S=(c S).bind λx=>if x.1=true then a x.2 else b x.2:=rfl
def UV:D->Option Bool
 | .bl b=>some b
 |_=>none
@[simp] theorem Xj (a:ME):vT a S=(a S).bind λx=>(UV x.1).map λb=>(b,x.2):=by
 show (a S).bind _=_;congr 1;funext x;obtain⟨d,S'⟩:=x;cases d <;> rfl
@[simp] theorem VI (a b:ME):Ut a b S=(a S).bind λx=>(UV x.1).bind λc=>if c=true then b x.2 else some (.bl false,x.2):=by
 show (a S).bind _=_;congr 1;funext x;obtain⟨d,S'⟩:=x;cases d <;> try rfl
 rename_i c;cases c <;> rfl
@[simp] theorem Qj (b:Bool):UV (.bl b)=some b:=rfl
@[simp] theorem VM:qj S=some ([],S):=rfl
@[simp] theorem SU (k:MK) (r:MA):oV k r S=(k S).bind λx=>(r x.2).map λy=>(x.1::y.1,y.2):=rfl
@[simp] theorem S8:pA S=some ([],S):=rfl
@[simp] theorem Re (k:ME) (r:ML):oI k r S=(k S).bind λx=>(r x.2).map λy=>(x.1::y.1,y.2):=rfl
@[simp] theorem Wq (a:MA):uG a S=(a S).bind λx=>wm (x.1.length<=rG) (some (.ow x.1,x.2)):=rfl
@[simp] theorem U4 (a:MA):Jj a S=(a S).bind λx=>wm (x.1.length<=rG) (some (.sh (.tup (x.1.map oK)),x.2)):=rfl
@[simp] theorem Wu (a b:ML):FE a b S=(a S).bind λx=>(b x.2).bind λy=>wm (x.1.length+y.1.length<=rG) (some (.ow ((x.1++y.1).map .sh),y.2)):=rfl
@[simp] theorem Tj:yY S=some (none,S):=rfl
@[simp] theorem Um (m:ME):xB m S=(m S).bind λx=>(intOf x.1).map λi=>(some i,x.2):=by
 show (m S).bind _=_;congr 1;funext x;obtain⟨d,S'⟩:=x;cases d <;> rfl
@[simp] theorem La (i:Int):intOf (.int i)=some i:=rfl
@[simp] theorem Xz (l:ML) (lo hi:MO):LV l lo hi S=(l S).bind λx=>(lo x.2).bind λy=>(hi y.2).map λz=>(.ow ((xi x.1 y.1 z.1).map .sh),z.2):=rfl
@[simp] theorem Xm (l:ML) (b:ME):Qs l b S=(l S).bind λx=>(b x.2).bind λy=>(intOf y.1).bind λi=>(atI x.1 i).map λd=>(.sh d,y.2):=by
 show (l S).bind _=_;congr 1;funext x;show (b x.2).bind _=_;congr 1;funext y;obtain⟨d,S'⟩:=y;cases d <;> rfl
@[simp] theorem Xi (f:List D->Option D) (a:ML):xv f a S=(a S).bind λx=>(f x.1).map λd=>(d,x.2):=rfl
@[simp] theorem SX (f:MF) (a:MA):qM f a S=(a S).bind λx=>(f (x.1.map oK)).map λr=>(r,x.2):=rfl
@[simp] theorem TX (f:MF) (a:ML):yH f a S=(a S).bind λx=>(f x.1).bind λr=>(Q5 r).map λd=>(d,x.2):=rfl
@[simp] theorem TY:ux S=some (.nx S):=rfl
@[simp] theorem Rf:HF S=some (.bk S):=rfl
def JB(o:Option LY) (b:MS):Option LY:=o.bind λo=>match o with
 | .nx S'=>b S'
 |o=>some o
@[simp] theorem Pm (b:MS):JB (some (.nx S)) b=b S:=rfl
@[simp] theorem L3 (a:AV) (b:MS):JB (some (.rt a)) b=some (.rt a):=rfl
@[simp] theorem Pl (b:MS):JB (some (.bk S)) b=some (.bk S):=rfl
@[simp] theorem VC (a b:MS):oY a b S=JB (a S) b:=rfl
@[simp] theorem Wz (i:Nat) (k:MK):qb i k S=(k S).map λx=>.nx (x.2.set i (some x.1)):=rfl
@[simp] theorem Vv (k:MK):tV k S=(k S).map λx=>.rt x.1:=rfl
@[simp] theorem Xf (c:MT) (a b:MS):Dy c a b S=(c S).bind λx=>if x.1=true then a x.2 else b x.2:=rfl
@[simp] theorem Wr (i:Nat) (k:MK):CW i k S=(rE S i).bind λ_=>(k S).bind λx=>(rE x.2 i).bind λavs=>wm (avs.length<rG) (some (.nx (x.2.set i (some (.ow (avs++[x.1])))))):=rfl
@[simp] theorem V1 (i:Nat) (l:ML):L1 i l S=(rE S i).bind λ_=>(l S).bind λx=>(rE x.2 i).bind λavs=>wm (avs.length+x.1.length<=rG) (some (.nx (x.2.set i (some (.ow (avs++x.1.map .sh)))))):=rfl
@[simp] theorem U5 (i:Nat) (b:ME) (k:MK):T4 i b k S=(vU k S).bind λx=>(rE x.2 i).bind λ_=>(b x.2).bind λy=>(rE y.2 i).bind λavs=>(intOf y.1).bind λj=>(Eb avs.length j).map λn =>
 .nx (y.2.set i (some (.ow (((avs.map oK).set n (oK x.1)).map .sh)))):=rfl
@[simp] theorem Su (i:Nat) (b:ME) (k:MK):AC i b k S=(vU k S).bind λx=>(vO x.2 i).bind λ_=>(b x.2).bind λy=>(vO y.2 i).bind λkvs=>(vp y.1).bind λkey =>
 wm (kvs.length<rG) (some (.nx (y.2.set i (some (.owd (wK kvs key (oK x.1))))))):=rfl
def dictOf:D->Option (List (oS×D))
 | .dict kvs=>some kvs
 |_=>none
@[simp] theorem Hi (kvs:List (oS×D)):dictOf (.dict kvs)=some kvs:=rfl
@[simp] theorem LU (i:Int):vp (.int i)=some (.inl i):=rfl
@[simp] theorem Mi (a b:ME):zP a b S=(a S).bind λx=>(b x.2).bind λy=>(dictOf y.1).bind λkvs=>(vp x.1).map λkey=>(.bl (!(getD kvs key).isSome),y.2):=by
 show (a S).bind _=_;congr 1;funext x;show (b x.2).bind _=_;congr 1;funext y;obtain⟨d,S'⟩:=y;cases d <;> rfl
@[simp] theorem TF (a b:ME):tZ a b S=(a S).bind λx=>(b x.2).bind λy=>(dictOf x.1).bind λkvs=>(vp y.1).bind λkey=>(getD kvs key).map λd=>(d,y.2):=by
 show (a S).bind _=_;congr 1;funext x;show (b x.2).bind _=_;congr 1;funext y;obtain⟨d,S'⟩:=x;cases d <;> rfl
@[simp] theorem Uz:BW S=some (.owd [],S):=rfl
@[simp] theorem VN (x:Nat) (k:MK) (body:MS):AE x k body S=(vU k S).bind λy=>(uk (oK y.1)).bind λds=>su x body ds y.2:=rfl
@[simp] theorem Qa (x:Nat) (a:ML) (body:MS):yU x a body S=(a S).bind λy=>(Dx y.1).bind λds=>su x body ds y.2:=rfl
@[simp] theorem T9 (x y:Nat) (k:MK) (body:MS):Gf x y k body S=(vU k S).bind λz=>(uk (oK z.1)).bind λds=>zf x y body 0 ds z.2:=rfl
@[simp] theorem Sq (src:MI) (fr:List Nat) (tf:MT) (te:MK):uf src fr tf te S=(src S).bind λy=>(fzAll fr y.2).bind λS2=>(ER S2 fr).bind λcap=>wm (y.1.length<=rG) ((qL tf te cap y.1).map λavs=>(.ow avs,S2)):=rfl
@[simp] theorem Wo (k:MK):Bq k S=(vU k S).bind λy=>(uk (oK y.1)).map λds=>(ds,y.2):=rfl
@[simp] theorem W9 (a:ML):VY a S=(a S).bind λy=>(Dx y.1).map λds=>(ds,y.2):=rfl
@[simp] theorem KP:fzAll [] S=some S:=rfl
@[simp] theorem HL (j:Nat) (js:List Nat):fzAll (j::js) S=(S[j]?.join).bind λa=>fzAll js (S.set j (some (.sh (oK a)))):=rfl
@[simp] theorem OY:ER S []=some []:=rfl
@[simp] theorem LI (j:Nat) (js:List Nat):ER S (j::js)=(S6 S[j]?.join).bind λa=>(ER S js).map (some a :: ·):=rfl
@[simp] theorem SY (l:ML):B5 l S=(l S).map λx=>(.ow (x.1.map .sh),x.2):=rfl
@[simp] theorem QL (l:ML):CD l S=(l S).bind λx=>(rJ x.1).map λns=>(.ow ((qz ns).map λn=>.sh (.int n)),x.2):=rfl
def Ta:AV->Option (List AV)
 | .ow avs=>some avs
 |_=>none
@[simp] theorem RD (avs:List AV):Ta (.ow avs)=some avs:=rfl
@[simp] theorem OW (k:MK):A0 k S=(k S).bind λx=>(Ta x.1).bind λavs=>(Df avs).map λrs=>(.ow ((qY rs).map aI),x.2):=by
 show (k S).bind _=_;congr 1;funext x;obtain⟨d,S'⟩:=x;cases d <;> rfl
@[simp] theorem Xw (T:String) (f:D->List D->Option D) (a:ME) (as:ML):XN T f a as S=(a S).bind λx=>if Ws T x.1=true then (as x.2).bind λy=>(f x.1 y.1).map λd=>(d,y.2) else none:=rfl
def Yi:D->Option (List D)
 | .list ds=>some ds
 |_=>none
def VD:AV->Option (List D)
 | .sh (.list ds)=>some ds
 | .ow avs=>some (avs.map oK)
 |_=>none
@[simp] theorem US (ds:List D):VD (.sh (.list ds))=some ds:=rfl
@[simp] theorem UN (avs:List AV):VD (.ow avs)=some (avs.map oK):=rfl
@[simp] theorem Xv (k:MK):lOf k S=(k S).bind λx=>(VD x.1).map λds=>(ds,x.2):=by
 show (k S).bind _=_;congr 1;funext x;obtain⟨a,S'⟩:=x;cases a with
 |sh d=>cases d <;> rfl
 |_=>rfl
end
@[simp] theorem AD (ds:List D):(ds.map AV.sh).map oK=ds:=by
 rw[mPq];have:oK∘AV.sh=id:=by funext d;simp
 rw[this,eM]
def W0:AV->AV
 | .ow avs=>.ow ((avs.map oK).map .sh)
 |a=>a
@[simp] theorem Sy (d:D):W0 (.sh d) = .sh d:=rfl
@[simp] theorem UF (avs:List AV):W0 (.ow avs) = .ow ((avs.map oK).map .sh):=rfl
theorem C0{S:AS}{i:Nat}{a:AV}(h:S[i]?=some (some a)):S.set i (some a)=S:=by
 obtain⟨hk,ev⟩:=gSq.mp h;rw[←ev];exact fZ hk
@[simp] theorem Wf (S:AS) (i:Nat):EZ i S=(S[i]?.join).bind λa=>(VD a).map λds=>(ds,S.set i (some (W0 a))):=by
 unfold EZ;cases e:S[i]?.join with
 |none=>rfl
 |some a =>
  cases a with
  |sh d =>
   cases d with
   |list ds =>
    show some (ds,S)=some (ds,S.set i (some (.sh (.list ds))));rw[C0 (pS e)]
   |_=>rfl
  |ow avs=>rfl
  |owd kvs=>rfl
  |owl kvs=>rfl
def WL:AV->Option (List D)
 | .sh (.scr ns)=>some (ns.map .int)
 |a=>VD a
@[simp] theorem Q3 (ns:List Int):WL (.sh (.scr ns))=some (ns.map .int):=rfl
@[simp] theorem Tf (ds:List D):WL (.sh (.list ds))=some ds:=rfl
@[simp] theorem Ua (avs:List AV):WL (.ow avs)=some (avs.map oK):=rfl
@[simp] theorem VP (S:AS) (i:Nat):uI i S=(S[i]?.join).bind λa=>(WL a).map λds=>(ds,S.set i (some (W0 a))):=by
 unfold uI;cases e:S[i]?.join with
 |none=>rfl
 |some a =>
  cases a with
  |sh d =>
   cases d with
   |list ds =>
    show some (ds,S)=some (ds,S.set i (some (.sh (.list ds))));rw[C0 (pS e)]
   |scr ns =>
    show some (ns.map D.int,S)=some (ns.map D.int,S.set i (some (.sh (.scr ns))));rw[C0 (pS e)]
   |_=>rfl
  |ow avs=>rfl
  |owd kvs=>rfl
  |owl kvs=>rfl
@[simp] theorem Oc (i:Int):(D.int i).scal=true:=rfl
@[simp] theorem Ql (i:Bool):(D.bl i).scal=true:=rfl
@[simp] theorem P5 (i:String):(D.ty i).scal=true:=rfl
@[simp] theorem N5 (i:Int):Q5 (.sh (.int i))=some (.int i):=rfl
@[simp] theorem Qh (i j:Int):HB (.int i) (.int j)=some (.bl (decide (i=j))):=rfl
@[simp] theorem Jo (i j:Int):N2 (.int i) (.int j)=some (.bl (!decide (i=j))):=rfl
@[simp] theorem Lf (ds:List D):uN [.list ds]=some (.int ds.length):=rfl
@[simp] theorem NH (ns:List Int):uN [.scr ns]=some (.int ns.length):=rfl
@[simp] theorem O7 (i:Int):zU [.int i]=some (.int (if i<0 then -i else i)):=rfl
@[simp] theorem Kq (ds:List D):Mb [.list ds,.ty "list"]=some (.bl true):=by simp[Mb,Xa]
@[simp] theorem Fp (ds:List D):uk (.list ds)=some ds:=rfl
@[simp] theorem M9 (ds:List D) (i:Int):DJ (.list ds) (.int i)=atI ds i:=rfl
@[simp] theorem QW (ns:List Int) (i:Int):DJ (.scr ns) (.int i)=(atI ns i).map .int:=rfl
@[simp] theorem QP (d:D):S6 (some (.sh d))=some (.sh d):=rfl
@[simp] theorem Mm (ds:List D):Ws "list" (.list ds)=true:=rfl
theorem PY(S:AS) (i:Nat):rE S i=(S[i]?.join).bind Ta:=by
 unfold rE;cases S[i]?.join with
 |none=>rfl
 |some a=>cases a <;> rfl
def So:AV->Option (List (oS×D))
 | .owd kvs=>some kvs
 |_=>none
@[simp] theorem KY (kvs:List (oS×D)):So (.owd kvs)=some kvs:=rfl
theorem NF(S:AS) (i:Nat):vO S i=(S[i]?.join).bind So:=by
 unfold vO;cases S[i]?.join with
 |none=>rfl
 |some a=>cases a <;> rfl
theorem Gc{x:Nat}{body:MS}(P:Nat->AS->Prop):∀{ds:List D}{S:AS}{k:Nat},P k S->(∀i d S,ds[i]?=some d->P (k+i) S->∃S',(body (S.set x (some (.sh d)))=some (.nx S')∨body (S.set x (some (.sh d)))=some (.ct S'))/\P (k+i+1) S')->∃S',su x body ds S=some (.nx S')/\P (k+ds.length) S'
 | [],S,k,h0,_=>⟨S,rfl,h0⟩
 |d::ds,S,k,h0,hs=>by
  obtain⟨S',e,h1⟩:=hs 0 d S rfl h0;have hs':∀i d S,ds[i]?=some d->P (k+1+i) S->∃S',(body (S.set x (some (.sh d)))=some (.nx S')∨body (S.set x (some (.sh d)))=some (.ct S'))/\P (k+1+i+1) S':=λi d S h p=>by
   have:=hs (i+1) d S (by simpa using h) (by rw[show k+(i+1)=k+1+i by lia];exact p)
   rw[show k+(i+1)=k+1+i by lia]at this
   exact this
  obtain⟨S2,e2,h2⟩:=Gc P (k:=k+1) h1 hs';refine⟨S2,?_,by rw[lCq,show k+(ds.length+1)=k+1+ds.length by lia];exact h2⟩
  show (body _).bind _=_;rcases e with e|e <;> (rw[e];exact e2)
theorem vF{x:Nat}{body:MS}(P:Nat->AS->Prop) {ds:List D}{S:AS}(h0:P 0 S) (hs:∀i d S,ds[i]?=some d->P i S->∃S',body (S.set x (some (.sh d)))=some (.nx S')/\P (i+1) S'):∃S',su x body ds S=some (.nx S')/\P ds.length S':=by
 have:=Gc (x:=x) (body:=body) P (ds:=ds) (k:=0) h0 λi d S h p=>by
  rw[bF]at p ⊢;obtain⟨S',e,q⟩:=hs i d S h p;exact⟨S',.inl e,q⟩
 rw[bF]at this;exact this
theorem J3{x y:Nat}{body:MS}(P:Nat->AS->Prop):∀{ds:List D}{S:AS}{k:Nat},P k S->(∀i d S,ds[i]?=some d->P (k+i) S->∃S',body ((S.set x (some (.sh (.int (k+i:Nat))))).set y (some (.sh d)))=some (.nx S')/\P (k+i+1) S')->∃S',zf x y body k ds S=some (.nx S')/\P (k+ds.length) S'
 | [],S,k,h0,_=>⟨S,rfl,h0⟩
 |d::ds,S,k,h0,hs=>by
  obtain⟨S',e,h1⟩:=hs 0 d S rfl h0;have hs':∀i d S,ds[i]?=some d->P (k+1+i) S->∃S',body ((S.set x (some (.sh (.int (k+1+i:Nat))))).set y (some (.sh d)))=some (.nx S')/\P (k+1+i+1) S':=λi d S h p=>by
   have:=hs (i+1) d S (by simpa using h) (by rw[show k+(i+1)=k+1+i by lia];exact p)
   rw[show k+(i+1)=k+1+i by lia]at this
   exact this
  obtain⟨S2,e2,h2⟩:=J3 P (k:=k+1) h1 hs';refine⟨S2,?_,by rw[lCq,show k+(ds.length+1)=k+1+ds.length by lia];exact h2⟩
  show (body ((S.set x (some (.sh (.int (k:Nat))))).set y (some (.sh d)))).bind _=_;rw[gA]at e;rw[e];exact e2
theorem si{te:MK}{cap:AS}(g:D->AV):∀{ds:List D},(∀d∈ds,∃S',te (some (.sh d)::cap)=some (g d,S'))->qL sJ te cap ds=some (ds.map g)
 | [],_=>rfl
 |d::ds,h=>by
  obtain⟨S',e⟩:=h d (by simp)
  show (te (some (.sh d)::cap)).bind (λa=>(qL sJ te cap ds).map (a.1 :: ·))=_
  rw[e,si g λx hx=>h x (mCo _ hx)]
  rfl
theorem vJ{tf:MT}{te:MK}{cap:AS}(p:D->Bool) (g:D->AV):∀{ds:List D},(∀d∈ds,∃S1,tf (some (.sh d)::cap)=some (p d,S1)/\(p d=true->∃S',te S1=some (g d,S')))->qL tf te cap ds=some ((ds.filter p).map g)
 | [],_=>rfl
 |d::ds,h=>by
  obtain⟨S1,e1,e2⟩:=h d (by simp)
  have ih:=vJ (tf:=tf) (te:=te) (cap:=cap) p g λx hx=>h x (mCo _ hx)
  show (tf (some (.sh d)::cap)).bind _=_;rw[e1];show (if p d=true then _ else _)=_
  by_cases c:p d=true
  .obtain ⟨S',e3⟩:=e2 c;rw[pe c,e3,eB c];show (qL tf te cap ds).map _=_;rw[ih];rfl
  .rw [pD c,fF c,ih]
theorem xT{α β:Type}(f:α->β) (xs:List α) (lo hi:Option Int):xi (xs.map f) lo hi=(xi xs lo hi).map f:=by
 unfold xi;rw[lMq,iV,iW]
theorem xJ{α:Type}(xs:List α) (i:Nat) (h:i<=xs.length):xi xs (some (i:Int)) none=xs.drop i:=by
 unfold xi;rw[HT.Ca,HT.Gu,dJ h,bE (by rw[aL];exact ai _)]
theorem Cb{α:Type}(xs:List α) (i:Nat) (h:i<=xs.length):xi xs none (some (i:Int))=xs.take i:=by
 unfold xi;rw[HT.Ca,HT.Gu,dJ h,dS,ie]
theorem Oe{α:Type}(xs:List α) (i j:Nat):xi xs (some (i:Int)) (some (j:Int))=(xs.drop i).take (j-i):=by
 unfold xi;rw[HT.Ca,HT.Ca]
 by_cases h:i<=xs.length
 .rw [dJ h]
  by_cases h2:j<=xs.length
  .rw [dJ h2]
  .rw [jq (by lia),bE (by rw[aL];exact ai _),bE (by rw[aL];lia)]
 .have e:min i xs.length=xs.length:=jq (by lia)
  rw[e,fS (ai xs.length),fS (show xs.length<=i by lia)]
  simp
theorem RE{α:Type}{xs:List α}{i:Int}(h0:0<=i):atI xs i=xs[i.toNat]?:=by
 unfold atI Eb;rw[pe h0]
 by_cases h:i<xs.length
 .rw [pe h];rfl
 .rw [pD h,bO (by lia)]
  rfl
theorem E5{n:Nat}{i:Nat}(h:i<n):Eb n (i:Int)=some i:=by
 unfold Eb;rw[pe (by lia),pe (by lia)]
 simp
theorem JU(ns:List Int):(ns.map D.int).map AV.sh=ns.map λn=>AV.sh (.int n):=by rw[mPq];rfl
theorem EN(ns:List Int):(ns.map λn=>AV.sh (.int n)).map oK=ns.map D.int:=by rw[mPq];exact mCq λn _=>by simp
theorem uj(rs:List (List Int)):(rs.map aI).map oK=rs.map dI:=by
 rw[mPq];refine mCq λr _=>?_
 show oK (.ow (r.map λn=>AV.sh (.int n)))=_
 rw[tG,EN]
theorem QH(rs:List (List Int)):(rs.map dI).map AV.sh=rs.map λr=>AV.sh (dI r):=by rw[mPq];rfl
theorem Jy(rs:List (List Int)):(rs.map λr=>AV.sh (dI r)).map oK=rs.map dI:=by rw[mPq];exact mCq λn _=>by simp
theorem qO(ns:List Int):oK (aI ns)=dI ns:=by
 show oK (.ow (ns.map λn=>AV.sh (.int n)))=_
 rw[tG,EN]
theorem P2(i j:Int):vK (.int i) (.int j)=some (.int (i+j)):=vD _
theorem QB(i j:Int):IM (.int i) (.int j)=some (.int (i-j)):=vD _
theorem TR(i j:Int):WK (.int i) (.int j)=some (.bl (decide (i<j))):=vD _
theorem Uy(i j:Int):XD (.int i) (.int j)=some (.bl (decide (i<=j))):=vD _
theorem Tr(i j:Int):OV (.int i) (.int j)=some (.bl (decide (j<i))):=vD _
theorem SZ(i j:Int):WZ (.int i) (.int j)=some (.bl (decide (j<=i))):=vD _
theorem UO(i:Int):xw (.int i)=some (.int (-i)):=rfl
theorem X9:Hw (.int 10) (.int 40)=some (.int (10 ^ 40)):=vA ⟨by decide,by decide,by decide⟩ _
theorem YD:Hw (.int 10) (.int 57)=some (.int (10 ^ 57)):=vA ⟨by decide,by decide,by decide⟩ _
theorem RL{i j:Int}(h1:-(2 ^ 64)<i) (h2:i<2 ^ 64):Fo (.int i) (.int j)=some (.int (i*j)):=vA (.inl ⟨h1,h2⟩) _
theorem OO{i j:Int}(h1:-(2 ^ 64)<j) (h2:j<2 ^ 64):Fo (.int i) (.int j)=some (.int (i*j)):=vA (.inr ⟨h1,h2⟩) _
theorem rK{i j:Int}(h:0<j):ue (.int i) (.int j)=some (.int (i % j)):=vA h _
theorem uv{i j:Int}(h:0<j) (h2:j<1073741824):yL (.int i) (.int j)=some (.int (i / j)):=vA ⟨h,h2⟩ _
theorem V5:(0:Nat)<=rG:=by decide
theorem Vu:(1:Nat)<=rG:=by decide
theorem Vd:(2:Nat)<=rG:=by decide
theorem rO{n:Nat}(h:n<=16777216):n<=rG:=h
theorem tW{n:Nat}(h:n<16777216):n<rG:=h
theorem vS{n:Nat}(h:n<1000000):Dx [.int (n:Int)]=some (pZ 0 n):=by
 have e:Dx [.int (n:Int)]=some (pZ 0 (n:Int).toNat):=vA ⟨by lia,by lia⟩ _
 rw[e,br]
theorem wX(n:Nat):pZ 0 n=(bq n).map λi:Nat=>D.int i:=by
 unfold pZ;exact mCq λi _=>by rw[gB]
theorem Vo(np n:Nat) (m:MS) (ds:List D):uH np n m ds=if ds.length=np then (m (ds.map (λd=>some (.sh d))++aK (n-ds.length) none)).bind λo=>match o with
  | .rt a=>some a
  | .nx _=>some (.sh .non)
  |_=>none
 else none:=rfl
theorem YC{α:Type}{a b:α}{l:List α}:(a::b::l)[1]?=some b:=rfl
theorem WW{α:Type}{a b v:α}{l:List α}:(a::b::l).set 1 v=a::v::l:=rfl
theorem YE{α:Type}{a b c:α}{l:List α}:(a::b::c::l)[2]?=some c:=rfl
theorem DI{α:Type}{a b c v:α}{l:List α}:(a::b::c::l).set 2 v=a::b::v::l:=rfl
theorem YG{α:Type}{a b c d:α}{l:List α}:(a::b::c::d::l)[3]?=some d:=rfl
theorem WO{α:Type}{a b c d v:α}{l:List α}:(a::b::c::d::l).set 3 v=a::b::c::v::l:=rfl
theorem YJ{α:Type}{a b c d:α}{l:List α}{n:Nat}:(a::b::c::d::l)[n+4]?=l[n]?:=rfl
theorem WR{α:Type}{a b c d v:α}{l:List α}{n:Nat}:(a::b::c::d::l).set (n+4) v=a::b::c::d::l.set n v:=rfl
def zq:=aa @Z.vD (aa @Z.V5 (aa @Z.Vu (aa @Z.Vd (aa @Z.We (aa @Z.Vp (aa @Z.Vw (aa @Z.W8 (aa @Z.Xh (aa @Z.Vl (aa @Z.YK (aa @Z.W5 (aa @Z.Xt (aa @Z.UU (aa @Z.Vm (aa @Z.UJ (aa @Z.Xu (aa @Z.Xj (aa @Z.VI (aa @Z.Qj (aa @Z.VM (aa @Z.SU (aa @Z.S8 (aa @Z.Re (aa @Z.Wq (aa @Z.U4 (aa @Z.Wu (aa @Z.Tj (aa @Z.Um (aa @Z.La (aa @Z.Xz (aa @Z.Xm (aa @Z.Xi (aa @Z.SX (aa @Z.TX (aa @Z.TY (aa @Z.Rf (aa @Z.Pm (aa @Z.L3 (aa @Z.Pl (aa @Z.VC (aa @Z.Wz (aa @Z.Vv (aa @Z.Xf (aa @Z.Wr (aa @Z.V1 (aa @Z.U5 (aa @Z.Su (aa @Z.Hi (aa @Z.LU (aa @Z.Mi (aa @Z.TF (aa @Z.Uz (aa @Z.VN (aa @Z.Qa (aa @Z.T9 (aa @Z.Sq (aa @Z.Wo (aa @Z.W9 (aa @Z.KP (aa @Z.HL (aa @Z.OY (aa @Z.LI (aa @Z.SY (aa @Z.QL (aa @Z.RD (aa @Z.OW (aa @Z.Xw (aa @Z.US (aa @Z.UN (aa @Z.Xv (aa @Z.AD (aa @Z.Sy (aa @Z.UF (aa @Z.Wf (aa @Z.Q3 (aa @Z.Tf (aa @Z.Ua (aa @Z.VP (aa @Z.Oc (aa @Z.Ql (aa @Z.P5 (aa @Z.N5 (aa @Z.P2 (aa @Z.QB (aa @Z.TR (aa @Z.Uy (aa @Z.Tr (aa @Z.SZ (aa @Z.UO (aa @Z.X9 (aa @Z.YD (aa @Z.JU (aa @Z.EN (aa @Z.QH (aa @Z.Jy (aa @Z.Qh (aa @Z.Jo (aa @Z.Lf (aa @Z.NH (aa @Z.O7 (aa @Z.Kq (aa @Z.Fp (aa @Z.M9 (aa @Z.QW (aa @Z.QP (aa @Z.Mm (aa @Z.PY (aa @Z.NF (aa @Z.KY (aa @Z.sr (aa @Z.tG (aa @Z.BI (aa @Z.Vo (aa @Z.Sr (aa @Z.ur (aa @Z.LH (aa @List.getElem?_cons_zero.{0} (aa @Z.YC (aa @Z.YE (aa @Z.YG (aa @Z.YJ (aa @List.set_cons_zero.{0} (aa @Z.WW (aa @Z.DI (aa @Z.WO (aa @Z.WR (aa @Option.join_some.{0} (aa @Option.map_some.{0, 0} (aa @Option.bind_some.{0, 0} (aa @List.length_cons.{0} (aa @List.length_nil.{0} (aa @List.map_cons.{0, 0} (aa @List.map_nil.{0, 0} (aa @List.nil_append.{0} (aa @List.cons_append.{0} (aa @List.length_map.{0, 0} (aa @Bool.not_true (aa @Bool.not_false (aa @Bool.false_eq_true (aa @decide_true (aa @decide_false (aa @Nat.zero_add (aa @List.replicate_zero.{0} @List.append_nil.{0})))))))))))))))))))))))))))))))))))))))))))))))))))))))))))))))))))))))))))))))))))))))))))))))))))))))))))))))))))))))))))))))))))))))))))))))
theorem Qb{K:W.Frag}{f:MF}(h:∀ns:List Int,ns.length<=63->f [.scr ns]=some (.sh (.bl true))):∀vs H Q E,Jr K vs H Q E->ud K f vs H Q E:=by
 rintro vs H Q E ⟨a,ns,rfl,hS,hl,q⟩;refine⟨H,[.scr ns],_,.refl _,.cons (.scr hS) .nil,h ns hl,λHf' H' v F _ _ _ _ r _ _=>?_⟩
 cases r.sh_inv.2;exact q H'
end Z
namespace Mr
open PySem PySem.Spec PyProof.Rows L2
section
variable {X:Cx}{tg:Expr}
def Jg{α:Type}(P:α->Prop):List α->Prop
 | []=>True
 |a::l=>P a/\Jg P l
theorem Jg.mem{α:Type}{P:α->Prop}:∀{l:List α},Jg P l->∀a∈l,P a
 | [],_,a,h=>by cases h
 |b::l,hp,a,h=>(ag.mp h).elim (λe=>e ▸ hp.1) (Jg.mem hp.2 a)
theorem tq.of{scope:mD}{cl:List (Str×Addr)}{x:Str}{N:List Str}{fr:List Nat}(h1:N.Nodup) (h2:N[0]?=some x) (h3:N.length=fr.length+1)
  (h4:Jg (λp=>X.env.cells.lookup p.1=some p.2) cl) (h5:Jg (λp=>(p.2 = .cell∨p.2 = .free)->∃c,cl.lookup p.1=some c) (nG scope X.env).names)
  (h6:Jg (λp=>X.N[p.1]?=some p.2/\X.env.scope.names.lookup p.2=some .cell/\(nG scope X.env).names.lookup p.2=some .cell) (fr.zip (N.drop 1))):tq X scope cl x N fr where
 names:=h1
 own:=h2
 len:=h3
 sub:=λy c e=>h4.mem (y,c) (PySem.mem_of_lookup e)
 has:=λy e=>by
  rcases e with e|e
  .exact h5.mem _ (PySem.mem_of_lookup e) (.inl rfl)
  .exact h5.mem _ (PySem.mem_of_lookup e) (.inr rfl)
 get:=λk j y e1 e2=>by
  have hm:(j,y)∈fr.zip (N.drop 1):=by
   refine mGq (i:=k) ?_;rw[eZ];exact⟨e1,by rw[cT,Nat.add_comm];exact e2⟩
  exact h6.mem _ hm
end
end Mr
namespace Mr
open PySem PySem.W PySem.Spec PyProof.Rows L2
abbrev g2(K:W.Frag):TG:=Me K 2 (Bf (tX 0) (Bf (tX 1) L9))
end Mr
namespace Xe
open PySem PySem.Spec PySem.W PyProof.Rows L2 Mr
section
variable {X:Cx}
def Yg(o:Obj) (d:Addr) (kvs:List (oS×V)):It :=
  ⟨λi H=>H d=some (.frz o (.dK kvs))/\∃p,kvs[i]?=some p,
   λi H x H'=>H'=H/\∃p,kvs[i]?=some p/\x=kV p.1,
   λi H=>H d=some (.frz o (.dK kvs))/\kvs.length<=i⟩
theorem Kt{P:kq}{w:kr}{K:Frag}{tg:Expr}(o:Obj) (d it:Addr) (kvs:List (oS×V)) (vs:List (oS×Value)) (ep:Nat) (hne:d≠it)
  (ho:∀h:Heap,h.get? d=some o->h.DictAt (qA P w) d vs ep) (kv:KV kvs vs):HP P w K tg (Yg o d kvs) [it] it (λi h=>h.IsKeyIter it d i vs.length ep) where
 mem:=by simp
 obj:=λi h st b hb=>by
  have e:b=it:=by simpa using hb
  subst e;obtain⟨o',e,c,dd⟩:=st;exact⟨o',e,λv z=>by rw[dd]at z;cases z⟩
 keep:=λi h h' st k=>by
  obtain⟨o',e,c,dd⟩:=st;exact⟨o',k it (by simp) _ e,c,dd⟩
 item:=by
  intro X hP hw hK hc i oq s σ H E I hf st hg;subst hP hw hK;obtain⟨hd,p,hp⟩:=hg;have e1:s.heap.get? d=some o:=(show qW X.prog X.w H s.heap d (.frz o (.dK kvs)) from I.hok d _ hd).1
  obtain⟨u,hx,ru⟩:=Ov kv hp;obtain⟨f0,f1,f2,f3,f4,f5⟩:=hf it (by simp)
  refine wpAny_pyNext_dict_item st (ho _ e1) hx λkey h' hkey st' sb=>?_
  have I1:L2.Inv X oq σ H { s with heap:=h' }:=I.turned (t':=s.toks) (λb o hb e=>(sb.2 b hb).trans e) f0 f1 f3 f4 f5
  have rk:qc (kV p.1) key:=by
   rcases qK hkey with ⟨j,t,e,rfl⟩|⟨z,t,e,rfl⟩
   .rw [e];exact⟨t,rfl⟩
   .rw [e];exact⟨t,rfl⟩
  obtain⟨o',e,c,dd⟩:=id st';exact⟨key,rfl,J9 (s:={ s with heap:=h' }) e c dd (by decide) ⟨_,H,I1,rk,⟨rfl,p,hp,rfl⟩,st',λb hb=>(hf b hb).1⟩⟩
 done:=by
  intro X hP hw hK hc i oq s σ H E I hf st hg;subst hP hw hK;obtain⟨hd,hl⟩:=hg;have e1:s.heap.get? d=some o:=(show qW X.prog X.w H s.heap d (.frz o (.dK kvs)) from I.hok d _ hd).1
  have l:=Paired.length kv;obtain⟨f0,f1,f2,f3,f4,f5⟩:=hf it (by simp)
  exact wpAny_pyNext_dict_end (I.ok.hd hc) st (ho _ e1) (bO (by lia)) λh' eb=>⟨rfl,I.turned (t':=s.toks) (λb o hb e=>eb b o hb e) f0 f1 f3 f4 f5⟩
 self:=λ_ _ _ _ _ st h=>wpAny_pyIter_keyiter st h
def RY(te:TE):TI:=λσ H R=>te σ H λx H1=>∃d kvs,x = .ref d/\H1 d=some (.dK kvs)/\∀o,R (Yg o d kvs) (qH H1 d (.frz o (.dK kvs)))
theorem Rt{tg o:Expr}{te:TE}(ho:PE X o te):PI X tg o (RY te):=by
 intro oq s σ H R I h;refine thn (ho oq s σ H _ I h) λv s1 hz1=>?_
 obtain⟨x,H1,I1,r1,d,kvs,ex,ha,q⟩:=hz1;subst ex;obtain rfl:=(show v=bH d from r1)
 obtain⟨hz,sa,vs,kv,dd⟩:=(show qW X.prog X.w H1 s1.heap d (.dK kvs) from I1.hok d _ ha)
 obtain⟨ep,ob,es,hob,uJ⟩:=dd.dictAt;have da:∀h:Heap,h.get? d=some ob->h.DictAt (qA X.prog X.w) d vs ep:=λh e=>⟨ob,es,e,uJ⟩
 have hlt:d<s1.heap.objs.size:=ak hob;refine wpAny_pyIter_dict sa (da _ hob) ?_;have kp:∀b u,s1.heap.get? b=some u->(s1.heap.push { cls:=.type "dict_keyiterator", data:=.fields #[.ref d,.int 0 0,.int vs.length 0,.int ep 0] }).get? b=some u:=λb u e=>ae _ e
 have I2:L2.Inv X oq σ (qH H1 d (.frz ob (.dK kvs))) { s1 with heap:=s1.heap.push { cls:=.type "dict_keyiterator", data:=.fields #[.ref d,.int 0 0,.int vs.length 0,.int ep 0] } } :=
  (I1.kept (t':=s1.toks) kp).write (x:=d) (e:=d) (o:=.frz ob (.dK kvs)) (t':=s1.toks) (by rw[ha];trivial) (.inl rfl) (λb u _ e=>e) ⟨_,kp _ _ hob⟩ ⟨kp _ _ hob,hz,sa,vs,kv,(da _ (kp _ _ hob)).dictOf⟩
 refine⟨s1.heap.objs.size,[s1.heap.objs.size],_,_,_,rfl,I2,Kt ob d _ kvs vs ep (ay hlt) da kv,?_,λb hb=>?_,q ob⟩
 .exact ⟨_,aC _ rfl,rfl,rfl⟩
 .have e:b=s1.heap.objs.size:=by simpa using hb
  subst e;exact I1.fpOk (ai _) (by rw[oQ (bM hlt)];exact I1.hok.fresh (ai _))
end
end Xe
namespace Z
open PySem L2 Mr
theorem QN(c:MT) (body:MS) (n:Nat) (S:AS):tU c body (n+1) S=(c S).bind λx=>if x.1=true then (body x.2).bind λo=>match o with
   | .nx S'=>tU c body n S'
   | .ct S'=>tU c body n S'
   | .bk S'=>some (.nx S')
   | .rt a=>some (.rt a)
  else some (.nx x.2):=rfl
end Z
namespace Z
open PySem L2 Mr Xe
def kD:oS->D
 | .inl i=>.int i
 | .inr x=>.str x
theorem P3{K:W.Frag}{H:Hp}(k:oS):rD K H (kD k) (kV k):=by
 cases k with
 |inl i=>exact .int
 |inr x=>exact .str
section
variable {K:W.Frag}{te tf:TE}{k:MK}{tb:TS}{body:MS}{x y:Nat}
theorem qh.fix{H₀ Hf₀ Hf H:Hp}{S:AS}{σ:St}{Fs:List (List Addr)}(R:qh K H₀ Hf₀ Hf S σ H Fs) {p:Addr}{o:HO}(h1:p∉Fs.flatten) (h2:Hf p=none) (h3:H₀ p=none):qh K H₀ Hf₀ (qH Hf p o) S σ (qH H p o) Fs:=by
 have s:qk Hf (qH Hf p o):=uW h2;refine⟨R.len,R.lenF,λi av e=>?_,R.emp,R.nd,R.fresh,λb u z=>?_,λb u z=>?_,λb z1 z2=>?_,R.sf.trans s⟩
 .obtain ⟨v,F,e1,e2,r⟩:=R.rep i av e;have hne:∀q∈F,q≠p:=λq hq z=>h1 (by rw[←z];exact mFq.mpr ⟨F,mGq e2,hq⟩)
  exact⟨v,F,e1,e2,r.keep s (λq hq=>oQ (hne q hq)) λq hq=>by rw[oQ (hne q hq)];exact(r.owned q hq).2⟩
 .by_cases hb:b=p
  .subst hb;rw[oW]at z ⊢;exact z
  .rw [oQ hb]at z ⊢;exact R.sub b u z
 .have hb:b≠p:=λq=>by rw[q,h3]at z;cases z
  rw[oQ hb];exact R.fr b u z
 .have hb:b≠p:=λq=>z2 (by rw[q];exact h3)
  rw[oQ hb];exact R.lim b z1 z2
end
abbrev NI:=HD Oz λi j=>.int (i / j)
def SM(K:W.Frag) (te:TE) (m:ME):Prop:=∀{H₀ Hf₀ Hf:Hp}{S:AS}{σ:St}{H:Hp}{Fs:List (List Addr)}{d:D}{S':AS},qh K H₀ Hf₀ Hf S σ H Fs->m S=some (d,S')->∀Q:VK,
 (∀Hf' H' Fs' v,qk Hf Hf'->qh K H₀ Hf₀ Hf' S' σ H' Fs'->rD K Hf' d v->Q v H')->te σ H Q
def PL:AV->Option D
 | .sh d=>some d
 |_=>none
theorem Jf{a:AV}{d:D}(h:PL a=some d):a = .sh d:=by
 unfold PL at h;split at h <;> cases h
 rfl
def FH(i:Nat) (b:ME):ME:=λS=>(rE S i).bind λ_=>(b S).bind λy=>(intOf y.1).bind λz=>(rE y.2 i).bind λavs=>wm (0<=z/\z<avs.length/\avs.length<=rG) ((avs[z.toNat]?.bind PL).map λd=>(d,y.2.set i (some (.ow (avs.eraseIdx z.toNat)))))
def A6(i:Nat):ME:=λS=>(rE S i).bind λavs=>(avs[avs.length-1]?.bind PL).map λd=>(d,S.set i (some (.ow avs.dropLast)))
def Wv(kvs:List (oS×D)) (k:oS):List (oS×D):=kvs.filter λkv=>decide (kv.1≠k)
def Yo(i:Nat) (b:ME):ME:=λS=>(vO S i).bind λ_=>(b S).bind λy=>(vp y.1).bind λkey=>(vO y.2 i).bind λkvs=>(getD kvs key).map λd=>(d,y.2.set i (some (.owd (Wv kvs key))))
section
variable {K:W.Frag}
theorem Qo:D9 K (rI Oz λi j=>.int (i / j)) NI:=Gg λ_ _ _=>.int
theorem pY.erase{Hf H:Hp}{as:List AV}{vs:List V}{Gs:List (List Addr)}(r:pY K Hf H as vs Gs) (k:Nat):pY K Hf H (as.eraseIdx k) (vs.eraseIdx k) (Gs.eraseIdx k):=by
 obtain⟨h1,h2,h3⟩:=r;refine⟨by rw[cZ,cZ,h1],by rw[cZ,cZ,h2],λi b w G e1 e2 e3=>?_⟩
 rw[List.getElem?_eraseIdx]at e1 e2 e3;split at e1
 .rename_i q;rw[pe q]at e2 e3;exact h3 i b w G e1 e2 e3
 .rename_i q;rw[pD q]at e2 e3;exact h3 (i+1) b w G e1 e2 e3
theorem Jb{Gs:List (List Addr)}{k:Nat}(h:Gs[k]?=some []):(Gs.eraseIdx k).flatten=Gs.flatten:=by
 induction Gs generalizing k with
 |nil=>cases h
 |cons g r ih =>
  cases k with
  |zero =>
   simp at h;subst h;rfl
  |succ k =>
   rw[du,fCq,fCq,ih (by simpa using h)]
theorem qh.lose{H₀ Hf₀ Hf H:Hp}{S:AS}{σ:St}{Fs:List (List Addr)}(R:qh K H₀ Hf₀ Hf S σ H Fs) {i k:Nat}{avs:List AV}{d:D}(h:S[i]?=some (some (.ow avs))) (hk:avs[k]?=some (.sh d)) :
  ∃p vs y F',σ[i]?=some (some (.ref p))/\H p=some (.lst vs)/\avs.length=vs.length/\vs[k]?=some y/\rD K Hf d y/\qh K H₀ Hf₀ Hf (S.set i (some (.ow (avs.eraseIdx k)))) σ (qH H p (.lst (vs.eraseIdx k))) (Fs.set i F'):=by
 obtain⟨p,vs,Gs,s1,s2,h1,h2,h3,h4,h5,h6⟩:=R.ow h;have lk:k<avs.length:=(gSq.mp hk).1;obtain⟨y,hy⟩:∃y,vs[k]?=some y:=⟨_,gEg (by rw[←h3.1];exact lk)⟩
 obtain⟨G,hG⟩:∃G,Gs[k]?=some G:=⟨_,gEg (by rw[←h3.2.1];exact lk)⟩
 obtain⟨hG0,ry⟩:=(h3.2.2 k _ _ _ hk hy hG).sh_inv;subst hG0;have hf:=Jb hG;refine⟨p,vs,y,p::(Gs.eraseIdx k).flatten,s1,h1,h3.1,hy,ry,R.turn s1 s2 (by simp) (pI.news oW h2 ((h3.keepUpd h4).erase k)) ?_ ?_⟩
 .rw [hf];exact aA.mpr ⟨h4,h5⟩
 .rw [hf];exact h6
theorem OJ{i:Nat}{tb:TE}{b:ME}(hb:SR K tb b):SM K (Qr K "list" Nw (xq i) (uM tb xQ)) (FH i b):=by
 intro H₀ Hf₀ Hf S σ H Fs d S' R e Q q;obtain⟨a0,e0,e⟩:=oBq.mp e;obtain⟨y,e1,e⟩:=oBq.mp e;obtain⟨z,e2,e⟩:=oBq.mp e;obtain⟨avs,e3,e⟩:=oBq.mp e;rcases pJ e with ⟨⟨z0,z1,z2⟩,e⟩|e
 .obtain ⟨d',e4,e⟩:=oMq.mp e;cases e;obtain⟨a,e4,e5⟩:=oBq.mp e4;have e5:=Jf e5;subst e5;obtain⟨p,vs,Gs,s1,_,h1,_⟩:=R.ow (qw e0);refine⟨.ref p,s1,.inl ⟨rfl,vs,tu.of h1⟩,hb R (d:=y.1) (S':=y.2) e1 _ λHf1 H1 Fs1 v t1 R1 r1=>?_⟩
  obtain⟨p',vs',w,F',s1',hp,hl,hw,rw',R2⟩:=R1.lose (qw e3) e4;rw[s1]at s1';cases s1';have hv:v = .int z:=by
   have:y.1 = .int z:=by
    revert e2
    unfold intOf;split <;> intro e2 <;> cases e2
    assumption
   rw[this]at r1;cases r1;rfl
  subst hv;have hz:(avs.length:Int)<=16777216:=by
   have:avs.length<=16777216:=z2;lia
  refine⟨p,vs',z,z.toNat,w,rfl,rfl,hp,by lia,by lia,?_,hw,q _ _ _ _ t1.sf R2 rw'⟩
  rw[←hl];unfold Zp;have n1:¬ z<0:=by lia
  have n2:(decide (0<=z) && decide (z<(avs.length:Int)))=true:=by
   rw[decide_eq_true z0,decide_eq_true z1];rfl
  simp only[n1,if_false];exact pe n2
 .cases e
theorem S9{i:Nat}:SM K (Qr K "list" Ur (xq i) xQ) (A6 i):=by
 intro H₀ Hf₀ Hf S σ H Fs d S' R e Q q;obtain⟨avs,e0,e⟩:=oBq.mp e;obtain⟨d',e4,e⟩:=oMq.mp e;cases e;obtain⟨a,e4,e5⟩:=oBq.mp e4;have e5:=Jf e5;subst e5;obtain⟨p,vs,w,F',s1,hp,hl,hw,rw',R2⟩:=R.lose (qw e0) e4;refine⟨.ref p,s1,.inl ⟨rfl,vs,tu.of hp⟩,p,vs,w,rfl,rfl,hp,by rw[←hl];exact hw,?_⟩
 rw[Ag,hl,Ag]at R2;exact q _ _ _ _ (.refl _) R2 rw'
def NL(i:Nat) (m:ME):MS:=λS=>(m S).map λx=>.nx (x.2.set i (some (.sh x.1)))
theorem Rq{i:Nat}{te:TE}{m:ME}(h:SM K te m):SS K (Fg te (tX i)) (NL i m):=by
 intro H₀ Hf₀ Hf S σ H Fs o R e D hd;obtain⟨x,e1,e⟩:=oMq.mp e;cases e;refine h R (d:=x.1) (S':=x.2) e1 _ λHf1 H1 Fs1 v t1 R1 r1=>?_
 exact hd _ _ _ _ t1 (R1.setD i r1)
def OR(i:Nat) (m:ME):MS:=λS=>(rE S i).bind λ_=>(m S).bind λx=>(rE x.2 i).bind λavs=>wm (avs.length<rG) (some (.nx (x.2.set i (some (.ow (avs++[.sh x.1]))))))
theorem Qp{i:Nat}{te:TE}{m:ME}(hk:SM K te m):SS K (Ef (Qr K "list" A3 (xq i) (uM te xQ))) (OR i m):=by
 intro H₀ Hf₀ Hf S σ H Fs o R e D h;obtain⟨a0,e0,e⟩:=oBq.mp e;obtain⟨x,e1,e⟩:=oBq.mp e;obtain⟨avs,e2,e⟩:=oBq.mp e;rcases pJ e with ⟨hl,e⟩|e
 .cases e;obtain⟨p,vs,Gs,s1,_,h1,_⟩:=R.ow (qw e0);refine⟨.ref p,s1,.inl ⟨rfl,vs,tu.of h1⟩,hk R (d:=x.1) (S':=x.2) e1 _ λHf1 H1 Fs1 v t1 R1 r1=>?_⟩
  obtain⟨p',vs',Gs',s1',s2',h1',h2',h3',h4',h5',h6'⟩:=R1.ow (qw e2);rw[s1]at s1';cases s1';refine⟨p,vs',v,rfl,rfl,h1',by rw[vy,←h3'.1];exact hl,h _ _ _ _ t1 (R1.turn s1 s2' (by simp) (F':=p::(Gs'++[[]]).flatten) (pI.news oW h2' ((h3'.keepUpd h4').snoc (.sh r1))) ?_ λq hq=>?_)⟩
  .rw [fAq,cx,aNq];exact aA.mpr ⟨h4',h5'⟩
  .rw [fAq,cx,aNq]at hq;exact h6' q hq
 .cases e
def XE(i:Nat) (b:ME) (m:ME):MS:=λS=>(m S).bind λx=>(vO x.2 i).bind λ_=>(b x.2).bind λy=>(vO y.2 i).bind λkvs=>(vp y.1).bind λkey =>
 wm (kvs.length<rG) (some (.nx (y.2.set i (some (.owd (wK kvs key x.1))))))
end
theorem UW(d:D):PL (.sh d)=some d:=rfl
theorem Ng(S:AS) (i:Nat) (b:ME):FH i b S=(rE S i).bind λ_=>(b S).bind λy=>(intOf y.1).bind λz=>(rE y.2 i).bind λavs=>wm (0<=z/\z<avs.length/\avs.length<=rG) ((avs[z.toNat]?.bind PL).map λd=>(d,y.2.set i (some (.ow (avs.eraseIdx z.toNat))))):=rfl
theorem Oa(S:AS) (i:Nat):A6 i S=(rE S i).bind λavs=>(avs[avs.length-1]?.bind PL).map λd=>(d,S.set i (some (.ow avs.dropLast))):=rfl
theorem UQ(S:AS) (i:Nat) (m:ME):NL i m S=(m S).map λx=>.nx (x.2.set i (some (.sh x.1))):=rfl
theorem UX(S:AS) (i:Nat) (m:ME):OR i m S=(rE S i).bind λ_=>(m S).bind λx=>(rE x.2 i).bind λavs=>wm (avs.length<rG) (some (.nx (x.2.set i (some (.ow (avs++[.sh x.1])))))):=rfl
def YN:=aa @UW (aa @Ng (aa @Oa (aa @UQ @UX)))
section
variable {K:W.Frag}
theorem pY.ins{Hf H:Hp}{as:List AV}{vs:List V}{Gs:List (List Addr)}{d:D}{v:V}(r:pY K Hf H as vs Gs) (rv:rD K Hf d v) (n:Nat) (hn:n<=as.length):pY K Hf H (as.take n ++ .sh d::as.drop n) (vs.take n++v::vs.drop n) (Gs.take n++[]::Gs.drop n):=by
 obtain⟨h1,h2,h3⟩:=r;have e1:(as.take n).length=n:=by rw[lTq];lia
 have e2:(vs.take n).length=n:=by rw[lTq];lia
 have e3:(Gs.take n).length=n:=by rw[lTq];lia
 refine⟨by simp[h1],by simp[h2],λi b w G g1 g2 g3=>?_⟩
 by_cases hi:i<n
 .rw [gZq (by lia),cV hi]at g1
  rw[gZq (by lia),cV hi]at g2
  rw[gZq (by lia),cV hi]at g3
  exact h3 i b w G g1 g2 g3
 .rw [gYq (by lia),e1]at g1
  rw[gYq (by lia),e2]at g2
  rw[gYq (by lia),e3]at g3
  cases hj:i-n with
  |zero =>
   rw[hj]at g1 g2 g3;simp at g1 g2 g3;subst g1;subst g2;subst g3;exact .sh rv
  |succ j =>
   rw[hj,List.getElem?_cons_succ,cT]at g1 g2 g3;exact h3 (n+j) b w G g1 g2 g3
end
section
variable {K:W.Frag}{H₀ Hf₀ Hf H:Hp}{S:AS}{σ:St}{Fs:List (List Addr)}{te tb:TE}{k:MK}{b:ME}
theorem qh.poke(R:qh K H₀ Hf₀ Hf S σ H Fs) {p:Addr}{o:HO}(pn:Hf p=none) (p0:H₀ p=none) (pf:p∉Fs.flatten):qh K H₀ Hf₀ Hf S σ (qH H p o) Fs:=by
 refine⟨R.len,R.lenF,λj a ej=>?_,R.emp,R.nd,R.fresh,λb u e=>?_,λb u e=>?_,R.lim,R.sf⟩
 .obtain ⟨w,G,f1,f2,q⟩:=R.rep j a ej;refine⟨w,G,f1,f2,q.keep (.refl _) (λc hc=>oQ λe=>pf ?_) λc hc=>(q.owned c hc).2⟩
  subst e;exact qv f2 hc
 .rw [oQ λz=>by rw[z,pn]at e;cases e]
  exact R.sub b u e
 .rw [oQ λz=>by rw[z,p0]at e;cases e]
  exact R.fr b u e
theorem zm.stays{Hf' H':Hp}{Fs':List (List Addr)}(t:zm Hf H Fs Hf' H' Fs') {p:Addr}(pn:Hf p=none) (ph:H p≠none) (pf:p∉Fs.flatten):Hf' p=none/\p∉Fs'.flatten:=by
 refine⟨?_,λm=>pf (t.own p m)⟩
 by_cases h:Hf' p=none
 .exact h
 .exact ((t.gr p pn h).elim (λe=>absurd e ph) λm=>absurd m pf)
def Ih(b:ME) (k:MK):MK:=λS=>(b S).bind λy=>(vU k y.2).bind λx=>(vp y.1).map λkey=>(.owd [(key,oK x.1)],x.2)
theorem O4(hb:SR K tb b) (hk:SK K te k):SK K (RJ [(tb,te)]) (Ih b k):=by
 intro H₀ Hf₀ Hf S σ H Fs av S' R e Q q;obtain⟨y,e1,e⟩:=oBq.mp e;obtain⟨x,e2,e⟩:=oBq.mp e;obtain⟨key,e3,e⟩:=oMq.mp e;cases e;have hk':SK K te (vU k):=SK.frz hk;intro p hp;obtain⟨t0,R0,n1,n2,n3⟩:=R.new (o:=.dK []) hp;have own0:=yN.one R hp;refine hb R0 (d:=y.1) (S':=y.2) e1 _ λHf1 H1 Fs1 w t1 R1 r1=>?_
 have p0:qH H p (HO.dK []) p=some (.dK []):=oW;have p1:H1 p=some (.dK []):=t1.sh p _ p0;obtain⟨a1,a2⟩:=t1.stays n1 (by rw[p0];simp) n3
 refine hk' R1 (a:=x.1) (S':=x.2) e2 _ λHf2 H2 Fs2 v F t2 R2 r2 o2=>?_
 have p2:H2 p=some (.dK []):=t2.sh p _ p1;obtain⟨b1,b2⟩:=t2.stays a1 (by rw[p1];simp) a2
 obtain⟨x1,hx1⟩:∃d,x.1 = .sh d:=by
  obtain⟨w,_,e⟩:=oMq.mp e2;rw[←e];exact⟨_,rfl⟩
 rw[hx1]at r2;have rv:=r2.sh_inv.2;have hw:=wk e3 r1;subst hw;refine⟨p2,[(key,v)],rfl,by simp,?_⟩
 have t12:=(t0.trans t1).trans t2;have hs:qk H (qH H2 p (HO.dK (Bx [] [(key,v)]))):=λc u e=>by
  rw[oQ λz=>by rw[z,hp]at e;cases e]
  exact t12.sh c u e
 refine q Hf2 _ Fs2 (.ref p) [p] ⟨t12.sf,hs,t12.own,t12.gr⟩ (R2.poke b1 n2 b2) (.owd oW b1 ⟨rfl,λi d u h1 h2=>?_⟩) ⟨by simp,λc h=>by rw[mSq.mp h];exact n2,λc h=>by rw[mSq.mp h];exact b2,λc h=>by rw[mSq.mp h];exact .inl hp⟩
 match i,h1,h2 with
 |0,h1,h2 =>
  cases h1;cases h2;rw[hx1,sr];exact rv
 |i+1,h1,_=>simp at h1
theorem Kd{i:Nat}:SM K (VZ K "list" Ur (xq i)) (A6 i):=S9
def Aa:List (oS×D)->Option (List Int)
 | []=>some []
 | (.inl i,_)::r=>(Aa r).map (i :: ·)
 |_=>none
theorem Hj:∀{kvs:List (oS×D)}{ns:List Int},Aa kvs=some ns->kvs.map (·.1)=ns.map aG
 | [],ns,h=>by cases h;rfl
 | (.inl i,d)::r,ns,h=>by
  obtain⟨ms,h1,h2⟩:=oMq.mp (show (Aa r).map (i :: ·)=some ns from h)
  subst h2;rw[ao,ao,Hj h1]
 | (.inr _,_)::_,_,h=>by cases h
def EV(a:ME):MK:=λS=>(a S).bind λx=>match x.1 with
 | .dict kvs=>(Aa kvs).map λns=>(.ow ((qz ns).map λn=>.sh (.int n)),x.2)
 |_=>none
theorem OQ(hb:SR K te b):SK K (JH (λxs H Q=>∃(a:Addr) (kvs:List (oS×V)) (ns:List Int),xs=[.ref a]/\H a=some (.dK kvs)/\kvs.map (·.1)=ns.map aG/\∀p,H p=none->Q (.ref p) (qH H p (.lst ((qz ns).map V.int)))) (uM te xQ)) (EV b):=by
 intro H₀ Hf₀ Hf S σ H Fs av S' R e Q q;obtain⟨x,e1,e⟩:=oBq.mp e;obtain⟨x1,x2⟩:=x;cases x1 with
 |dict kvs =>
  obtain⟨ns,e2,e⟩:=oMq.mp (show (Aa kvs).map (λns=>(AV.ow ((qz ns).map λn=>.sh (.int n)),x2))=some (av,S') from e)
  cases e;refine hb R (d:=.dict kvs) (S':=S') e1 _ λHf1 H1 Fs1 w t1 R1 r1=>?_
  obtain⟨p1,vs,rfl,h1,h2⟩:=r1.dict_inv;refine⟨p1,vs,ns,rfl,h1,by rw[←h2.1];exact Hj e2,λp hp=>?_⟩
  obtain⟨t4,R4,n1,n2,n3⟩:=R1.new (o:=.lst ((qz ns).map V.int)) hp;rw[xa]at q;exact q _ _ _ (.ref p) [p] (t1.trans t4) R4 (pI.new oW n1 (tM _)) ((yN.one R1 hp).back t1)
 |_=>cases e
end
theorem Qm(S:AS) (b:ME) (k:MK):Ih b k S=(b S).bind λy=>(vU k y.2).bind λx=>(vp y.1).map λkey=>(.owd [(key,oK x.1)],x.2):=rfl
def Sk:D->AS->Option (AV×AS)
 | .dict kvs,S=>(Aa kvs).map λns=>(.ow ((qz ns).map λn=>.sh (.int n)),S)
 |_,_=>none
theorem Qu(S:AS) (a:ME):EV a S=(a S).bind λx=>Sk x.1 x.2:=by
 unfold EV;congr 1;funext x;obtain⟨x1,x2⟩:=x;cases x1 <;> rfl
theorem Ug(kvs:List (oS×D)) (S:AS):Sk (.dict kvs) S=(Aa kvs).map λns=>(.ow ((qz ns).map λn=>.sh (.int n)),S):=rfl
theorem DS{α:Type}(f:α->Int) (g:α->D):∀l:List α,Aa (l.map λx=>(aG (f x),g x))=some (l.map f)
 | []=>rfl
 |x::l=>by
  show (Aa (l.map λx=>(aG (f x),g x))).map (f x :: ·)=_
  rw[DS f g l];rfl
def YI:=aa @Qm (aa @Qu @Ug)
def MV:D->Option V
 | .non=>some .non
 | .bl b=>some (.bl b)
 | .int i=>some (.int i)
 | .str s=>some (.str s)
 |_=>none
def BB:List D->Option (List V)
 | []=>some []
 |d::ds=>(MV d).bind λv=>(BB ds).map (v :: ·)
def UL:D->Option (List D)
 | .list ds=>some ds
 | .tup ds=>some ds
 |_=>none
def Lr(neg:Bool) (x y:D):Option D:=(MV x).bind λv=>(UL y).bind λds=>(BB ds).map λvs=>.bl (if neg then !U0 v vs else U0 v vs)
section
variable {K:W.Frag}{te:TE}
theorem Eu{H:Hp}{d:D}{v w:V}(e:MV d=some v) (r:rD K H d w):w=v/\Ad v=true:=by
 cases d <;> first|(cases e;cases r;exact⟨rfl,rfl⟩)|cases e
theorem ze{H:Hp}:∀{ds:List D}{vs ws:List V},BB ds=some vs->qq K H ds ws->ws=vs/\vs.all Ad=true
 | [],vs,ws,e,r=>by
  cases e;exact⟨r.nil_inv,rfl⟩
 |d::ds,vs,ws,e,r=>by
  obtain⟨v,e1,e⟩:=oBq.mp e;obtain⟨us,e2,rfl⟩:=oMq.mp e;obtain⟨w,ws',rfl,r1,r2⟩:=r.cons_inv;obtain⟨rfl,f1⟩:=Eu e1 r1;obtain⟨rfl,f2⟩:=ze e2 r2;exact⟨rfl,by rw[iS,f1,f2];rfl⟩
theorem Mf(neg:Bool):D9 K (Xx K neg) (Lr neg):=by
 intro x y H Q dx dy d rx ry e q;obtain⟨v,e1,e⟩:=oBq.mp e;obtain⟨ds,e2,e⟩:=oBq.mp e;obtain⟨vs,e3,e⟩:=oMq.mp e;subst e;obtain⟨rfl,f1⟩:=Eu e1 rx;cases dy with
 |list xs =>
  cases e2;obtain⟨p,us,rfl,h1,h2⟩:=ry.list_inv;obtain⟨rfl,f2⟩:=ze e3 h2;exact⟨p,us,rfl,.inl (tu.of h1),f1,f2,q _ .bl⟩
 |tup xs =>
  cases e2;obtain⟨p,us,rfl,h1,h2⟩:=ry.tup_inv;obtain⟨rfl,f2⟩:=ze e3 h2;exact⟨p,us,rfl,.inr (DP.of h1),f1,f2,q _ .bl⟩
 |_=>cases e2
end
theorem Gm(ns:List Int):BB (ns.map D.int)=some (ns.map V.int):=by
 induction ns with
 |nil=>rfl
 |cons n ns ih=>rw[ao,BB,ih];rfl
theorem L0(i:Int) (ns:List Int):U0 (.int i) (ns.map V.int)=decide (i∈ns):=by
 unfold U0
 induction ns with
 |nil=>rfl
 |cons n ns ih =>
  rw[ao,dN,ih];show (n == i || decide (i∈ns))=_
  by_cases h:i=n
  .subst h;simp
  .have h':¬ n=i:=λz=>h z.symm
   simp[h,h']
theorem Pb(neg:Bool) (i:Int) (ns:List Int):Lr neg (.int i) (.list (ns.map D.int))=some (.bl (if neg then !decide (i∈ns) else decide (i∈ns))):=by
 show (BB (ns.map D.int)).map _=_;rw[Gm,cM,L0]
section
variable {K:W.Frag}{H₀ Hf₀ Hf Hf' H H':Hp}{S S':AS}{σ σ':St}{Fs Fs':List (List Addr)}
theorem IG.same(s:qk H H'):∀{path:List Nat}{v w:V},IG H v path w->IG H' v path w
 | [],v,w,h=>h
 |j::js,v,w,⟨p,vs,u,h1,h2,h3,h4⟩=>⟨p,vs,u,h1,s _ _ h2,h3,IG.same s h4⟩
theorem IG.one:∀{path:List Nat}{v w w':V},IG H v path w->IG H v path w'->w=w'
 | [],v,w,w',h,h'=>h.symm.trans h'
 |j::js,v,w,w',hz,hy=>by
  obtain⟨p,vs,u,h1,h2,h3,h4⟩:=hz;obtain⟨p',vs',u',g1,g2,g3,g4⟩:=hy;rw[h1]at g1;cases g1;rw[h2]at g2;cases g2;rw[h3]at g3;cases g3;exact h4.one g4
theorem IG.snoc:∀{path:List Nat}{v:V}{p:Addr}{vs:List V}{n:Nat}{u:V},IG H v path (.ref p)->H p=some (.lst vs)->vs[n]?=some u->IG H v (path++[n]) u
 | [],v,p,vs,n,u,h,h1,h2=>⟨p,vs,u,h,h1,h2,rfl⟩
 |j::js,v,p,vs,n,u,⟨p',vs',u',g1,g2,g3,g4⟩,h1,h2=>⟨p',vs',u',g1,g2,g3,g4.snoc h1 h2⟩
def Wm(H₀ H:Hp) (F:List Addr):Hp:=λb=>if b∈F then H b else H₀ b
theorem CM{F:List Addr}{b:Addr}(h:b∈F):Wm H₀ H F b=H b:=pe h
theorem yv{F:List Addr}{b:Addr}(h:b∉F):Wm H₀ H F b=H₀ b:=pD h
theorem qh.frame(R:qh K H₀ Hf₀ Hf S σ H Fs) {i:Nat}{F:List Addr}(s2:Fs[i]?=some F):qh K (Wm H₀ H F) Hf₀ Hf (S.set i none) σ H (Fs.set i []):=by
 have R1:=R.kill i;have hF:∀q∈F,q∈Fs.flatten:=λq hq=>qv s2 hq
 refine⟨R1.len,R1.lenF,R1.rep,R1.emp,R1.nd,λp hp=>?_,R1.sub,λb u e=>?_,λb h1 h2=>?_,R1.sf⟩
 .have hn:p∉F:=λz=>uX R.nd s2 z hp
  rw[yv hn];exact R1.fresh p hp
 .by_cases hb:b∈F
  .rw [CM hb]at e;exact e
  .rw [yv hb]at e;exact R.fr b u e
 .by_cases hb:b∈F
  .exact (R.mem (hF b hb)).2
  .rw [yv hb]at h2;exact R.lim b h1 h2
theorem Dc{α:Type}{l:List α}{i:Nat}{a:α}(h:l[i]?=some a):l.set i a=l:=by
 obtain⟨hk,ev⟩:=gSq.mp h;rw[←ev];exact fZ hk
theorem qh.unframe(R:qh K H₀ Hf₀ Hf S σ H Fs) {i:Nat}{av:AV}{v:V}{F:List Addr}(s2:Fs[i]?=some F) (r:pI K Hf H av v F) (nd:F.Nodup) (h0:∀q∈F,H₀ q=none)
  (R':qh K (Wm H₀ H F) Hf₀ Hf' S' σ' H' Fs') (e':S'[i]?=some none) (s1:σ'[i]?=some (some v)) (sf:qk Hf Hf') :
  (∀q∈F,H' q=H q)/\pI K Hf' H' av v F/\qh K H₀ Hf₀ Hf' (S'.set i (some av)) σ' H' (Fs'.set i F):=by
 have hk:∀q∈F,H' q=H q:=λq hq=>by
  have hn:=(R.mem (qv s2 hq)).1;cases hu:H q with
  |none=>exact absurd hu hn
  |some u=>exact R'.fr q u (by rw[CM hq];exact hu)
 have hf:∀q∈F,Hf' q=none:=λq hq=>by
  have hm:=R.mem (qv s2 hq);refine R'.lim q ?_ (by rw[CM hq];exact hm.1)
  cases hz:Hf₀ q with
  |none=>rfl
  |some u=>rw[R.sf q u hz]at hm;exact absurd hm.2 (by simp)
 have r':=r.keep sf hk hf;refine⟨hk,r',?_⟩;have R1:qh K H₀ Hf₀ Hf' (S'.set i none) σ' H' (Fs'.set i []):=by
  rw[Dc e',Dc (R'.emp i e')];refine⟨R'.len,R'.lenF,R'.rep,R'.emp,R'.nd,λp hp=>?_,R'.sub,λb u e=>?_,λb h1 h2=>?_,R'.sf⟩
  .have:=R'.fresh p hp
   by_cases hb:p∈F
   .exact h0 p hb
   .rwa [yv hb]at this
  .refine R'.fr b u ?_;rw[yv λz=>by rw[h0 b z]at e;cases e]
   exact e
  .refine R'.lim b h1 ?_;rw[yv λz=>h2 (h0 b z)]
   exact h2
 refine R1.again (F:=F) s1 r' nd λq hq=>⟨h0 q hq,λm=>?_⟩
 rw[Dc (R'.emp i e')]at m;have:=R'.fresh q m;rw[CM hq]at this;exact(R.mem (qv s2 hq)).1 this
end
abbrev MP:=AS->Option (List Nat×AS)
def P9(i:Nat):MP:=λS=>(rE S i).map λ_=>([],S)
def WT(i:Nat) (pf:MP) (b:ME):MP:=λS=>(pf S).bind λx=>(b x.2).bind λy=>(intOf y.1).bind λj=>(rE y.2 i).bind λavs=>(qS (.ow avs) x.1).bind λas=>(Eb as.length j).map λn=>(x.1++[n],y.2)
def WV(K:W.Frag) (i:Nat) (te:TE) (pf:MP):Prop:=∀{H₀ Hf₀ Hf:Hp}{S:AS}{σ:St}{H:Hp}{Fs:List (List Addr)}{path:List Nat}{S':AS},qh K H₀ Hf₀ Hf S σ H Fs->pf S=some (path,S')->∀Q:VK,
 (∀Hf' H' Fs' v w,zm Hf H Fs Hf' H' Fs'->qh K H₀ Hf₀ Hf' S' σ H' Fs'->σ[i]?=some (some v)->IG H' v path w->Q w H')->te σ H Q
section
variable {K:W.Frag}
theorem Ju(i:Nat):WV K i (xq i) (P9 i):=by
 intro H₀ Hf₀ Hf S σ H Fs path S' R e Q q;obtain⟨avs,e1,e⟩:=oMq.mp e;cases e;obtain⟨p,vs,Gs,s1,_⟩:=R.ow (qw e1);exact⟨_,s1,q _ _ _ _ _ .refl R s1 rfl⟩
theorem Kb{H₀ Hf₀ Hf H:Hp}{S:AS}{σ:St}{Fs:List (List Addr)}{i:Nat}{avs as:List AV}{path:List Nat}{v w:V}(R:qh K H₀ Hf₀ Hf S σ H Fs) (e:S[i]?=some (some (.ow avs))) (s1:σ[i]?=some (some v)) (en:qS (.ow avs) path=some as) (h:IG H v path w) :
  ∃p vs,w = .ref p/\H p=some (.lst vs)/\vs.length=as.length:=by
 obtain⟨v',F,t1,t2,r,nd,_⟩:=R.move e;rw[s1]at t1;cases t1;obtain⟨p,vs,Gs,g1,g2,g3,g4,_⟩:=r.path nd en;exact⟨p,vs,h.one g1,g2,g4.1.symm⟩
theorem Nk{i:Nat}{te tb:TE}{pf:MP}{b:ME}(hp:WV K i te pf) (hb:SR K tb b):WV K i (PD (N7 K) te tb) (WT i pf b):=by
 intro H₀ Hf₀ Hf S σ H Fs path S' R e Q q;obtain⟨x,e1,e⟩:=oBq.mp e;obtain⟨y,e2,e⟩:=oBq.mp e;obtain⟨j,e3,e⟩:=oBq.mp e;obtain⟨avs,e4,e⟩:=oBq.mp e;obtain⟨as,e5,e⟩:=oBq.mp e;obtain⟨n,e6,e⟩:=oMq.mp e;cases e;refine hp R (path:=x.1) (S':=x.2) e1 _ λHf1 H1 Fs1 v w t1 R1 s1 a1=>hb R1 (d:=y.1) (S':=y.2) e2 _ λHf2 H2 Fs2 u t2 R2 r2=>?_
 have hy:y.1 = .int j:=by
  cases hx:y.1 <;> rw[hx]at e3 <;> first|(cases e3;rfl)|cases e3
 rw[hy]at r2;cases r2;have a2:=a1.same t2.sh;obtain⟨p,vs,rfl,h1,h2⟩:=Kb R2 (qw e4) s1 e5 a2;have hix:=e6;obtain⟨_,hn,_⟩:=Fq e6;have hn':n<vs.length:=by rw[h2];exact hn
 obtain⟨u,hv⟩:∃u,vs[n]?=some u:=⟨_,gEg hn'⟩;refine⟨p,vs,j,u,rfl,rfl,tu.of h1,?_,q _ _ _ v _ (t1.trans t2) R2 s1 (a2.snoc h1 hv)⟩;unfold atI;rw[h2,e6];exact hv
end
section
variable {K:W.Frag}
def X2(i:Nat) (pf:MP) (k:MK):MS:=λS=>(pf S).bind λx=>(rE x.2 i).bind λa0=>(qS (.ow a0) x.1).bind λ_=>(k x.2).bind λy=>(rE y.2 i).bind λavs=>(qS (.ow avs) x.1).bind λas=>wm (as.length<rG) (some (.nx (y.2.set i (some (putAt (.ow avs) x.1 (as++[y.1]))))))
def Yd(i:Nat) (pf:MP) (l:ML):MS:=λS=>(pf S).bind λx=>(rE x.2 i).bind λa0=>(qS (.ow a0) x.1).bind λ_=>(l x.2).bind λy=>(rE y.2 i).bind λavs=>(qS (.ow avs) x.1).bind λas=>wm (as.length+y.1.length<=rG) (some (.nx (y.2.set i (some (putAt (.ow avs) x.1 (as++y.1.map .sh))))))
def YQ(x i:Nat) (pf:MP) (m:List Nat->MS):MS:=λS=>(pf S).bind λy=>(rE y.2 i).bind λavs=>(qS (.ow avs) y.1).bind λ_=>wm (x≠i/\x<y.2.length) (m y.1 (y.2.set x none))
def YU(i:Nat) (c:MT) (a b:List Nat->MS):List Nat->MS:=λpath S=>(c S).bind λy=>(rE y.2 i).bind λavs=>(qS (.ow avs) path).bind λ_=>if y.1=true then a path y.2 else b path y.2
def X8(i:Nat) (k:MK):List Nat->MS:=λpath S=>(k S).bind λy=>(rE y.2 i).bind λavs=>(qS (.ow avs) path).bind λas=>wm (as.length<rG) (some (.nx (y.2.set i (some (putAt (.ow avs) path (as++[y.1]))))))
def XW(i:Nat) (l:ML):List Nat->MS:=λpath S=>(l S).bind λy=>(rE y.2 i).bind λavs=>(qS (.ow avs) path).bind λas=>wm (as.length+y.1.length<=rG) (some (.nx (y.2.set i (some (putAt (.ow avs) path (as++y.1.map .sh))))))
def XI(i:Nat) (mm:ME):List Nat->MS:=λpath S=>(rE S i).bind λavs=>(qS (.ow avs) path).bind λas=>(mm (S.set i none)).bind λy=>wm (y.2[i]?=some none/\as.length<rG) (some (.nx (y.2.set i (some (putAt (.ow avs) path (as++[.sh y.1]))))))
def YT(i:Nat) (a:MS) (m:List Nat->MS):List Nat->MS:=λpath S=>(rE S i).bind λavs=>(a (S.set i none)).bind λo=>match o with
 | .nx S1=>wm (S1[i]?=some none) (m path (S1.set i (some (.ow avs))))
 |_=>none
end
theorem VU(S:AS) (i:Nat):P9 i S=(rE S i).map λ_=>([],S):=rfl
theorem Xs(S:AS) (i:Nat) (pf:MP) (b:ME):WT i pf b S=(pf S).bind λx=>(b x.2).bind λy=>(intOf y.1).bind λj=>(rE y.2 i).bind λavs=>(qS (.ow avs) x.1).bind λas=>(Eb as.length j).map λn=>(x.1++[n],y.2):=rfl
def Yw(i:Nat) (avs:List AV) (m:List Nat->MS) (path:List Nat):LY->Option LY
 | .nx S1=>wm (S1[i]?=some none) (m path (S1.set i (some (.ow avs))))
 |_=>none
theorem Ja(avs:List AV):qS (.ow avs) []=some avs:=rfl
theorem Gw(avs:List AV) (j:Nat) (js:List Nat):qS (.ow avs) (j::js)=(avs[j]?).bind λa=>qS a js:=rfl
theorem Iq{avs:List AV}{j:Nat}{js:List Nat}{as:List AV}{a:AV}(h:avs[j]?=some a):putAt (.ow avs) (j::js) as = .ow (avs.set j (putAt a js as)):=by
 show (match avs[j]? with|some a=>_|none=>_)=_
 rw[h]
def YR:=aa @VU (aa @Xs @Ja)
section
variable {K:W.Frag}
theorem rD.fd_inv{H:Hp}{ds:List (oS×D)}{v:V}(h:rD K H (.fd ds) v):∃p o kvs,v = .ref p/\H p=some (.frz o (.dK kvs))/\tY K H ds kvs:=by
 cases h with
 |fd h l e=>exact⟨_,_,_,rfl,h,l,e⟩
def QR:D->Option (List (oS×D))
 | .fd kvs=>some kvs
 |_=>none
theorem QV{d:D}{kvs:List (oS×D)}(h:QR d=some kvs):d = .fd kvs:=by
 cases d <;> first|(cases h;rfl)|cases h
def BJ(a b:ME):ME:=λS=>(a S).bind λx=>(b x.2).bind λy=>(QR x.1).bind λkvs=>(vp y.1).bind λkey=>(getD kvs key).map λd=>(d,y.2)
theorem FZ{ta tb:TE}{a b:ME}(ha:SR K ta a) (hb:SR K tb b):SR K (Po ta tb) (BJ a b):=by
 intro H₀ Hf₀ Hf S σ H Fs d S' R e Q q;obtain⟨x,e1,e⟩:=oBq.mp e;obtain⟨y,e2,e⟩:=oBq.mp e;obtain⟨kvs,e3,e⟩:=oBq.mp e;obtain⟨key,e4,e⟩:=oBq.mp e;obtain⟨d',e5,e⟩:=oMq.mp e;cases e;refine ha R (d:=x.1) (S':=x.2) e1 _ λHf1 H1 Fs1 v1 t1 R1 r1=>hb R1 (d:=y.1) (S':=y.2) e2 _ λHf2 H2 Fs2 v2 t2 R2 r2=>?_
 rw[QV e3]at r1;obtain⟨p,o,vs,rfl,h1,h2⟩:=(r1.mono t2.sh).fd_inv;have g:=Bb (key:=key) h2;rw[e5]at g;obtain⟨v,g1,g2⟩:=g;exact⟨p,v,rfl,by rw[wk e4 r2,←g1];exact .inl ⟨vs,key,.inr ⟨o,h1⟩,rfl,rfl⟩,q _ _ _ _ (t1.trans t2) R2 g2⟩
def X1(x i:Nat) (body:MS):MS:=λS=>(vO S i).bind λkvs=>wm (x≠i) (su x body (kvs.map λp=>kD p.1) (S.set i (some (.sh (.fd kvs)))))
end
theorem EY(kvs:List (oS×D)):QR (.fd kvs)=some kvs:=rfl
theorem ES(S:AS) (a b:ME):BJ a b S=(a S).bind λx=>(b x.2).bind λy=>(QR x.1).bind λkvs=>(vp y.1).bind λkey=>(getD kvs key).map λd=>(d,y.2):=rfl
def YF:=aa @EY @ES
def U1:=aa zq (aa YN (aa YI (aa YR (YF))))
end Z
local macro_rules | `(tactic| simp_arith [$ls,*]) => `(tactic| simp -implicitDefEqProofs only [Z.U1,fb,fc,dZ,ee,df,↓reduceIte,reduceCtorEq,$ls,*])
namespace Z
open PySem L2 Mr Xe
def AG:List D->Option (List (List Int))
 | []=>some []
 | .tup es::ds=>(rJ es).bind λr=>(AG ds).map (r :: ·)
 |_=>none
theorem Ae:∀{ds:List D}{c:List (List Int)},AG ds=some c->ds=c.map λr=>.tup (r.map .int)
 | [],c,h=>by cases h;rfl
 |d::ds,c,h=>by
  cases d with
  |tup es =>
   obtain⟨r,h1,h⟩:=oBq.mp h;obtain⟨c',h2,rfl⟩:=oMq.mp h;rw[Ae h2,uF h1];rfl
  |_=>cases h
theorem B2:∀c:List (List Int),AG (c.map λr=>.tup (r.map .int))=some c
 | []=>rfl
 |r::c=>by
  show (rJ (r.map .int)).bind _=_;rw[ur,eU,B2 c];rfl
section
variable {K:W.Frag}{H₀ Hf₀ Hf H:Hp}{S:AS}{σ:St}{Fs:List (List Addr)}
theorem qh.insP{i:Nat}{avs as:List AV}{path:List Nat}{v:V}{p:Addr}(R:qh K H₀ Hf₀ Hf S σ H Fs) (e:S[i]?=some (some (.ow avs))) (s1:σ[i]?=some (some v)) (en:qS (.ow avs) path=some as) (h:IG H v path (.ref p)) :
  ∃vs,H p=some (.lst vs)/\as.length=vs.length/\rD K H (oK (.ow as)) (.ref p)/\∀(d:D) (w:V) (n:Nat),n<=as.length->rD K Hf d w ->
   ∃Fs',qh K H₀ Hf₀ Hf (S.set i (some (putAt (.ow avs) path (as.take n ++ .sh d::as.drop n)))) σ (qH H p (.lst (vs.take n++w::vs.drop n))) Fs':=by
 obtain⟨v',F,t1,t2,r,nd,oo,_⟩:=R.move e;rw[s1]at t1;cases t1;obtain⟨p',vs,Es,g1,g2,g3,g4,g5,g6,g6',g7,g8⟩:=r.path nd en;have hpp:V.ref p=V.ref p':=h.one g1;cases hpp;refine⟨vs,g2,g4.1,(pI.news g2 g3 g4).rep R.sub,λd w n hn rd=>?_⟩
 have hfl:(Es.take n++[]::Es.drop n).flatten=Es.flatten:=by
  rw[fAq,fCq,eF,←fAq,aM]
 obtain⟨F',k1,k2,k3⟩:=g8 (as.take n ++ .sh d::as.drop n) (vs.take n++w::vs.drop n) (Es.take n++[]::Es.drop n) ((g4.ins rd n hn).keepUpd (by rw[hfl];exact g6)) (by
  rw[hfl];exact aA.mpr ⟨g6,g6'⟩) (λq hq=>by
  rw[hfl]at hq;exact .inl hq)
 refine⟨_,R.turnAny s1 t2 g5 k1 k2 λq hq=>?_⟩
 rcases k3 q hq with z|z
 .exact oo q z
 .rw [hfl]at z;exact oo q (g7 q z)
end
end Z
namespace Mo
open PySem PyProof.Rows Mr
theorem Le:Ze table "zip.__getattribute__" = some Builtin.«object.__getattribute__»:=Y4 (id' := "object.__getattribute__") (by kernel_rfl) (by decide +kernel) (by decide +kernel) (by kernel_rfl)
theorem Ml:nq (.type "zip") "__getattr__" = pure none:=by rw[mI,kZ];kernel_rfl
theorem HW:nq (.type "zip") "keys" = pure none:=by rw[mI,kZ];kernel_rfl
section
variable {prog:kq}{w:kr}{A:Around}{E:Value->Shared->Prop}{s:Shared}
theorem FU(z:Addr) (fs:Array Value) (u:Tok):Meets (Builtin.«object.__getattribute__» ⟨[.ref z,.str "keys" u],[]⟩) (λA R s=>s.heap.get? z=some { cls:=.type "zip", dict:=none,data:=.fields fs,slots:=#[] }/\raisesAttr (.ref z) "keys" A R s) :=
 Meets.of_wp λprog w A R s hs=>by
  obtain⟨hp,g,d,tk,os⟩:=s;obtain⟨hx,hs⟩:=hs;have hT:(⟨hp,g,d,tk,os⟩:Shared).TypeIs (.ref z) "zip" := ⟨_,hx,rfl⟩;have hm:=HW;have hname:(["__module__", "__name__", "__qualname__", "__doc__", "__annotations__"]:List Str).contains "keys" = false:=by decide +kernel
  unfold Builtin.«object.__getattribute__»
  repeat (any_goals (first|assumption|wp_step))
  exact wpAny_raiseAttrError hs.1 hs.2 (attrMsg_fits (by decide +kernel) (by size_fits))
end
section
variable {prog:kq}{w:kr}{A:Around}{E:Value->Shared->Prop}{s:Shared}
theorem Rr{z:Addr}{fs:Array Value}{u:Tok}{Q:Value->Shared->Prop}(hx:s.heap.get? z=some { cls:=.type "zip", dict:=none,data:=.fields fs,slots:=#[] }) (hA:A.handled=none)
  (h:∀h' tk e,jN s.heap h' e "AttributeError" -> E (.ref e) { s with heap:=h',toks:=tk }):kf (ki prog w) A (Zq (.ref z) (.str "keys" u) false) Q E s:=by
 obtain⟨hp,g,d,tk,os⟩:=s;have hT:∀tk',(⟨hp,g,d,tk',os⟩:Shared).TypeIs (.ref z) "zip" := λ_=>⟨_,hx,rfl⟩
 have f1:=mJ;have f3:=F.slot_zip_getattribute.lookup;have f4:=F.slot_zip_getattribute.bind (.ref z);have f5:=Ml;unfold Zq
 repeat (any_goals (first|assumption|exact hT _|((with_reducible show kf _ _ (call (jO "zip.__getattribute__") _ _) _ _ _);refine lS F.slot_zip_getattribute (hT _) Le (F.args_zip_getattribute_2 _ _) (FU z fs _) ⟨hx,hA,λh' tk' e hx'=>?_⟩)|wp_step))
 obtain⟨t',u',he⟩:=hx'.there;show kf _ _ (mK _ _ _ _ _ _ _) _ _ _;unfold mK
 repeat (any_goals (first|assumption|wp_step))
 exact h _ _ _ hx'.of
theorem Q4{z:Addr}{fs:Array Value}{Q:Option Value->Shared->Prop}(hx:s.heap.get? z=some { cls:=.type "zip", dict:=none,data:=.fields fs,slots:=#[] }) (hA:A.handled=none)
  (h:∀h' tk,(∀b o,s.heap.get? b=some o->h'.get? b=some o)->Q none { s with heap:=h',toks:=tk }):kf (ki prog w) A (getAttr? (.ref z) "keys") Q E s:=by
 unfold getAttr? getAttrBy?;obtain⟨hp,g,d,tk,os⟩:=s;have f1:=mJ
 repeat (any_goals (first|assumption|(with_reducible refine Rr (fs:=fs) ?_ ?_ ?_)|wp_step))
 intro h' tk' e q;obtain⟨o,k,he,hc,_⟩:=q.there;refine jY (lD (T := "AttributeError") (b:=true) ⟨_,he,hc⟩ f1 ?_);exact jZ (h h' tk' q.keeps)
end
abbrev UC(h:Heap) (z TI TO T:Addr) (b:Bool):Prop:=h.get? z=some { cls:=.type "zip", dict:=none,data:=.fields #[kC T,.bool b,.bool false,.ref TI,.ref TO],slots:=#[] }
section
variable {prog:kq}{w:kr}{A:Around}{E:Value->Shared->Prop}{s:Shared}
theorem G0{a:Addr}{o:Obj}{Q:Option Obj->Shared->Prop}(ho:s.heap.get? a=some o) (h:Q (some o) s):kf (ki prog w) A (loadIfAlive a) Q E s:=λΓ p hΓ=>by
 unfold loadIfAlive;rw[Sem.wp_loadIfAlive,ho];exact h
theorem FV{z TI TO T:Addr}{b:Bool}{o:Obj}{Q:Bool->Shared->Prop}(hz:UC s.heap z TI TO T b) (ho:s.heap.get? T=some o)
  (h:∀h',UC h' z TI TO T true->bL z s.heap h'->Q false { s with heap:=h' }):kf (ki prog w) A (Builtin.SmallTypes.ownedTupleIsFree (.ref z)) Q E s:=by
 unfold Builtin.SmallTypes.ownedTupleIsFree;refine jY (mP hz rfl (x:=kC T) rfl ?_);refine jY (G0 (a:=T) ho ?_);refine jY (mP hz rfl (x:=.bool b) rfl ?_);cases b with
 |true=>exact jY (jZ (jZ (h s.heap hz ⟨rfl,λ_ _=>rfl⟩)))
 |false =>
  refine jY ?_;exact kR hz (by simp) λh1 hz1 hs1=>jZ (h h1 hz1 hs1)
theorem Vq{z TI TO i1 i2 l1 l2 T:Addr}{b:Bool}{o:Obj}{k:Nat}{xs ys:Array Value}{x y:Value}{Q:Value->Shared->Prop}(D:nF z TI TO i1 i2 l1 l2) (hz:UC s.heap z TI TO T b) (ho:s.heap.get? T=some o)
  (hTI:nX s.heap TI (.ref i1) (.ref i2)) (h1:s.heap.IsListIter i1 l1 k) (h2:s.heap.IsListIter i2 l2 k) (hl1:s.heap.IsList l1 xs) (hl2:s.heap.IsList l2 ys) (hx:xs[k]?=some x) (hy:ys[k]?=some y)
  (hQ:∀h',UC h' z TI TO T true->h'.IsListIter i1 l1 (k+1)->h'.IsListIter i2 l2 (k+1)->nX h' s.heap.objs.size x y->h'.objs.size=s.heap.objs.size+1->(∀c o,c≠z->c≠i1->c≠i2->s.heap.get? c=some o->h'.get? c=some o)->Q (.ref s.heap.objs.size) { s with heap:=h' }) :
  kf (ki prog w) A (Builtin.«zip.__next__» ⟨[.ref z],[]⟩) (λfin s'=>∃v,fin = .done (.ret v)/\Q v s') E s:=by
 show kf _ _ (field (.ref z) 2 >>= _) _ _ _;refine jY (mP hz rfl (x:=.bool false) rfl ?_);show kf _ _ (field (.ref z) 3 >>= _) _ _ _;refine jY (mP hz rfl (x:=.ref TI) rfl ?_);refine jY (mj hTI rfl ?_);show kf _ _ (Builtin.SmallTypes.ownedTupleIsFree (.ref z) >>= _) _ _ _;refine jY (FV hz ho λg1 hz1 s1=>?_)
 simp only[cU,if_false];refine jY ?_;rw[jc];simp only[jy,jH];refine jY (jY (kA ?_));show kf _ _ (Builtin.SmallTypes.nextOf (.ref i1) >>= _) _ _ _;refine jY (oj (h1.extBut s1.extBut D.i1z) (hl1.extBut s1.extBut D.l1z) hx λg2 q2 s2=>jZ ?_)
 refine jZ ?_;refine jY (jY (kA ?_));show kf _ _ (Builtin.SmallTypes.nextOf (.ref i2) >>= _) _ _ _;refine jY (oj ((h2.extBut s1.extBut D.i2z).extBut s2.extBut D.i12.symm) ((hl2.extBut s1.extBut D.l2z).extBut s2.extBut D.l2i1) hy λg3 q3 s3=>jZ ?_)
 refine jZ (jZ ?_);refine jY (Y1 ?_ (by show 2<=ko;rw[kN];decide))
 have hsz:g3.objs.size=s.heap.objs.size:=by rw[s3.1,s2.1,s1.1]
 have hz3:UC g3 z TI TO T true:=s3.extBut _ _ D.i2z.symm (s2.extBut _ _ D.i1z.symm hz1);have h13:g3.IsListIter i1 l1 (k+1):=q2.extBut s3.extBut D.i12;have kp:∀c o,c≠z->c≠i1->c≠i2->s.heap.get? c=some o->g3.get? c=some o:=λc o c1 c2 c3 e=>s3.extBut _ _ c3 (s2.extBut _ _ c2 (s1.extBut _ _ c1 e))
 refine jZ ⟨_,rfl,?_⟩;show Q (.ref g3.objs.size) _;rw[hsz];exact hQ _ (ae _ hz3) (h13.at λo e=>ae _ e) (q3.at λo e=>ae _ e) (by rw[←hsz];exact aC _ rfl) (by rw[fJ,hsz]) λc o c1 c2 c3 e=>ae _ (kp c o c1 c2 c3 e)
end
section
variable {prog:kq}{w:kr}{A:Around}{E:Value->Shared->Prop}{s:Shared}
theorem V4{z TI TO i1 i2 l1 l2 T:Addr}{b:Bool}{o:Obj}{k:Nat}{xs:Array Value}{Q:Fin->Shared->Prop}(hh:A.handled=none) (D:nF z TI TO i1 i2 l1 l2) (hz:UC s.heap z TI TO T b) (ho:s.heap.get? T=some o)
  (hTI:nX s.heap TI (.ref i1) (.ref i2)) (h1:s.heap.IsListIter i1 l1 k) (hl1:s.heap.IsList l1 xs) (hx:xs[k]?=none)
  (hE:∀h' e,(∀c o,c≠z->c≠i1->s.heap.get? c=some o->h'.get? c=some o)->(∃o,h'.get? e=some o/\o.cls = .type "StopIteration")->E (.ref e) { s with heap:=h' }) :
  kf (ki prog w) A (Builtin.«zip.__next__» ⟨[.ref z],[]⟩) Q E s:=by
 show kf _ _ (field (.ref z) 2 >>= _) _ _ _;refine jY (mP hz rfl (x:=.bool false) rfl ?_);show kf _ _ (field (.ref z) 3 >>= _) _ _ _;refine jY (mP hz rfl (x:=.ref TI) rfl ?_);refine jY (mj hTI rfl ?_);show kf _ _ (Builtin.SmallTypes.ownedTupleIsFree (.ref z) >>= _) _ _ _;refine jY (FV hz ho λg1 hz1 s1=>?_)
 simp only[cU,if_false];refine jY ?_;rw[jc];simp only[jy,jH];refine jY (jY (kA ?_));show kf _ _ (Builtin.SmallTypes.nextOf (.ref i1) >>= _) _ _ _;refine jY (wpAny_nextOf_list_end hh (h1.extBut s1.extBut D.i1z) (hl1.extBut s1.extBut D.l1z) hx λg2 e s2 he=>?_)
 exact hE g2 e (λc o c1 c2 q=>s2 _ _ c2 (s1.extBut _ _ c1 q)) he
structure QY (h:Heap) (z TI TO i1 i2 l1 l2 d:Addr) (k:Nat) (xs ys:Array Value):Prop where
 f:IsZip h z TI TO .none∨∃T b o,UC h z TI TO T b/\h.get? T=some o/\T≠z/\T≠TO/\T≠i1/\T≠i2/\T≠d
 ti:nX h TI (.ref i1) (.ref i2)
 to:∃a b,nX h TO a b
 h1:h.IsListIter i1 l1 k
 h2:h.IsListIter i2 l2 k
 l1:h.IsList l1 xs
 l2:h.IsList l2 ys
theorem QY.ty{z TI TO i1 i2 l1 l2 d:Addr}{k:Nat}{xs ys:Array Value}(S:QY s.heap z TI TO i1 i2 l1 l2 d k xs ys):s.TypeIs (.ref z) "zip" := by
 rcases S.f with h|⟨_,_,_,h,_⟩
 .exact ⟨_,h,rfl⟩
 .exact ⟨_,h,rfl⟩
theorem U2{z TI TO i1 i2 l1 l2 d:Addr}{k:Nat}{xs ys:Array Value}{x y:Value}{Q:Option Value->Shared->Prop}(D:nF z TI TO i1 i2 l1 l2) (hd:d<s.heap.objs.size) (S:QY s.heap z TI TO i1 i2 l1 l2 d k xs ys) (hx:xs[k]?=some x) (hy:ys[k]?=some y)
  (hQ:∀h' T,QY h' z TI TO i1 i2 l1 l2 d (k+1) xs ys->nX h' T x y->(∀c o,c≠z->c≠TO->c≠i1->c≠i2->s.heap.get? c=some o->h'.get? c=some o)->Q (some (.ref T)) { s with heap:=h' }) :
  kf (ki prog w) A (kT (.ref z)) Q E s:=by
 obtain⟨a,b,hTO⟩:=S.to;have l1ne:l1≠z/\l1≠TO/\l1≠i1/\l1≠i2:=⟨D.l1z,D.l1TO,D.l1i1,D.l1i2⟩;have zl:z<s.heap.objs.size:=by
  rcases S.f with h|⟨_,_,_,h,_⟩
  .exact ak h
  .exact ak h
 have i1l:i1<s.heap.objs.size:=by obtain⟨_,q,_⟩:=S.h1;exact ak q
 have i2l:i2<s.heap.objs.size:=by obtain⟨_,q,_⟩:=S.h2;exact ak q
 have TOl:TO<s.heap.objs.size:=ak hTO;rcases S.f with hz|⟨T,f1,o,hz,ho,n1,n2,n3,n4,n5⟩
 .refine wpAny_pyNext_zip_item D hz S.ti hTO S.h1 S.h2 S.l1 S.l2 hx hy λh' a1 a2 a3 a4 a5 a6 a7=>hQ h' _ ⟨.inr ⟨_,_,_,a1,a5,bM zl,bM TOl,bM i1l,bM i2l,bM hd⟩,a7 _ _ D.TIz D.TITO D.TIi1 D.TIi2 S.ti,⟨_,_,a2⟩,a3,a4,S.l1.at λo q=>a7 _ _ D.l1z D.l1TO D.l1i1 D.l1i2 q,S.l2.at λo q=>a7 _ _ D.l2z D.l2TO D.l2i1 D.l2i2 q⟩ a5 a7
 .have hT:=S.ty;unfold kT;refine jY (lH (kK (name:=Str.ofString "__next__") hT F.slot_zip_next (kF F.slot_zip_next hT F.entry_zip_next (Vq D hz ho S.ti S.h1 S.h2 S.l1 S.l2 hx hy λh' a1 a3 a4 a5 a6 a7=>jZ (hQ h' _ ?_ a5 λc o c1 _ c3 c4 q=>a7 c o c1 c3 c4 q)) (F.args_zip_next_1 _))))
  exact⟨.inr ⟨T,true,o,a1,a7 _ _ n1 n3 n4 ho,n1,n2,n3,n4,n5⟩,a7 _ _ D.TIz D.TIi1 D.TIi2 S.ti,⟨a,b,a7 _ _ D.TOz D.TOi1 D.TOi2 hTO⟩,a3,a4,S.l1.at λo q=>a7 _ _ D.l1z D.l1i1 D.l1i2 q,S.l2.at λo q=>a7 _ _ D.l2z D.l2i1 D.l2i2 q⟩
theorem Wt{z TI TO i1 i2 l1 l2 d:Addr}{k:Nat}{xs ys:Array Value}{Q:Option Value->Shared->Prop}(hh:A.handled=none) (D:nF z TI TO i1 i2 l1 l2) (S:QY s.heap z TI TO i1 i2 l1 l2 d k xs ys) (hx:xs[k]?=none)
  (hQ:∀h',(∀c o,c≠z->c≠TO->c≠i1->c≠i2->s.heap.get? c=some o->h'.get? c=some o)->Q none { s with heap:=h' }) :
  kf (ki prog w) A (kT (.ref z)) Q E s:=by
 obtain⟨a,b,hTO⟩:=S.to;rcases S.f with hz|⟨T,f1,o,hz,ho,_⟩
 .exact wpAny_pyNext_zip_end hh D hz S.ti hTO S.h1 S.h2 S.l1 S.l2 (.inl hx) hQ
 .have hT:=S.ty;unfold kT;refine jY (lH (kK (name:=Str.ofString "__next__") hT F.slot_zip_next (kF F.slot_zip_next hT F.entry_zip_next (V4 hh D hz ho S.ti S.h1 S.l1 hx λh' e hk he=>?_) (F.args_zip_next_1 _))))
  obtain⟨oe,h3,h4⟩:=he;refine jY (lD (T := "StopIteration") (b:=true) ⟨oe,h3,h4⟩ Y3 ?_);exact jZ (hQ _ λc o c1 _ c3 _ q=>hk c o c1 c3 q)
theorem zC:Ze table "dict.update.loop" = some Builtin.«dict.update.loop»:=entryFor_of_tree (by kernel_rfl)
theorem uB:plainId "dict.update.loop" = true:=by decide +kernel
end
section
variable {K:Type} [DecidableEq K]
def fz(ks:List K) (ws:List Value) (j:Nat):List (K×Value):=((ks.zip ws).take j).foldl (λm p=>nv m p.1 p.2) []
theorem JA{ks:List K}{ws:List Value}{j:Nat}{k:K}{v:Value}(h1:ks[j]?=some k) (h2:ws[j]?=some v):fz ks ws (j+1)=nv (fz ks ws j) k v:=by
 unfold fz;have:(ks.zip ws)[j]?=some (k,v):=eZ.mpr ⟨h1,h2⟩;rw[bZ,this,gK,gS];rfl
theorem HG(m:List (K×Value)) (k:K) (v:Value):(nv m k v).length<=m.length+1:=by
 unfold nv;split
 .rw [lMq];lia
 .rw [lAq];exact ai _
theorem FT:∀(l:List (K×Value)) (m:List (K×Value)),(l.foldl (λm p=>nv m p.1 p.2) m).length<=m.length+l.length
 | [],m=>ai _
 |p::l,m=>by
  have:=FT l (nv m p.1 p.2);have:=HG m p.1 p.2;rw[cj,lCq];lia
theorem Nf(ks:List K) (ws:List Value) (j:Nat):(fz ks ws j).length<=j:=by
 have:=FT ((ks.zip ws).take j) [];have h2:((ks.zip ws).take j).length<=j:=by rw[lTq];lia
 unfold fz;rw[dh]at this;lia
end
section
variable {prog:kq}{w:kr}{A:Around}{E:Value->Shared->Prop}{s:Shared}{K:Type} [DecidableEq K] {knd:KeyKind prog w K}{R:Y9->Shared->Prop}{z TI TO i1 i2 l1 l2 d:Addr}{us ws:List Value}{ks:List K}
theorem QY.keep{h h':Heap}{k:Nat}{xs ys:Array Value}(S:QY h z TI TO i1 i2 l1 l2 d k xs ys) (nd:∀c∈[z,TI,TO,i1,i2,l1,l2],c≠d) (kp:jr d h h'):QY h' z TI TO i1 i2 l1 l2 d k xs ys:=by
 have q:=λc hc o=>kp c o (nd c hc)
 obtain⟨a,b,hTO⟩:=S.to;refine⟨?_,q TI (by simp) _ S.ti,⟨a,b,q TO (by simp) _ hTO⟩,S.h1.at λo e=>q i1 (by simp) o e,S.h2.at λo e=>q i2 (by simp) o e,S.l1.at λo e=>q l1 (by simp) o e,S.l2.at λo e=>q l2 (by simp) o e⟩
 rcases S.f with hz|⟨T,f1,o,hz,ho,n1,n2,n3,n4,n5⟩
 .exact .inl (q z (by simp) _ hz)
 .exact .inr ⟨T,f1,o,q z (by simp) _ hz,kp _ _ n5 ho,n1,n2,n3,n4,n5⟩
theorem Rb(hh:A.handled=none) (D:nF z TI TO i1 i2 l1 l2) (nd:∀c∈[z,TI,TO,i1,i2,l1,l2],c≠d) (hk:∀(j:Nat) (u:Value),us[j]?=some u->∃k,ks[j]?=some k/\knd.is k u=true) (hlen:us.length=ws.length) (hsz:us.length<=ko) :
  ∀(m j:Nat) (i:Int) (s:Shared),us.length-j=m->j<=us.length->QY s.heap z TI TO i1 i2 l1 l2 d j us.toArray ws.toArray->s.heap.DictOf knd d (fz ks ws j) ->
   (∀h' tk,h'.DictOf knd d (fz ks ws us.length)->(∀b o,b≠z->b≠TO->b≠i1->b≠i2->b≠d->s.heap.get? b=some o->h'.get? b=some o)->R (.ok (.ret .none)) { s with heap:=h',toks:=tk }) ->
   lO (ki prog w) A (.builtin "dict.update.loop" ⟨[.ref d,.ref z,.int i 0,.none],[]⟩) R s:=by
 have vl:us.toArray.size=us.length:=aB ..;intro m
 induction m with
 |zero =>
  intro j i s hm hj S dd hR;have hjn:j=us.length:=by lia
  refine kE zC ?_;rw[Around.under_plainId uB _];show kf _ A.in1 (kT (.ref z) >>= _) _ _ s;refine jY (Wt hh D S (by simp;lia) λh' kp=>?_)
  show kf _ A.in1 (Builtin.Dict.addKeywords d [] >>= _) _ _ _;refine jY (jZ (jZ (hR h' s.toks ?_ λb o b1 b2 b3 b4 _ e=>kp b o b1 b2 b3 b4 e)))
  subst hjn;obtain⟨o,es,ep,ho,r⟩:=dd;exact⟨o,es,ep,kp d o (nd z (by simp)).symm (nd TO (by simp)).symm (nd i1 (by simp)).symm (nd i2 (by simp)).symm ho,r⟩
 |succ m ih =>
  intro j i s hm hj S dd hR;obtain⟨u,hu⟩:∃u,us[j]?=some u:=⟨_,gEg (by lia)⟩
  obtain⟨v,hv⟩:∃v,ws[j]?=some v:=⟨_,gEg (by lia)⟩
  obtain⟨k,hk1,hk2⟩:=hk j u hu;refine kE zC ?_;rw[Around.under_plainId uB _];show kf _ A.in1 (kT (.ref z) >>= _) _ _ s;have hdl:d<s.heap.objs.size:=by obtain⟨_,_,_,ho,_⟩:=dd;exact ak ho
  refine jY (U2 D hdl S (x:=u) (y:=v) (by simpa using hu) (by simpa using hv) λh' T S' hT kp=>?_)
  have dd':h'.DictOf knd d (fz ks ws j):=by
   obtain⟨o,es,ep,ho,r⟩:=dd;exact⟨o,es,ep,kp d o (nd z (by simp)).symm (nd TO (by simp)).symm (nd i1 (by simp)).symm (nd i2 (by simp)).symm ho,r⟩
  refine jY (kA ?_);have tT:Shared.TypeIs { s with heap:=h' } (.ref T) "tuple" := ⟨_,hT,rfl⟩
  refine jY (wpAny_tryCatch ?_);unfold Builtin.Dict.pairItems;refine jY (mq tT ?_);rw[pe (by decide)]
  refine jY (mj hT rfl ?_);refine jZ ?_;refine kA ?_;refine Zi (hsz:=by have:=Nf ks ws j;lia) hk2 dd' λh2 dd2 sb=>?_
  rw[←JA hk1 hv]at dd2;refine jZ ⟨kP uB _,ih (j+1) (i+1) _ (by lia) (by lia) (S'.keep nd sb.extBut) dd2 λh3 tk3 dd3 kp3=>?_⟩
  exact hR h3 tk3 dd3 λb o b1 b2 b3 b4 b5 e=>kp3 b o b1 b2 b3 b4 b5 (sb.extBut b o b5 (kp b o b1 b2 b3 b4 e))
end
section
variable {prog:kq}{w:kr}{A:Around}{E:Value->Shared->Prop}{s:Shared}{K:Type} [DecidableEq K] {knd:KeyKind prog w K}{z TI TO i1 i2 l1 l2:Addr}{us ws:List Value}{ks:List K}
theorem Qx{Q:Value->Shared->Prop}(hh:A.handled=none) (D:nF z TI TO i1 i2 l1 l2) (hz:IsZip s.heap z TI TO .none) (hTI:nX s.heap TI (.ref i1) (.ref i2)) (hTO:∃a b,nX s.heap TO a b) (h1:s.heap.IsListIter i1 l1 0) (h2:s.heap.IsListIter i2 l2 0) (hl1:s.heap.IsList l1 us.toArray) (hl2:s.heap.IsList l2 ws.toArray)
  (hk:∀(j:Nat) (u:Value),us[j]?=some u->∃k,ks[j]?=some k/\knd.is k u=true) (hlen:us.length=ws.length) (hsz:us.length<=ko)
  (h:∀h' tk,h'.DictOf knd s.heap.objs.size (fz ks ws us.length)->(∀b o,b≠z->b≠TO->b≠i1->b≠i2->s.heap.get? b=some o->h'.get? b=some o)->Q (.ref s.heap.objs.size) { s with heap:=h',toks:=tk }) :
  kf (ki prog w) A (call (.type "dict") [.ref z]) Q E s:=by
 refine callType_codes (Q₁:=λobj s₁=>obj = .ref s.heap.objs.size/\s₁={ s with heap:=s.heap.push { cls:=.type "dict", data:=.dict #[] } }) F.kt_called_dict (F.kt_typeCall_dict_1 _) F.entry_dict_init (kt_code_dict_new _ ⟨rfl,rfl⟩) ?_
 rintro obj s₁ ⟨rfl,rfl⟩;have hnew:(s.heap.push { cls:=.type "dict", data:=.dict #[] }).DictOf knd s.heap.objs.size []:=fg.new s.heap;refine⟨hnew.typeIs,F.args_dict_init_2 _ _,?_⟩;have up:∀b o,s.heap.get? b=some o->(s.heap.push { cls:=.type "dict", data:=.dict #[] }).get? b=some o:=λb o e=>ae _ e
 have hT:Shared.TypeIs { s with heap:=s.heap.push { cls:=.type "dict", data:=.dict #[] } } (.ref z) "zip" := ⟨_,up _ _ hz,rfl⟩
 unfold Builtin.«dict.__init__»;refine jY ?_;unfold Builtin.Dict.selfAndRest;refine jY (mV hnew.typeIs ?_);show kf _ _ (pure (s.heap.objs.size,[bH z])) _ _ _;refine jZ ?_;show kf _ _ (Builtin.Dict.updateFrom "dict.__init__" s.heap.objs.size (.ref z) [] .none) _ _ _;unfold Builtin.Dict.updateFrom;refine jY (mq hT ?_);rw[pe (by decide)]
 refine jY (Q4 (up _ _ hz) (by simp[hh]) λh3 tk3 kp3=>?_)
 rw[pe (by rfl)]
 refine jY (mz ?_);have kp:∀b o,s.heap.get? b=some o->h3.get? b=some o:=λb o e=>kp3 b o (up b o e)
 refine jY (wpAny_pyIter_zip (kp _ _ hz) ?_);obtain⟨ta,tb,hTO⟩:=hTO;have lt:∀c∈[z,TI,TO,i1,i2,l1,l2],c≠s.heap.objs.size:=λc hc=>by
  refine ay ?_;simp only[ag,dX,or_false]at hc;rcases hc with rfl|rfl|rfl|rfl|rfl|rfl|rfl
  .exact ak hz
  .exact ak hTI
  .exact ak hTO
  .obtain ⟨_,q,_⟩:=h1;exact ak q
  .obtain ⟨_,q,_⟩:=h2;exact ak q
  .obtain ⟨_,q,_⟩:=hl1;exact ak q
  .obtain ⟨_,q,_⟩:=hl2;exact ak q
 have dd3:h3.DictOf knd s.heap.objs.size (fz ks ws 0):=by
  obtain⟨o,es,ep,ho,r⟩:=hnew;exact⟨o,es,ep,kp3 _ _ ho,r⟩
 refine jZ ⟨kP uB _,Rb (by simp[hh]) D lt hk hlen hsz us.length 0 0 _ (ie _) (bg _) ⟨.inl (kp _ _ hz),kp _ _ hTI,⟨_,_,kp _ _ hTO⟩,h1.at λo e=>kp _ o e,h2.at λo e=>kp _ o e,hl1.at λo e=>kp _ o e,hl2.at λo e=>kp _ o e⟩ dd3 λh4 tk4 dd4 kp4=>⟨rfl,h h4 tk4 dd4 λb o b1 b2 b3 b4 e=>kp4 b o b1 b2 b3 b4 (ay (ak e)) (kp b o e)⟩⟩
end
end Mo
namespace Mr
open PySem PySem.W PySem.Spec PyProof.Rows L2 Mo
def fv(ns ms:List Int):List (oS×V):=(ns.zip ms).foldl (λm p=>wL m (.inl p.1) (.int p.2)) []
theorem Fx:∀(ns ms:List Int) (ws:List Value) (m:List (oS×V)) (m':List (oS×Value)),pO (ms.map V.int) ws->KV m m'->KV ((ns.zip ms).foldl (λm p=>wL m (.inl p.1) (.int p.2)) m) (((ns.map aG).zip ws).foldl (λ(m:List (oS×Value)) p=>nv m p.1 p.2) m')
 | [],ms,ws,m,m',_,h=>by simpa using h
 |n::ns,[],ws,m,m',hv,h=>by
  cases hv;simpa using h
 |n::ns,k::ms,ws,m,m',hv,h=>by
  cases hv with
  |cons r t =>
   rw[ao,fu,fu,cj,cj];exact Fx ns ms _ _ _ t (h.put _ r)
theorem N9(ns ms:List Int):(fv ns ms).length<=ns.length:=by
 have key:∀(l:List (Int×Int)) (m:List (oS×V)),(l.foldl (λm p=>wL m (.inl p.1) (.int p.2)) m).length<=m.length+l.length:=by
  intro l
  induction l with
  |nil=>exact λm=>ai _
  |cons p l ih =>
   intro m;have:=ih (wL m (.inl p.1) (.int p.2));have:=wN m (aG p.1) (V.int p.2);rw[cj,lCq];lia
 have:=key (ns.zip ms) [];rw[dh,iy]at this;unfold fv;lia
section
variable {X:Cx}
def Yc(K:W.Frag) (xs:List V) (H:Hp) (Q:VK):Prop:=∃a b ns ms,xs=[.ref a,.ref b]/\tu K H a (ns.map V.int)/\tu K H b (ms.map V.int)/\ns.length=ms.length/\∀l,H l=none->Q (.ref l) (qH H l (.dK (fv ns ms)))
theorem Wy{e f:Expr}{ta:TA}{p0 p pos0 pos:Pos}(hc:X.calm=true) (gl:Gl X "dict") (ml:X.mg "dict" = none) (hg:Gl X "zip") (hm:X.mg "zip" = none) (ha:PA X [e,f] ta)
  (he:kx [.Call (.Name "zip" p) [e,f] [] pos] X.env=(false,eval (.Call (.Name "zip" p) [e,f] [] pos) X.env)::kx [] X.env:=by rfl) (hs:kx [e,f] X.env=[(false,eval e X.env),(false,eval f X.env)]:=by rfl) (hs2:kx [f] X.env=[(false,eval f X.env)]:=by rfl) :
  PE X (.Call (.Name "dict" p0) [.Call (.Name "zip" p) [e,f] [] pos] [] pos0) (JH (Yc X.K) ta):=by
 intro oq s σ H Q I h;refine lQ (xk I gl ml boot_dict ?_ (by decide) (by decide))
 refine bN ?_ he (by rfl)
 rw[he];show kf _ _ (spliced ((false,eval (.Call (.Name "zip" p) [e,f] [] pos) X.env)::lF pos0 (kx [] X.env))) _ _ s;refine Calls.spliced_cons ?_;refine Call_ (xk I hg hm boot_zip (bN (thn (ha pos oq s σ H _ I h) λus s1 hz1=>?_) (by rw[hs,hs2]) (by rw[hs2];rfl)))
 obtain⟨vs,H1,I1,r1,q1⟩:=hz1;obtain⟨a,b,ns,ms,e1,hq1,hq2,hl,q⟩:=q1;subst e1;obtain⟨u,v,rfl,ru,rv⟩:=Sb r1;cases ru;cases rv;obtain⟨its1,v1,p1,z1⟩:=I1.list hq1;obtain⟨its2,v2,p2,z2⟩:=I1.list hq2;have n1:=v1.length;have n2:=v2.length;rw[lMq]at n1 n2 z1;have al:a<s1.heap.objs.size:=let ⟨_,ho,_⟩:=p1.isList;ak ho
 have bl:b<s1.heap.objs.size:=let ⟨_,ho,_⟩:=p2.isList;ak ho
 refine call_zip_2 p1.isList p2.isList λg hz hTI hTO h1 h2 hsz hk=>Calls.spliced_nil ?_
 have zD:=Wp s1.heap.objs.size;have D:nF (s1.heap.objs.size+4) (s1.heap.objs.size+2) (s1.heap.objs.size+3) s1.heap.objs.size (s1.heap.objs.size+1) a b:=zipApart_new al bl;refine Qx (s:={ s1 with heap:=g }) (knd:=qA X.prog X.w) (ks:=ns.map aG) (I1.ok.hd hc) D hz hTI ⟨_,_,hTO⟩ h1 h2 (p1.isList.at λo e=>hk _ o e) (p2.isList.at λo e=>hk _ o e) (λj u hu=>?_) (by lia) (by lia) λh' tk dd kp=>?_
 .have hj:j<ns.length:=by have:=(gSq.mp hu).1;lia
  obtain⟨u',hu',ru⟩:=v1.get (i:=j) (x:=.int ns[j]) (by rw[gMq,gEg hj];rfl)
  rw[hu]at hu';cases hu';obtain⟨t,rfl⟩:=ru;exact⟨.inl ns[j],by rw[gMq,gEg hj];rfl,BF _ t⟩
 .have hsz':({ s1 with heap:=g }:Shared).heap.objs.size=s1.heap.objs.size+5:=hsz
  rw[hsz']at dd;have kv:KV (fv ns ms) (fz (ns.map aG) its2 its1.length):=by
   have:=Fx ns ms its2 [] [] v2 .nil;unfold fz;rw[bE (by rw[iy,lMq];lia)]
   exact this
  refine⟨.ref (s1.heap.objs.size+5),qH H1 (s1.heap.objs.size+5) (.dK (fv ns ms)),I1.laid (t':=tk) (λb o e=>?_) (jt _ _) (Dk (by have:=N9 ns ms;lia) (beq_eq_false_iff_ne.mpr (bM (gf 5 I1.big))) kv dd),by rw[hsz'];rfl,q _ (I1.hok.fresh (jt _ _))⟩
  have lt:b<s1.heap.objs.size:=ak e;exact kp b o (ay (gf 4 lt)) (ay (gf 3 lt)) (ay lt) (ay (gf 1 lt)) (hk b o e)
end
end Mr
namespace Z
open PySem L2 Mr
def dz(ns ms:List Int):List (oS×D):=(ns.zip ms).foldl (λm p=>wK m (.inl p.1) (.int p.2)) []
def RB:List D->Option (List (oS×D))
 | [.list as,.list bs]=>(rJ as).bind λns=>(rJ bs).bind λms=>if ns.length=ms.length then some (dz ns ms) else none
 |_=>none
def Xl(m:ML):MK:=λS=>(m S).bind λx=>(RB x.1).map λkvs=>(.owd kvs,x.2)
theorem XH(m:ML) (S:AS):Xl m S=(m S).bind λx=>(RB x.1).map λkvs=>(.owd kvs,x.2):=rfl
theorem LA{ns ms:List Int}(h:ns.length=ms.length):RB [.list (ns.map D.int),.list (ms.map D.int)]=some (dz ns ms):=by
 show ((rJ (ns.map D.int)).bind λns=>(rJ (ms.map D.int)).bind λms=>if ns.length=ms.length then some (dz ns ms) else none)=_
 rw[ur,ur];simp[h]
section
variable {K:W.Frag}{ta:TA}{m:ML}
theorem N3{Hf:Hp}(ns ms:List Int):tY K Hf (dz ns ms) (fv ns ms):=by
 have key:∀(l:List (Int×Int)) (d:List (oS×D)) (k:List (oS×V)),tY K Hf d k->tY K Hf (l.foldl (λm p=>wK m (.inl p.1) (.int p.2)) d) (l.foldl (λm p=>wL m (.inl p.1) (.int p.2)) k):=by
  intro l
  induction l with
  |nil=>exact λd k h=>h
  |cons p l ih=>exact λd k h=>ih _ _ (G9 h .int)
 exact key _ _ _ ⟨rfl,λi d v h=>by simp at h⟩
theorem Vs(hm:Rj K ta m):SK K (JH (Yc K) ta) (Xl m):=by
 intro H₀ Hf₀ Hf S σ H Fs av S' R e Q q;obtain⟨x,e1,e⟩:=oBq.mp e;obtain⟨kvs,e2,e⟩:=oMq.mp e;cases e;refine hm R (ds:=x.1) (S':=x.2) e1 _ λHf1 H1 Fs1 vs t1 R1 r1=>?_
 have sh:∃ns ms,x.1=[.list (ns.map D.int),.list (ms.map D.int)]/\ns.length=ms.length/\kvs=dz ns ms:=by
  unfold RB at e2;split at e2
  .rename_i as bs hx;obtain⟨ns,f1,f2⟩:=oBq.mp e2;obtain⟨ms,f3,f4⟩:=oBq.mp f2;split at f4
   .rename_i hl;cases f4;exact⟨ns,ms,by rw[hx,uF f1,uF f3],hl,rfl⟩
   .cases f4
  .cases e2
 obtain⟨ns,ms,hx,hl,rfl⟩:=sh;rw[hx]at r1;obtain⟨va,w1,rfl,ra,r2⟩:=r1.cons_inv;obtain⟨vb,w2,rfl,rb,r3⟩:=r2.cons_inv;have:=r3.nil_inv;subst this;obtain⟨a,us1,rfl,g1,g2⟩:=ra.list_inv;obtain⟨b,us2,rfl,g3,g4⟩:=rb.list_inv;have u1:=qV g2;have u2:=qV g4;subst u1;subst u2;refine⟨a,b,ns,ms,rfl,tu.of g1,tu.of g3,hl,λl hn=>?_⟩
 obtain⟨t4,R4,n1,n2,n3⟩:=R1.new (o:=.dK (fv ns ms)) hn;exact q _ _ _ (.ref l) [l] (t1.trans t4) R4 (.owd oW n1 (N3 ns ms)) ((yN.one R1 hn).back t1)
end
end Z
namespace Mr
open PySem L2
theorem Bz{prog:kq}{w:kr}{K:Type} [DecidableEq K] {knd:KeyKind prog w K}{A:Around}{E:Value->Shared->Prop}{s:Shared}{d:Addr}{k:K}{key dflt:Value}{kvs:List (K×Value)}{Q:Value->Shared->Prop}
  (hk:knd.is k key=true) (dd:fg knd s.heap d kvs) (hz:kvs.length<=ko)
  (there:∀v,lJ kvs k=some v->Q v { s with toks:=s.toks+1 })
  (new:lJ kvs k=none->∀h',fg knd h' d (kvs++[(k,dflt)])->bL d s.heap h'->Q dflt { s with heap:=h',toks:=s.toks+1 }) :
  kf (ki prog w) A (dictSetDefault d key dflt) Q E s:=by
 obtain⟨o,es,ep,ho,hx,hd,hkeys,hp,hn⟩:=dd;unfold dictSetDefault;refine kA (jY (knd.pyHash hk ?_));refine jY (wpAny_dictFind_of hk ho hd hkeys ?_);have hf:Array.findIdx? (λe=>knd.is k e.key) es=iX (λe=>knd.is k e.key) es.toList:=by
  cases es;exact(List.findIdx?_toArray ..)
 rw[hf];cases e:iX (λe=>knd.is k e.key) es.toList with
 |some i =>
  obtain⟨x,h1,h2,h3⟩:=hp.at e;refine jY (wpAny_dictEntries ho hd ?_);rw[←ax,h1];exact jY (mz (jZ (there _ h3)))
 |none =>
  have hz':es.size<=ko:=by rw[←au,hp.length];exact hz
  have h1:=hp.findIdx k;rw[e]at h1;have h2:=gU.mp h1.symm;have hv:lJ kvs k=none:=by
   unfold lJ;rw[List.find?_eq_none.mpr λx hx=>by rw[h2 x hx];decide]
   rfl
  refine jY (mz (jY (wpAny_updateDictKeys ho hd ?_ hz' (by simp))))
  refine jZ (new hv _ ⟨_,_,_,dE _ ho ?_,hx.mapDictKeys _,Obj.data_mapDictKeys hd _,hkeys.push hk dflt,?_,?_⟩ (bL.update _ _ _))
  .have hq:=Obj.data_mapDictKeys hd (λx=>x.push { hash:=knd.hash k,key:=key,val:=dflt })
   generalize Obj.mapDictKeys (λx=>x.push { hash:=knd.hash k,key:=key,val:=dflt }) o=o' at hq ⊢
   obtain⟨c,d',dt,sl⟩:=o';cases hq;rfl
  .rw [cA];exact hp.append hk _ _
  .rw [mBq,nAq];refine⟨hn,by simp,λa ha b hb=>?_⟩
   obtain⟨x,hx,rfl⟩:=mMq.mp ha;rw[mSq.mp hb];exact of_decide_eq_false (h2 x hx)
theorem BS{prog:kq}{w:kr}{K:Type} [DecidableEq K] (knd:KeyKind prog w K) {k:K}{key:Value}(d:Addr) (hk:knd.is k key=true) (hs:(d == kY)=false) (dflt:Value) :
  MeetsIn prog w (Builtin.«dict.setdefault» { pos:=[.ref d,key,dflt] }) λ_ R s=>∃kvs:List (K×Value),fg knd s.heap d kvs/\kvs.length<=ko/\(∀v,lJ kvs k=some v->R (.ok (.ret v)) { s with toks:=s.toks+1 }) /\
   (lJ kvs k=none->∀h',fg knd h' d (kvs++[(k,dflt)])->bL d s.heap h'->R (.ok (.ret dflt)) { s with heap:=h',toks:=s.toks+1 }):=by
 rintro A R s ⟨kvs,dd,hz,h1,h2⟩;unfold Builtin.«dict.setdefault» Builtin.Dict.keyAndDefault;refine jY (jY (mV dd.typeIs ?_));refine jY (jZ ?_);refine jY (jY (jZ ?_));dsimp only;refine jY (jZ ?_);refine jZ ?_;dsimp only;refine jY (jZ ?_);refine jZ ?_;dsimp only;rw[pD (by rw[hs];decide)]
 exact jY (Bz hk dd hz (λv hv=>jZ (h1 v hv)) λhv h' d' sb=>jZ (h2 hv h' d' sb))
section
variable {X:Cx}{oq:List (Addr×Obj)}{σ:St}{H:Hp}{s:Shared}{a:Addr}{kvs:List (oS×V)}{k:oS}{u r:Value}{v:V}{A:Around}{E:Value->Shared->Prop}
theorem OX{Q:Value->Shared->Prop}(I:Inv X oq σ H s) (e:H a=some (.dK kvs)) (ry:qc (kV k) u) (rv:qc v r) (l:kvs.length<ko)
  (there:∀v',vm kvs k=some v'->∀w' s',Inv X oq σ H s'->qc v' w'->Q w' s')
  (new:vm kvs k=none->∀s',Inv X oq σ (qH H a (.dK (kvs++[(k,v)]))) s'->Q r s') :
  kf (ki X.prog X.w) A (call (.builtin "dict.setdefault") [.ref a,u,r]) Q E s:=by
 obtain⟨z,hd,vs,rel,dd⟩:=M5 I.hok e;have hv:=rel.val k;refine call_meetsIn gF dd.typeIs PySem.F.entry_dict_setdefault (PySem.F.args_dict_setdefault_3 _ _ _) (BS (qA X.prog X.w) a (Ex ry) hd r)
  ⟨vs,dd,by rw[←rel.length];exact z,λw' hw=>?_,λhn h' dd' hs=>new ?_ _ ?_⟩
 .cases q:vm kvs k with
  |none=>rw[q]at hv;rw[AA.none_of hv]at hw;cases hw
  |some v' =>
   rw[q,hw]at hv;exact there v' q w' _ (I.tok _) hv
 .cases q:vm kvs k with
  |none=>rfl
  |some v' =>
   rw[q]at hv;obtain⟨y,h1,_⟩:=AA.some_of hv;rw[hn]at h1;cases h1
 .have he:∃q,h'.get? a=some q:=let ⟨q,_,_,hq,_⟩:=dd';⟨q,hq⟩
  refine Ci I (by rw[e];exact True.intro) hs he (Dk (by rw[lAq];exact l) hd ?_ dd')
  exact Paired.snoc rel ⟨rfl,rv⟩
end
end Mr
namespace Mr
open PySem PySem.Spec PyProof.Rows L2
def Jz(td ty tx:TE):TE:=λσ H Q=>td σ H λx H1=>∃a,x = .ref a/\X6 H1 a/\ty σ H1 λy H2=>tx σ H2 λz H3=>∃kvs k,H3 a=some (.dK kvs)/\y=kV k/\kvs.length<ko /\
 (∀v,vm kvs k=some v->Q v H3)/\(vm kvs k=none->Q z (qH H3 a (.dK (kvs++[(k,z)]))))
section
variable {X:Cx}{o e f:Expr}{apos cpos:Pos}{td ty tx:TE}
theorem KL(ho:PE X o td) (he:PE X e ty) (hf:PE X f tx) (m:M2 X o "setdefault" apos e f cpos):PE X (.Call (.Attribute o "setdefault" apos) [e,f] [] cpos) (Jz td ty tx):=by
 intro oq s σ H Q I h;refine wpAny_Call_method m.base m.few m.line ij gF PySem.F.type_dict_setdefault (thn (ho oq s σ H _ I h) λu s1 hz1=>?_)
 obtain⟨x,H1,I1,rx,a,ex,d,q1⟩:=hz1;subst ex;obtain rfl:u=bH a:=rx;obtain⟨t1,t2,_⟩:=Pg I1 d;refine⟨t1,t2,?_⟩;rw[m.trees];refine Calls.callWith_builtin rfl (Calls.evalArgs_plain (Calls.spliced_cons (thn (he oq s1 σ H1 _ I1 q1) λiv s2 hz1=>?_)))
 obtain⟨y,H2,I2,ry,q2⟩:=hz1;refine Calls.spliced_cons (thn (hf oq s2 σ H2 _ I2 q2) λjv s3 hz1=>?_)
 obtain⟨z,H3,I3,rz,kvs,k,ea,ey,l,p1,p2⟩:=hz1;refine Calls.spliced_nil ?_;subst ey;exact OX I3 ea ry rz l (λv hv w' s4 I4 rw'=>⟨v,_,I4,rw',p1 v hv⟩) λhv s4 I4=>⟨z,_,I4,rz,p2 hv⟩
end
end Mr
namespace Z
open PySem L2 Mr Xe
theorem pI.owl_inv{K:W.Frag}{Hf H:Hp}{kvs:List (oS×List Int)}{v:V}{F:List Addr}(h:pI K Hf H (.owl kvs) v F):∃p qs,v = .ref p/\F=p::qs/\H p=some (.dK (bB (λx q=>(x.1,V.ref q)) kvs qs))/\Hf p=none/\kvs.length=qs.length /\
  ∀(i:Nat) (q:Addr) (x:oS×List Int),qs[i]?=some q->kvs[i]?=some x->H q=some (.lst (x.2.map V.int))/\Hf q=none:=by
 cases h with
 |owl h n l e=>exact⟨_,_,rfl,rfl,h,n,l,e⟩
def vo(S:AS) (i:Nat):Option (List (oS×List Int)):=match S[i]?.join with
 |some (.owl kvs)=>some kvs
 |some (.owd [])=>some []
 |_=>none
def Fh(kvs:List (oS×List Int)) (k:oS):List (oS×List Int):=if kvs.any λx=>decide (x.1=k) then kvs else kvs++[(k,[])]
def vM:List (oS×List Int)->oS->Int->List (oS×List Int)
 | [],_,_=>[]
 |x::r,k,n=>if x.1=k then (x.1,x.2++[n])::r else x::vM r k n
section
variable {K:W.Frag}{H₀ Hf₀ Hf H:Hp}{S:AS}{σ:St}{Fs:List (List Addr)}
theorem qh.owl(R:qh K H₀ Hf₀ Hf S σ H Fs) {i:Nat}{kvs:List (oS×List Int)}(h:vo S i=some kvs):∃p qs,σ[i]?=some (some (.ref p))/\Fs[i]?=some (p::qs)/\H p=some (.dK (bB (λx q=>(x.1,V.ref q)) kvs qs))/\Hf p=none/\kvs.length=qs.length /\
  (∀(i:Nat) (q:Addr) (x:oS×List Int),qs[i]?=some q->kvs[i]?=some x->H q=some (.lst (x.2.map V.int))/\Hf q=none)/\(p::qs).Nodup/\∀q∈p::qs,H₀ q=none/\q∉(Fs.set i []).flatten:=by
 unfold vo at h;cases e:S[i]? with
 |none=>rw[e]at h;cases h
 |some o =>
  cases o with
  |none=>rw[e]at h;cases h
  |some av =>
   rw[e]at h;obtain⟨v,F,s1,s2,r,nd,oo,_⟩:=R.move e;cases av with
   |owl k =>
    cases h;obtain⟨p,qs,rfl,rfl,h1,h2,h3,h4⟩:=r.owl_inv;exact⟨p,qs,s1,s2,h1,h2,h3,h4,nd,oo⟩
   |owd k =>
    cases k with
    |nil =>
     cases h;obtain⟨p,kv,rfl,rfl,h1,h2,h3⟩:=r.owd_inv;have:kv=[]:=by
      have:=congrArg bD h3.1;simpa using this.symm
     subst this;exact⟨p,[],s1,s2,h1,h2,rfl,λi q x a=>by simp at a,nd,oo⟩
    |cons _ _=>cases h
   |_=>cases h
end
def T3(i:Nat) (b x:ME):MS:=λS=>(vo S i).bind λ_=>(b S).bind λy=>(vp y.1).bind λk=>(vo y.2 i).bind λkvs=>wm (kvs.length<rG) ((x (y.2.set i (some (.owl (Fh kvs k))))).bind λz=>(intOf z.1).bind λn=>(vo z.2 i).bind λls=>wm (∀l∈ls,l.2.length<rG) (some (.nx (z.2.set i (some (.owl (vM ls k n)))))))
theorem Cz:∀{as bs:List (oS×List Int)}{ps qs:List Addr},as.length=ps.length->bs.length=qs.length->bB (λx q=>(x.1,V.ref q)) as ps=bB (λx q=>(x.1,V.ref q)) bs qs->ps=qs/\as.map (·.1)=bs.map (·.1)
 | [],[],[],[],_,_,_=>⟨rfl,rfl⟩
 | [],b::bs,[],q::qs,_,_,h=>by simp at h
 |a::as,[],p::ps,[],_,_,h=>by simp at h
 |a::as,b::bs,p::ps,q::qs,h1,h2,h=>by
  simp only[eI,jM.injEq,Prod.mk.injEq,V.ref.injEq]at h;obtain⟨e1,e2⟩:=Cz (by simpa using h1) (by simpa using h2) h.2
  exact⟨by rw[h.1.2,e1],by rw[ao,ao,h.1.1,e2]⟩
 | [],_,p::ps,_,h,_,_=>by simp at h
 |a::as,_,[],_,h,_,_=>by simp at h
 |_,[],_,q::qs,_,h,_=>by simp at h
 |_,b::bs,_,[],_,h,_=>by simp at h
structure Nn (kvs:List (oS×List Int)) (k:oS) (n:Nat):Prop where
 lt:n<kvs.length
 at_:∀x,kvs[n]?=some x->x.1=k
 fst:∀j,j<n->∀x,kvs[j]?=some x->x.1≠k
theorem Nn.keys{as bs:List (oS×List Int)}{k:oS}{n:Nat}(h:Nn as k n) (e:as.map (·.1)=bs.map (·.1)):Nn bs k n:=by
 have hl:as.length=bs.length:=by simpa using congrArg bD e
 have ha:∀(j:Nat) (x:oS×List Int),bs[j]?=some x->∃y:oS×List Int,as[j]?=some y/\y.1=x.1:=λj x hx=>by
  have hj:=(gSq.mp hx).1;refine⟨as[j]'(by lia),gEg _,?_⟩
  have:=congrArg (λl=>l[j]?) e
  simp only[gMq,hx,gEg (show j<as.length by lia),cM,aJ.injEq]at this
  exact this
 refine⟨hl ▸ h.lt,λx hx=>?_,λj hj x hx=>?_⟩
 .obtain ⟨y,h1,h2⟩:=ha _ _ hx;rw[←h2];exact h.at_ y h1
 .obtain ⟨y,h1,h2⟩:=ha _ _ hx;rw[←h2];exact h.fst j hj y h1
theorem Nn.add:∀{kvs:List (oS×List Int)}{k:oS}{n:Nat}{x:oS×List Int},Nn kvs k n->kvs[n]?=some x->∀m,vM kvs k m=kvs.set n (x.1,x.2++[m])
 | [],k,n,x,h,e,m=>by simp at e
 |y::r,k,0,x,h,e,m=>by
  have:=h.at_ y rfl;simp only[ik,aJ.injEq]at e;subst e;rw[vM,pe this];rfl
 |y::r,k,n+1,x,h,e,m=>by
  have:=h.fst 0 (by lia) y rfl
  rw[vM,pD this,eD];congr 1;refine Nn.add ⟨by have:=h.lt;simp at this;lia,λx hx=>h.at_ x (by simpa using hx),λj hj x hx=>h.fst (j+1) (by lia) x (by simpa using hx)⟩ (by simpa using e) m
theorem V2{k:oS}:∀{kvs:List (oS×List Int)}{qs:List Addr},kvs.length=qs.length ->
  (∀v,vm (bB (λx q=>(x.1,V.ref q)) kvs qs) k=some v->∃n q,v = .ref q/\qs[n]?=some q/\Nn kvs k n/\Fh kvs k=kvs) /\
  (vm (bB (λx q=>(x.1,V.ref q)) kvs qs) k=none->Fh kvs k=kvs++[(k,[])]/\Nn (kvs++[(k,[])]) k kvs.length)
 | [],[],_=>by
  refine⟨λv h=>?_,λ_=>⟨rfl,by simp,λx h=>?_,λj hj=>?_⟩⟩
  .simp [vm]at h
  .simp at h;rw[←h]
  .simp at hj
 |y::r,q::qs,h=>by
  obtain⟨i1,i2⟩:=V2 (k:=k) (kvs:=r) (qs:=qs) (by simpa using h)
  by_cases c:y.1=k
  .refine ⟨λv hv=>⟨0,q,?_,rfl,⟨by simp,λx hx=>?_,λj hj=>by simp at hj⟩,?_⟩,λhv=>?_⟩
   .simp only [vm,eI,cJ,c,decide_true,cM,aJ.injEq]at hv;exact hv.symm
   .simp at hx;rw[←hx];exact c
   .simp [Fh,c]
   .simp [vm,c]at hv
  .have e:vm (bB (λx q=>(x.1,V.ref q)) (y::r) (q::qs)) k=vm (bB (λx q=>(x.1,V.ref q)) r qs) k:=by
    simp only[vm,eI,cJ,c,decide_false]
   have up:∀{l n},Nn l k n->Nn (y::l) k (n+1):=λ{l n} a=>⟨by have:=a.lt;simp;lia,λx hx=>a.at_ x (by simpa using hx),λj hj x hx=>by
    cases j with
    |zero=>simp at hx;rw[←hx];exact c
    |succ j=>exact a.fst j (by lia) x (by simpa using hx)⟩
   rw[e];refine⟨λv hv=>?_,λhv=>?_⟩
   .obtain ⟨n,w,h1,h2,h3,h4⟩:=i1 v hv;refine⟨n+1,w,h1,by simpa using h2,up h3,?_⟩
    have h5:(r.any λx=>decide (x.1=k))=true:=cR.mpr ⟨r[n]'h3.lt,gRq _,decide_eq_true (h3.at_ _ (gEg h3.lt))⟩
    simp[Fh,h5]
   .obtain ⟨h1,h2⟩:=i2 hv;refine⟨?_,up h2⟩;have h5:(r.any λx=>decide (x.1=k))=false:=by
     by_cases z:(r.any λx=>decide (x.1=k))=true
     .rw [Fh,pe z]at h1;simpa using congrArg bD h1
     .exact Bool.eq_false_iff.mpr z
    simp[Fh,h5,c]
 | [],_::_,h=>by simp at h
 |_::_,[],h=>by simp at h
theorem Eo{S:AS}{i:Nat}{kvs:List (oS×List Int)}(h:i<S.length):vo (S.set i (some (.owl kvs))) i=some kvs:=by
 rw[vo,aZ h];rfl
theorem O3{S:AS}{i:Nat}{kvs:List (oS×List Int)}(h:vo S i=some kvs):i<S.length:=by
 by_cases c:i<S.length
 .exact c
 .rw [vo,bO (by lia)]at h;cases h
section
variable {K:W.Frag}{tb tx:TE}{b x:ME}
theorem Ka{H₀ Hf₀ Hf H:Hp}{S:AS}{σ:St}{Fs:List (List Addr)}{i n:Nat}{kvs ls:List (oS×List Int)}{k:oS}{p q:Addr}{qs:List Addr}{z:D×AS}{m:Int}(hx:SR K tx x) (R:qh K H₀ Hf₀ Hf S σ H Fs) (s1:σ[i]?=some (some (.ref p))) (h1:H p=some (.dK (bB (λx q=>(x.1,V.ref q)) kvs qs))) (l:kvs.length=qs.length) (hq:qs[n]?=some q) (ka:Nn kvs k n)
  (e0:vo S i=some kvs) (e1:x S=some z) (e2:intOf z.1=some m) (e3:vo z.2 i=some ls) (e4:∀l∈ls,l.2.length<rG) {D:Bw}(h:D0 K H₀ Hf₀ Hf D (.nx (z.2.set i (some (.owl (vM ls k m)))))) :
  VB K "list" (.ref q) H/\uM tx xQ σ H λxs H2=>A3 (.ref q) xs H2 λ_ H1=>D.nx σ H1:=by
 obtain⟨p',qs',t1,_,t3,_,t5,t6,_,_⟩:=R.owl e0;rw[s1]at t1;cases t1;rw[h1]at t3;injection t3 with t3
 injection t3 with t3
 obtain⟨rfl,_⟩:=Cz l t5 t3;obtain⟨y,hy⟩:∃y,kvs[n]?=some y:=⟨_,gEg ka.lt⟩;refine⟨.inl ⟨rfl,_,tu.of (t6 n q y hq hy).1⟩,hx R (d:=z.1) (S':=z.2) e1 _ λHf3 H3 Fs3 w t R3 r3=>?_⟩
 have hz:z.1 = .int m:=by
  cases hx:z.1 <;> rw[hx]at e2 <;> first|(cases e2;rfl)|cases e2
 rw[hz]at r3;cases r3;obtain⟨p',qs',u1,u2,u3,u4,u5,u6,u7,u8⟩:=R3.owl e3;rw[s1]at u1;cases u1;rw[t.sh _ _ h1]at u3;injection u3 with u3
 injection u3 with u3
 obtain⟨rfl,ek⟩:=Cz l u5 u3;have ka':=ka.keys ek;obtain⟨y',hy'⟩:∃y,ls[n]?=some y:=⟨_,gEg ka'.lt⟩;obtain⟨g1,g2⟩:=u6 n q y' hq hy';have hne:p≠q:=λe=>(aA.mp u7).1 (e ▸ mGq hq)
 refine⟨q,_,.int m,rfl,rfl,g1,by rw[vy,lMq];exact e4 y' (mGq hy'),h _ _ _ _ t.sf (R3.turnAny s1 u2 (mCo _ (mGq hq)) (F':=p::qs) ?_ u7 u8)⟩
 rw[ka'.add hy' m];have hs:∀j,(ls.set n (y'.1,y'.2++[m]))[j]?=if n=j then some (y'.1,y'.2++[m]) else ls[j]?:=λj=>by
  rw[bI]
  by_cases c:n=j
  .rw [pe c,pe c,pe ka'.lt]
  .rw [pD c,pD c]
 refine .owl ?_ u4 (by rw[lZq];exact u5) λj w x k1 k2=>?_
 .rw [oQ hne,t.sh _ _ h1,u3];congr 2;refine fM λj=>?_
  rw[cQ,cQ,hs]
  by_cases c:n=j
  .subst c;rw[pe rfl,hy',hq]
  .rw [pD c]
 .rw [hs]at k2
  by_cases c:n=j
  .subst c;rw[pe rfl]at k2;rw[hq]at k1;cases k1;cases k2;exact⟨by rw[oW,mBq];rfl,g2⟩
  .rw [pD c]at k2;have hw:w≠q:=λe=>by
    subst e;have nd:=(aA.mp u7).2;obtain⟨a1,a2⟩:=gSq.mp k1;obtain⟨b1,b2⟩:=gSq.mp hq;exact c ((jk nd).mp (b2.trans a2.symm))
   rw[oQ hw];exact u6 j w x k1 k2
theorem TU{i:Nat}(hb:SR K tb b) (hx:SR K tx x):SS K (Ef (Qr K "list" A3 (Jz (xq i) tb (Ul xQ)) (uM tx xQ))) (T3 i b x):=by
 intro H₀ Hf₀ Hf S σ H Fs o R e D h;obtain⟨k0,e0,e⟩:=oBq.mp e;obtain⟨y,e1,e⟩:=oBq.mp e;obtain⟨k,e2,e⟩:=oBq.mp e;obtain⟨kvs,e3,e⟩:=oBq.mp e;rcases pJ e with ⟨hl,e⟩|e
 .obtain ⟨z,e4,e⟩:=oBq.mp e;obtain⟨m,e5,e⟩:=oBq.mp e;obtain⟨ls,e6,e⟩:=oBq.mp e;rcases pJ e with ⟨hl2,e⟩|e
  .cases e;obtain⟨p,qs0,s1,_,h1,_⟩:=R.owl e0;refine⟨_,s1,p,rfl,.inl ⟨_,.inl h1⟩,hb R (d:=y.1) (S':=y.2) e1 _ λHf1 H1 Fs1 v t1 R1 r1=>⟨bg _,λq hq=>?_⟩⟩
   obtain⟨p',qs,u1,u2,u3,u4,u5,u6,u7,u8⟩:=R1.owl e3;rw[s1]at u1;cases u1;have hne:p≠q:=λe=>by rw[e,hq]at u3;cases u3
   obtain⟨t2,R2,n1,n2,n3⟩:=R1.new (o:=.lst []) hq;obtain⟨v1,v2⟩:=V2 (k:=k) u5;have hi:=O3 e3;refine⟨_,k,(oQ hne).trans u3,wk e2 r1,by rw[vy,gG,←u5,jQ];exact hl,λw hw=>?_,λhw=>?_⟩
   .obtain ⟨n,q',rfl,g1,g2,g3⟩:=v1 w hw;rw[g3]at e4;have R3:qh K H₀ Hf₀ Hf1 (y.2.set i (some (.owl kvs))) σ (qH H1 q (.lst [])) (Fs1.set i (p::qs)):=by
     refine(R2.kill i).again (F:=p::qs) s1 (.owl ((oQ hne).trans u3) u4 u5 λj q1 x a1 a2=>?_) u7 u8
     obtain⟨b1,b2⟩:=u6 j q1 x a1 a2;exact⟨by rw[oQ λe=>by rw[e,hq]at b1;cases b1];exact b1,b2⟩
    exact Ka hx R3 s1 ((oQ hne).trans u3) u5 g1 g2 (Eo hi) e4 e5 e6 hl2 (h.mono t1.sf)
   .obtain ⟨g1,g2⟩:=v2 hw;rw[g1]at e4;have eq:(bB (λx q=>(x.1,V.ref q)) kvs qs)++[(k,V.ref q)]=bB (λ(x:oS×List Int) q=>(x.1,V.ref q)) (kvs++[(k,[])]) (qs++[q]):=by
     rw[List.zipWith_append (h:=u5)];rfl
    have l2:(kvs++[(k,[])]).length=(qs++[q]).length:=by rw[lAq,lAq,u5];rfl
    have R3:qh K H₀ Hf₀ Hf1 (y.2.set i (some (.owl (kvs++[(k,[])])))) σ (qH (qH H1 q (.lst [])) p (.dK ((bB (λx q=>(x.1,V.ref q)) kvs qs)++[(k,V.ref q)]))) (Fs1.set i (p::(qs++[q]))):=by
     refine R2.turnAny s1 u2 (aj ..) (.owl ?_ u4 l2 λj q1 x a1 a2=>?_) ?_ ?_
     .rw [oW,eq]
     .have hp1:q1≠p:=λe=>by
       subst e;rcases mAq.mp (mGq a1) with c|c
       .exact (aA.mp u7).1 c
       .exact hne (mSq.mp c)
      rw[oQ hp1]
      by_cases c:j<kvs.length
      .rw [gZq (u5 ▸ c)]at a1;rw[gZq c]at a2;obtain⟨b1,b2⟩:=u6 j q1 x a1 a2;exact⟨by rw[oQ λe=>by rw[e,hq]at b1;cases b1];exact b1,b2⟩
      .have hj:=(gSq.mp a2).1;rw[lAq,lSq]at hj;have:j=kvs.length:=by lia
       subst this;rw[dD]at a2;rw[u5,dD]at a1;cases a1;cases a2;exact⟨oW,n1⟩
     .rw [←dU];refine nAq.mpr ⟨u7,by simp,λa ha b hb=>?_⟩
      rw[mSq.mp hb];intro e;subst e;exact(R1.mem (qv u2 ha)).1 hq
     .intro a ha;rw[←dU]at ha;rcases mAq.mp ha with c|c
      .exact u8 a c
      .rw [mSq.mp c];exact⟨n2,λm=>n3 (qR m)⟩
    refine Ka (n:=kvs.length) hx R3 s1 (qs:=qs++[q]) (by rw[oW,eq]) l2 ?_ g2 (Eo hi) e4 e5 e6 hl2 (h.mono t1.sf)
    rw[u5,dD]
  .cases e
 .cases e
end
end Z
namespace Xe
open PySem PySem.Spec PySem.W PyProof.Rows L2 Mr
section
variable {X:Cx}
def XY(o:Obj) (d:Addr) (kvs:List (oS×V)):It :=
  ⟨λi H=>H d=some (.frz o (.dK kvs))/\∃p,kvs[i]?=some p,
   λi H x H'=>H'=H/\∃p,kvs[i]?=some p/\x=p.2,
   λi H=>H d=some (.frz o (.dK kvs))/\kvs.length<=i⟩
theorem Ld{P:kq}{w:kr}{K:Frag}{tg:Expr}(o:Obj) (d it:Addr) (kvs:List (oS×V)) (vs:List (oS×Value)) (ep:Nat) (hne:d≠it)
  (ho:∀h:Heap,h.get? d=some o->h.DictAt (qA P w) d vs ep) (kv:KV kvs vs):HP P w K tg (XY o d kvs) [it] it (λi h=>h.IsValIter it d i vs.length ep) where
 mem:=by simp
 obj:=λi h st b hb=>by
  obtain rfl:b=it:=by simpa using hb
  obtain⟨o',e,c,dd⟩:=st;exact⟨o',e,λv z=>by rw[dd]at z;cases z⟩
 keep:=λi h h' st k=>by
  obtain⟨o',e,r⟩:=st;exact⟨o',k it (by simp) _ e,r⟩
 item:=by
  intro X hP hw hK hc i oq s σ H E I hf st hg;subst hP hw hK;obtain⟨hd,p,hp⟩:=hg;have e1:s.heap.get? d=some o:=(show qW X.prog X.w H s.heap d (.frz o (.dK kvs)) from I.hok d _ hd).1
  obtain⟨u,hx,ru⟩:=Ov kv hp;obtain⟨f0,f1,f2,f3,f4,f5⟩:=hf it (by simp)
  refine wpAny_pyNext_values_item st (ho _ e1) hx λh' st' sb=>?_
  have I1:L2.Inv X oq σ H { s with heap:=h' }:=I.turned (t':=s.toks) (λb o hb e=>(sb.2 b hb).trans e) f0 f1 f3 f4 f5
  obtain⟨o',e,c,dd⟩:=id st';exact⟨u,rfl,J9 (s:={ s with heap:=h' }) e c dd (by decide) ⟨_,H,I1,ru,⟨rfl,p,hp,rfl⟩,st',λb hb=>(hf b hb).1⟩⟩
 done:=by
  intro X hP hw hK hc i oq s σ H E I hf st hg;subst hP hw hK;obtain⟨hd,hl⟩:=hg;have e1:s.heap.get? d=some o:=(show qW X.prog X.w H s.heap d (.frz o (.dK kvs)) from I.hok d _ hd).1
  have l:=Paired.length kv;obtain⟨f0,f1,f2,f3,f4,f5⟩:=hf it (by simp)
  exact wpAny_pyNext_values_end (I.ok.hd hc) st (ho _ e1) (bO (by lia)) λh' eb=>⟨rfl,I.turned (t':=s.toks) (λb o hb e=>eb b o hb e) f0 f1 f3 f4 f5⟩
 self:=λ_ _ _ _ _ st h=>wpAny_pyIter_valiter st h
def RQ(te:TE):TI:=λσ H R=>te σ H λx H1=>∃d kvs,x = .ref d/\H1 d=some (.dK kvs)/\∀o,R (XY o d kvs) (qH H1 d (.frz o (.dK kvs)))
theorem Rc{tg o:Expr}{te:TE}{apos cpos:Pos}(ho:PE X o te) (hbase:mS o "values" X.env (eval o X.env)=eval o X.env:=by rfl) (hline:(apos.endLine == cpos.line)=true:=by rfl) :
  PI X tg (.Call (.Attribute o "values" apos) [] [] cpos) (RQ te):=by
 intro oq s σ H R I h;refine nY hbase hline (thn (ho oq s σ H _ I h) λv s1 hz1=>?_)
 obtain⟨x,H1,I1,r1,d,kvs,ex,ha,q⟩:=hz1;subst ex;obtain rfl:=(show v=bH d from r1)
 obtain⟨hz,sa,vs,kv,dd⟩:=(show qW X.prog X.w H1 s1.heap d (.dK kvs) from I1.hok d _ ha)
 refine⟨"dict", "dict.values", ij,gZ,PySem.F.type_dict_values,dd.typeIs,dd.mapOf.noDict,?_⟩;refine method_meetsIn gZ PySem.F.entry_dict_values rfl (PySem.evalArgs_none ⟨rfl,dd.typeIs,PySem.F.args_dict_values_1 _,_,meets_dict_values _ d sa,⟨vs,dd⟩,?_⟩);obtain⟨ep,ob,es,hob,uJ⟩:=dd.dictAt;have da:∀h:Heap,h.get? d=some ob->h.DictAt (qA X.prog X.w) d vs ep:=λh e=>⟨ob,es,e,uJ⟩
 have hlt:d<s1.heap.objs.size:=ak hob;refine wpAny_pyIter_values (s:={ s1 with heap:=s1.heap.push { cls:=.type "dict_values", data:=.fields #[.ref d] } }) ⟨_,aC _ rfl,rfl,rfl⟩ (da _ (ae _ hob)) ?_
 have kp:∀b u,s1.heap.get? b=some u->((s1.heap.push { cls:=.type "dict_values", data:=.fields #[.ref d] }).push { cls:=.type "dict_valueiterator", data:=.fields #[.ref d,.int 0 0,.int vs.length 0,.int ep 0] }).get? b=some u:=λb u e=>ae _ (ae _ e)
 have hs2:(s1.heap.push { cls:=.type "dict_values", data:=.fields #[.ref d] }).objs.size=s1.heap.objs.size+1:=fJ ..;have I2:L2.Inv X oq σ (qH H1 d (.frz ob (.dK kvs))) { s1 with heap:=((s1.heap.push { cls:=.type "dict_values", data:=.fields #[.ref d] }).push { cls:=.type "dict_valueiterator", data:=.fields #[.ref d,.int 0 0,.int vs.length 0,.int ep 0] }) } :=
  (I1.kept (t':=s1.toks) kp).write (x:=d) (e:=d) (o:=.frz ob (.dK kvs)) (t':=s1.toks) (by rw[ha];trivial) (.inl rfl) (λb u _ e=>e) ⟨_,kp _ _ hob⟩ ⟨kp _ _ hob,hz,sa,vs,kv,(da _ (kp _ _ hob)).dictOf⟩
 refine⟨s1.heap.objs.size+1,[s1.heap.objs.size+1],_,_,_,by rw[hs2],I2,Ld ob d _ kvs vs ep (ay (bR hlt)) da kv,?_,λb hb=>?_,q ob⟩
 .show Heap.IsValIter _ (s1.heap.objs.size+1) d 0 vs.length ep;rw[←hs2];exact⟨_,aC _ rfl,rfl,rfl⟩
 .have e:b=s1.heap.objs.size+1:=by simpa using hb
  subst e;exact I1.fpOk (cu _) (by rw[oQ (bM (bR hlt))];exact I1.hok.fresh (cu _))
end
end Xe
namespace Z
open PySem L2 Mr Xe
def SW(K:W.Frag) (te:TE) (m:MK):Prop:=∀{H₀ Hf₀ Hf:Hp}{S:AS}{σ:St}{H:Hp}{Fs:List (List Addr)}{a:AV}{S':AS},qh K H₀ Hf₀ Hf S σ H Fs->m S=some (a,S')->∀Q:VK,
 (∀Hf' H' Fs' v F,qk Hf Hf'->qh K H₀ Hf₀ Hf' S' σ H' Fs'->pI K Hf' H' a v F->F.Nodup->(∀q∈F,H₀ q=none/\q∉Fs'.flatten)->Q v H')->te σ H Q
def Tt(i:Nat):MI:=λS=>(vo S i).map λkvs=>(kvs.map λx=>.list (x.2.map .int),S.set i none)
def Oq(j:Nat) (k:MK):MK:=λS=>(rE S j).bind λavs=>(k (S.set j none)).bind λx=>match x.1 with
 | .ow bvs=>wm (x.2[j]?=some none/\avs.length+bvs.length<=rG) (some (.ow (avs++bvs),x.2))
 |_=>none
section
variable {K:W.Frag}{tf:TT}{te:TE}{mf:MT}{me k:MK}{fr:List Nat}
theorem P8(hk:SW K te k):SS K (S5 te) (tV k):=by
 intro H₀ Hf₀ Hf S σ H Fs o R e D h;obtain⟨x,e1,e⟩:=oMq.mp e;cases e;exact hk R (a:=x.1) (S':=x.2) e1 _ λHf1 H1 Fs1 v F t1 R1 r1 n1 o1=>h _ _ v F R1.sf R1.fr R1.sub R1.lim r1 n1 λq hq=>(o1 q hq).1
theorem KW(hk:SW K te k):SW K (JH (λxs H Q=>∃(a:Addr) (ps:List Addr) (rs:List (List Int)),xs=[.ref a]/\tu K H a (ps.map V.ref)/\rX H ps rs /\
  ∀p qs,H p=none->qs.Perm ps->rX (qH H p (.lst (qs.map V.ref))) qs (qY rs)->Q (.ref p) (qH H p (.lst (qs.map V.ref)))) (uM te xQ)) (A0 k):=by
 intro H₀ Hf₀ Hf S σ H Fs av S' R e Q q;obtain⟨x,e1,e⟩:=oBq.mp e;refine hk R (a:=x.1) (S':=x.2) e1 _ λHf1 H1 Fs1 v F t1 R1 r1 d1 o1=>?_
 split at e
 .rename_i avs hx;obtain⟨rs,e2,e⟩:=oMq.mp e;cases e;rw[hx,Cr e2]at r1;obtain⟨p0,vs,Gs,rfl,rfl,h1,h2,h3⟩:=r1.ow_inv;obtain⟨ps,rfl,rfl,hE,hn⟩:=wF h3;rw[flat_one]at o1 d1;refine⟨p0,ps,rs,rfl,tu.of h1,hE,λp qs hp hq hE2=>?_⟩
  obtain⟨t4,R4,n1,n2,n3⟩:=R1.new (o:=.lst (qs.map V.ref)) hp;have pq:p∉qs:=λm=>hE.free (H:=H1) hp (hq.mem_iff.mp m)
  have hm:∀z∈qs,z∈p0::ps:=λz hz=>mCo _ (hq.mem_iff.mp hz)
  refine q _ _ _ (.ref p) (p::(qs.map λp=>[p]).flatten) (t1.trans t4.sf) R4 (pI.news oW n1 (Ah hE2 λz hz=>hn z (hq.mem_iff.mp hz))) ?_ ?_
  .rw [flat_one];exact aA.mpr ⟨pq,hq.nodup_iff.mpr (aA.mp d1).2⟩
  .rw [flat_one];intro z hz;rcases ag.mp hz with y|y
   .rw [y];exact⟨n2,n3⟩
   .exact o1 z (hm z y)
 .cases e
theorem Td{j:Nat}(hk:SW K te k):SW K (PD UG (xq j) te) (Oq j k):=by
 intro H₀ Hf₀ Hf S σ H Fs av S' R e Q q;obtain⟨avs,e1,e⟩:=oBq.mp e;obtain⟨x,e2,e⟩:=oBq.mp e;split at e
 .rename_i bvs hx;rcases pJ e with ⟨⟨hj,hl⟩,e⟩|e
  .cases e;obtain⟨v0,F0,s1,s2,r0,nd0,o0,_⟩:=R.move (qw e1);refine⟨_,s1,hk (R.frame s2) (a:=x.1) (S':=x.2) e2 _ λHf1 H1 Fs1 v F sf R1 r1 nd1 o1=>?_⟩
   obtain⟨hk0,r2,R2⟩:=R.unframe s2 r0 nd0 (λq hq=>(o0 q hq).1) R1 hj s1 sf
   have R3:=R2.kill j;rw[eP,eP,Dc hj,Dc (R1.emp j hj)]at R3;rw[hx]at r1;obtain⟨p1,vs1,Gs1,rfl,rfl,a1,a2,a3⟩:=r2.ow_inv;obtain⟨p2,vs2,Gs2,rfl,rfl,b1,b2,b3⟩:=r1.ow_inv;have hF:∀q∈p1::Gs1.flatten,Wm H₀ H (p1::Gs1.flatten) q≠none:=λq hq=>by
    rw[CM hq];exact(R.mem (qv s2 hq)).1
   refine⟨p1,p2,vs1,vs2,rfl,rfl,a1,b1,by rw[vy,←a3.1,←b3.1];exact hl,λp hp=>?_⟩
   obtain⟨t4,R4,n1,n2,n3⟩:=R3.new (o:=.lst (vs1++vs2)) hp;have c1:∀q∈p1::Gs1.flatten,H1 q≠none:=λq hq=>by rw[hk0 q hq];exact(R.mem (qv s2 hq)).1
   have c2:∀q∈p2::Gs2.flatten,H1 q≠none:=λq hq=>(r1.owned q hq).1
   have m1:∀q∈Gs1.flatten,q∈p1::Gs1.flatten:=λq h=>mCo _ h
   have m2:∀q∈Gs2.flatten,q∈p2::Gs2.flatten:=λq h=>mCo _ h
   have k3:=(a3.append b3).keepUpd (p:=p) (o:=.lst (vs1++vs2)) (by
    rw[fAq];intro m;rcases mAq.mp m with z|z
    .exact c1 p (m1 p z) hp
    .exact c2 p (m2 p z) hp)
   refine q _ _ _ (.ref p) (p::(Gs1++Gs2).flatten) (sf.trans t4.sf) R4 (pI.news oW n1 k3) ?_ ?_
   .rw [fAq];refine aA.mpr ⟨λm=>?_,nAq.mpr ⟨(aA.mp nd0).2,(aA.mp nd1).2,λa ha b hb e=>?_⟩⟩
    .rcases mAq.mp m with z|z
     .exact c1 p (m1 p z) hp
     .exact c2 p (m2 p z) hp
    .subst e;exact hF a (m1 a ha) (o1 a (m2 a hb)).1
   .rw [fAq];intro z hz;rcases ag.mp hz with y|y
    .rw [y];exact⟨n2,n3⟩
    .rcases mAq.mp y with y|y
     .exact ⟨(o0 z (m1 z y)).1,λm=>hF z (m1 z y) (R1.fresh z m)⟩
     .have:=o1 z (m2 z y);refine⟨?_,this.2⟩;rw[←yv (H₀:=H₀) (H:=H) (F:=p1::Gs1.flatten) λm=>hF z m this.1]
      exact this.1
  .cases e
 .cases e
theorem NP{i:Nat}(hf:E3 K tf mf) (he:SK K te me):SW K (DL (RQ (xq i)) fr tf te) (uf (Tt i) fr mf me):=by
 intro H₀ Hf₀ Hf S σ H Fs av S' R e Q q;obtain⟨y,e1,e⟩:=oBq.mp e;obtain⟨kvs,e2,e1⟩:=oMq.mp e1;subst e1;obtain⟨S2,e3,e⟩:=oBq.mp e;obtain⟨cap,e4,e⟩:=oBq.mp e;rcases pJ e with ⟨hl,e⟩|e
 .obtain ⟨avs,e5,e⟩:=oMq.mp e;cases e;obtain⟨p,qs,s1,s2,h1,h2,h3,h4,h5,h6⟩:=R.owl e2;refine⟨_,s1,p,_,rfl,h1,λob=>?_⟩
  have hn:∀q∈p::qs,Hf q=none:=λq hq=>(R.mem (qv s2 hq)).2
  have pq:=(aA.mp h5).1;have R1:=(R.kill i).frz (F:=qs) (λq hq=>h6 q (mCo _ hq)) λq hq=>hn q (mCo _ hq)
  have R2:=R1.fix (p:=p) (o:=.frz ob (.dK (bB (λx q=>(x.1,V.ref q)) kvs qs))) (h6 p (aj ..)).2 (by rw[tJ pq];exact h2) (h6 p (aj ..)).1
  obtain⟨Hf3,Fs3,t3,R3⟩:=R2.fzAll e3;have hp3:Hf3 p=some (.frz ob (.dK (bB (λx q=>(x.1,V.ref q)) kvs qs))):=t3.sf _ _ oW
  have sf1:qk Hf (qH (frz Hf H qs) p (.frz ob (.dK (bB (λx q=>(x.1,V.ref q)) kvs qs)))):=λb u eb=>by
   rw[oQ λz=>by rw[z,h2]at eb;cases eb]
   exact rA (H:=H) (λq hq=>hn q (mCo _ hq)) b u eb
  have hz:(bB (λ(x:oS×List Int) q=>(x.1,V.ref q)) kvs qs).length=kvs.length:=by rw[gG,←h3,jQ]
  have hlen:(kvs.map λx=>D.list (x.2.map .int)).length=kvs.length:=lMq ..
  refine zM (K:=K) hf he R3 e4 hl e5 (λi H s hi=>⟨s _ _ hp3,_,gEg (by rw[hz,←hlen];exact hi)⟩) (λH s=>⟨s _ _ hp3,by rw[hz,hlen];exact ai _⟩) (λn H' x H'' s hi y=>?_) λHf' H' v F t R' r o=>q _ _ _ v F ((sf1.trans t3.sf).trans t.sf) R' r o.nd λq hq=>⟨o.fr q hq,o.out q hq⟩
  obtain⟨y1,⟨k,w⟩,y2,y3⟩:=y;rw[cQ]at y2;rw[hlen]at hi;rw[gEg hi,gEg (h3 ▸ hi)]at y2;cases y2;refine⟨y1,_,by rw[gMq,gEg hi];rfl,?_⟩
  have g:=(h4 n _ _ (gEg (h3 ▸ hi)) (gEg hi)).1;have m:qs[n]'(h3 ▸ hi)∈qs:=gRq _;rw[y3];have hne:qs[n]'(h3 ▸ hi)≠p:=λz=>pq (by rw[←z];exact m)
  have g':=t3.sf (qs[n]'(h3 ▸ hi)) _ (((oQ hne).trans (za m)).trans g);exact rD.mk_list g' (tM _)
 .cases e
end
theorem Tp(j:Nat) (k:MK) (S:AS):Oq j k S=(rE S j).bind λavs=>(k (S.set j none)).bind λx=>match x.1 with
 | .ow bvs=>wm (x.2[j]?=some none/\avs.length+bvs.length<=rG) (some (.ow (avs++bvs),x.2))
 |_=>none:=rfl
theorem Vx(i:Nat) (S:AS):Tt i S=(vo S i).map λkvs=>(kvs.map λx=>.list (x.2.map .int),S.set i none):=rfl
theorem Vi(i:Nat) (b x:ME) (S:AS):T3 i b x S=(vo S i).bind λ_=>(b S).bind λy=>(vp y.1).bind λk=>(vo y.2 i).bind λkvs=>wm (kvs.length<rG) ((x (y.2.set i (some (.owl (Fh kvs k))))).bind λz=>(intOf z.1).bind λn=>(vo z.2 i).bind λls=>wm (∀l∈ls,l.2.length<rG) (some (.nx (z.2.set i (some (.owl (vM ls k n))))))):=rfl
end Z
namespace Ms
open PySem
def Up(xs:Array Nat):Prop:=∀a b u v:Nat,xs[a]?=some u->xs[b]?=some v->a<b->u<v
theorem Up.list{xs:Array Nat}(h:xs.toList.Pairwise (· < ·)):Up xs:=λa b u v ha hb hl=>by
 rw[←ax]at ha hb;obtain⟨la,ea⟩:=gSq.mp ha;obtain⟨lb,eb⟩:=gSq.mp hb;have:=bW.mp h a b la lb hl;rw[ea,eb]at this;exact this
theorem Up.pw{xs:Array Nat}(h:Up xs):xs.toList.Pairwise (· < ·):=bW.mpr λa b la lb hl=>h a b _ _ (by rw[←ax];exact gEg la) (by rw[←ax];exact gEg lb) hl
theorem CV{xs:Array Nat}{j:Nat}(hs:Up xs):∀(fuel lo hi:Nat),hi-lo<=fuel->lo<=hi->hi<=xs.size->(∀k v,xs[k]?=some v->k<lo->v<j)->(∀k v,xs[k]?=some v->hi<=k->j<=v) ->
  ∃i,SetTable.below.go xs j fuel lo hi=i/\i<=xs.size/\(∀k v,xs[k]?=some v->k<i->v<j)/\∀k v,xs[k]?=some v->i<=k->j<=v
 |0,lo,hi,hf,hl,hh,h1,h2=>⟨lo,by rw[SetTable.below.go],by lia,h1,λk v e hk=>h2 k v e (by lia)⟩
 |fuel+1,lo,hi,hf,hl,hh,h1,h2=>by
  rw[SetTable.below.go]
  by_cases c:lo<hi
  .rw [pe c];have hm:(lo+hi) / 2<xs.size:=by lia
   have em:xs[(lo+hi) / 2]?=some (xs[(lo+hi) / 2]'hm):=af hm;have eg:xs.getD ((lo+hi) / 2) j=xs[(lo+hi) / 2]'hm:=by simp[fQ,hm]
   show ∃i,(if xs.getD ((lo+hi) / 2) j<j then SetTable.below.go xs j fuel ((lo+hi) / 2+1) hi else SetTable.below.go xs j fuel lo ((lo+hi) / 2))=i/\_
   rw[eg]
   by_cases d:xs[(lo+hi) / 2]'hm<j
   .rw [pe d];refine CV hs fuel _ _ (by lia) (by lia) hh (λk v e hk=>?_) h2
    by_cases q:k=(lo+hi) / 2
    .subst q;rw[em]at e;cases e;exact d
    .exact fD (hs _ _ _ _ e em (by lia)) d
   .rw [pD d];refine CV hs fuel _ _ (by lia) (by lia) (by lia) h1 λk v e hk=>?_
    by_cases q:k=(lo+hi) / 2
    .subst q;rw[em]at e;cases e;lia
    .have:=hs _ _ _ _ em e (by lia)
     lia
  .rw [pD c];exact⟨lo,rfl,by lia,h1,λk v e hk=>h2 k v e (by lia)⟩
theorem Bj{xs:Array Nat}(hs:Up xs) (j:Nat):SetTable.below xs j<=xs.size/\(∀k v,xs[k]?=some v->k<SetTable.below xs j->v<j)/\∀k v,xs[k]?=some v->SetTable.below xs j<=k->j<=v:=by
 obtain⟨i,e,h1,h2,h3⟩:=CV (j:=j) hs xs.size 0 xs.size (by lia) (bg _) (ai _) (λk v _ hk=>absurd hk (cK _)) (λk v e hk=>by
  have:=(aY.mp e).1;lia)
 have:SetTable.below xs j=i:=e;rw[this];exact⟨h1,h2,h3⟩
theorem Je{xs:Array Nat}(hs:Up xs) {i v:Nat}(h:xs[i]?=some v):SetTable.below xs (v+1)=i+1:=by
 obtain⟨h1,h2,h3⟩:=Bj hs (v+1);generalize SetTable.below xs (v+1)=b at h1 h2 h3;have hi:=(aY.mp h).1
 by_cases c:b<=i
 .have:=h3 i v h c;lia
 .by_cases d:i+1<b
  .have hb:i+1<xs.size:=by lia
   have e:=af hb;have a:=h2 _ _ e d;have:=hs _ _ _ _ h e (dw i);lia
  .lia
theorem Jh{xs:Array Nat}(hs:Up xs):SetTable.below xs 0=0:=by
 obtain⟨h1,h2,h3⟩:=Bj hs 0;generalize SetTable.below xs 0=b at h1 h2 h3
 by_cases c:b=0
 .exact c
 .have hb:0<xs.size:=by lia
  have:=h2 0 _ (af hb) (by lia)
  lia
theorem Ks{xs:Array Nat}(hs:Up xs) {j:Nat}(hn:∀k:Nat,xs[k]? ≠ some j):Up (SetTable.insertAt xs (SetTable.below xs j) j):=by
 refine Up.list ?_;rw[SetTable.toList_insertAt];obtain⟨h1,h2,h3⟩:=Bj hs j;generalize SetTable.below xs j=b at h1 h2 h3;have hp:=hs.pw;rw[aV];refine⟨hp.sublist (bK _ _),gJ.mpr ⟨λv hv=>?_,hp.sublist (bY _ _)⟩,λu hu v hv=>?_⟩
 .obtain ⟨k,hk⟩:=aH.mp hv;rw[cT,ax]at hk;have a:=h3 _ v hk (by lia)
  have:v≠j:=λz=>hn _ (z ▸ hk)
  lia
 .obtain ⟨k,hk⟩:=aH.mp hu;rw[jb]at hk;split at hk
  .rename_i q;rw[ax]at hk;have a:=h2 k u hk q;rcases ag.mp hv with z|z
   .rw [z];exact a
   .obtain ⟨k2,hk2⟩:=aH.mp z;rw[cT,ax]at hk2;exact hs _ _ _ _ hk hk2 (by lia)
  .cases hk
theorem Uu:Up #[]:=λa b u v h=>by simp at h
theorem Pp(n:Nat):Up (Array.range n):=λa b u v ha hb hl=>by
 rw[Array.getElem?_range]at ha hb;split at ha <;> split at hb
 .cases ha;cases hb;exact hl
 .cases hb
 .cases ha
 .cases ha
structure Tb (led:Bool) (t:SetTable):Prop where
 up:Up t.place
 dm:t.dummies=#[]
 led:t.led=led
theorem Tb.fresh(led:Bool):Tb led (.fresh 0 0 led):=⟨Uu,rfl,rfl⟩
theorem Tb.standIn{led:Bool}{t:SetTable}(h:Tb led t) (n:Nat):Tb led (t.standIn n):=⟨Pp n,rfl,h.led⟩
theorem Tb.orStandIn{led:Bool}{t:SetTable}(h:Tb led t) (n:Nat):Tb led (t.orStandIn n):=by
 unfold SetTable.orStandIn;split
 .exact h
 .exact h.standIn n
theorem Tb.plain{led:Bool}{t:SetTable}(h:Tb led t) (b:Bool):Tb led { t with plain:=b }:=⟨h.up,h.dm,h.led⟩
theorem Dp{t:SetTable}(hd:t.dummies=#[]) {h:Int}:∀(fuel:Nat) (p:SetTable.Probe) (m:SetTable.Met),p.dummy=none->SetTable.probe.go t (λ_=>h+1) h fuel p=some m->∃j,m = .empty j none/\t.slot j = .empty
 |0,p,m,_,e=>by rw[SetTable.probe.go]at e;cases e
 |fuel+1,p,m,hp,e=>by
  rw[SetTable.probe.go]at e;have adv:(t.advance p).dummy=none:=by
   unfold SetTable.advance;split <;> exact hp
  cases hs:t.slot p.j with
  |empty =>
   rw[hs]at e;cases e;exact⟨p.j,by rw[hp],hs⟩
  |dummy =>
   exfalso;unfold SetTable.slot at hs;simp only at hs;split at hs
   .cases hs
   .split at hs
    .rename_i q;unfold SetTable.has at q;rw[hd]at q;simp at q
    .cases hs
  |live i =>
   rw[hs]at e;have:((h+1:Int) == h)=false:=by
    rw[beq_eq_false_iff_ne];lia
   simp only[this,cU,if_false]at e;exact Dp hd fuel _ m adv e
theorem K0{t:SetTable}(hs:Up t.place) {j:Nat}(h:t.slot j = .empty):∀k:Nat,t.place[k]? ≠ some j:=by
 intro k hk;obtain⟨h1,h2,h3⟩:=Bj hs j;unfold SetTable.slot at h;simp only at h;have hi:=(aY.mp hk).1;have e:k=SetTable.below t.place j:=by
  rcases gO k (SetTable.below t.place j) with c|c|c
  .have:=h2 k j hk c;lia
  .exact c
  .have hb:=af (fD c hi);have a:=h3 _ _ hb (ai _);have:=hs _ _ _ _ hb hk c;lia
 rw[←e,hk]at h;simp at h
theorem SB{led:Bool}{t:SetTable}(h:Tb led t) (es:Array (Int×Value)) (hh:Int) (x:Value):Tb led (layNew t es hh x).2.1:=by
 unfold layNew;split
 .rename_i slot wd e;refine Tb.orStandIn ?_ _;unfold SetTable.freeSlot at e;split at e
  .rename_i j d em;obtain⟨j',e1,e2⟩:=Dp h.dm _ _ _ rfl em;cases e1;cases e;have hf:=K0 h.up e2;refine⟨Ks h.up hf,?_,h.led⟩;show (if SetTable.has t.dummies j then SetTable.eraseAt t.dummies (SetTable.below t.dummies j) else t.dummies)=#[]
   rw[h.dm];have:SetTable.has #[] j=false:=by simp[SetTable.has]
   rw[this];rfl
  .cases e
 .exact h.standIn _
theorem NG{led:Bool}{t:SetTable}(h:Tb led t) (es:Array (Int×Value)) (n:Nat):Tb led (nR t es n).2.1:=by
 unfold nR;split
 .rename_i t' order e;dsimp only;split
  .unfold SetTable.relaid SetTable.laid at e;obtain⟨ow,e1,e2⟩:=oBq.mp e;cases e2;refine⟨Up.list ?_,rfl,h.led⟩;show (((bq _).filterMap λj=>(ow.getD j none).map λx=>(j,x)).map (·.1)).Pairwise (· < ·)
   rw[bz,List.pairwise_filterMap];refine cg.imp ?_ fU;intro a b hab x hx y hy;obtain⟨_,_,rfl⟩:=oMq.mp hx;obtain⟨_,_,rfl⟩:=oMq.mp hy;exact hab
  .exact h.standIn _
 .exact h.standIn _
end Ms
namespace Ms
open PySem PyProof.Rows Mr
def SI(prog:kq) (w:kr) (h:Heap) (a:Addr) (F:List Int):Prop :=
 ∃o es ep t,h.get? a=some o/\o.ExactSet/\o.data = .set es ep t/\ElemsOf (lK prog w) es.toList/\(∀e∈es.toList,∃k u,e.2 = .int k u)/\(es.toList.map λe=>Mr.intOf e.2).Perm F/\es.size<lB/\t.fits es.size=true/\Tb (!w.params.followText "set-order") t
def xE(F:List Int) (k:Int):List Int:=if k∈F then F else F++[k]
section
variable {prog:kq}{w:kr}{A:Around}{E:Value->Shared->Prop}{s:Shared}
theorem SI.keep{h h':Heap}{a:Addr}{F:List Int}(x:SI prog w h a F) (k:∀o,h.get? a=some o->h'.get? a=some o):SI prog w h' a F:=by
 obtain⟨o,es,ep,t,ho,r⟩:=x;exact⟨o,es,ep,t,k o ho,r⟩
theorem Gn{h:Heap}{a:Addr}{o:Obj}{es:Array (Int×Value)}{ep:Nat}{t:SetTable}(ho:h.get? a=some o) (hd:o.data = .set es ep t) (es':Array (Int×Value)) (t':SetTable) :
  (h.update a (Obj.putSet es' t')).get? a=some { o with data:=.set es' (ep+1) t' }:=by
 have:=dE (Obj.putSet es' t') ho (by rw[putSet_of es' t' hd];rfl)
 rw[putSet_of es' t' hd]at this;exact this
theorem SG{a:Addr}{F:List Int}{k:Int}{u:Tok}{Q:Bool->Shared->Prop}(hS:SI prog w s.heap a F) (hroom:F.length+1<lB)
  (h:∀b h',bL a s.heap h'->SI prog w h' a (xE F k)->Q b { s with heap:=h' }) :
  kf (ki prog w) A (setAddHashed a (.int k u) ((lK prog w).hash k)) Q E s:=by
 obtain⟨o,es,ep,t,ho,hex,hd,hel,hin,hp,hb,hf,hT⟩:=hS;have hkey:=Zc prog w k u;have hsz:es.size=F.length:=by
  have:=hp.length_eq
  rwa [lMq,au]at this
 have his:∀e∈es.toList,(lK prog w).is k e.2=true->Mr.intOf e.2=k:=λe he hk=>by
  obtain⟨m,v,ev⟩:=hin e he;rw[ev]at hk ⊢;exact(lK prog w).inj _ _ _ (Zc prog w m v) hk
 unfold setAddHashed setAddHashedIn;refine kA (jY (kL ho hd hf ?_));dsimp only;rw[byScan_of (knd:=lK prog w) rfl hb hel];simp only[↓reduceIte];unfold setAddByScan;refine jY ?_;refine jY (mz ?_);refine jY (wpAny_setScan_of hkey ho hd hf hel ?_);cases hr:iX (λe=>(lK prog w).is k e.2) es.toList with
 |some j =>
  dsimp only;obtain⟨hj,hpj,_⟩:=List.findIdx?_eq_some_iff_getElem.mp hr;have hm:k∈F:=hp.mem_iff.mp (mMq.mpr ⟨_,gRq hj,his _ (gRq hj) hpj⟩);refine jZ (jZ ?_);have e:s={ s with heap:=s.heap }:=by cases s;rfl
  rw[e];refine h _ s.heap (bL.refl a s.heap) ?_;unfold xE;rw[pe hm];exact⟨o,es,ep,t,ho,hex,hd,hel,hin,hp,hb,hf,hT⟩
 |none =>
  dsimp only;have hm:k∉F:=λz=>by
   obtain⟨e,he,ek⟩:=mMq.mp (hp.mem_iff.mpr z);have:=gU.mp hr e he;obtain⟨m,v,ev⟩:=hin e he;rw[ev]at ek this;have ek':m=k:=ek;rw[ek',Zc]at this;cases this
  have hgw:∀(b:Bool) {z:Shared}{Q':Unit->Shared->Prop},Q' () z->kf (ki prog w) A (match b with|true=>rule "set.scan.the-table-gave-way" |false=>pure ()) Q' E z:=λb z Q' hq=>by cases b <;> first|exact jZ hq|exact mz hq
  have hperm:=layNew_perm t es ((lK prog w).hash k) (.int k u);have hfits:=layNew_fits t es ((lK prog w).hash k) (.int k u);have hT1:=SB hT es ((lK prog w).hash k) (.int k u);generalize hL:layNew t es ((lK prog w).hash k) (.int k u)=L at hperm hfits hT1 ⊢;obtain⟨es1,t1,wasDummy,gave⟩:=L;dsimp only at hperm hfits hT1 ⊢;rw[cA]at hperm;have hel1:ElemsOf (lK prog w) es1.toList:=(hel.push hkey rfl).perm hperm;have hin1:∀e∈es1.toList,∃k u,e.2 = .int k u:=λe he=>by
   rcases mAq.mp (hperm.mem_iff.mp he) with z|z
   .exact hin e z
   .rw [mSq.mp z];exact⟨k,u,rfl⟩
  have hp1:(es1.toList.map λe=>Mr.intOf e.2).Perm (xE F k):=by
   unfold xE;rw[pD hm];refine(hperm.map _).trans ?_;rw[mBq];exact hp.append_right _
  have hz1:es1.size=es.size+1:=by
   have:=hperm.length_eq
   rwa [lAq,au,au]at this
  have hb1:es1.size<lB:=by rw[hz1,hsz];exact hroom
  refine jY (hgw _ ?_);have fin:∀{t2:SetTable},t2.fits es1.size=true->Tb (!w.params.followText "set-order") t2->∀{R:Option Bool->Shared->Prop},(∀h',bL a s.heap h'->SI prog w h' a (xE F k)->R (some true) { s with heap:=h' }) ->
    kf (ki prog w) A (do
     storeSet a es1 t2
     if (!wasDummy && t2.tooFull)=true then do
       (match (nR t2 es1 (SetTable.grown es1.size)).2.2 with|true=>rule "set.scan.the-table-gave-way" |false=>pure ())
       storeSet a (nR t2 es1 (SetTable.grown es1.size)).1 (nR t2 es1 (SetTable.grown es1.size)).2.1
       pure (some true)
      else pure (some true)) R E s:=by
   intro t2 hf2 hT2 R hR;refine jY (wpAny_storeSet_of ho hd ?_ (nL hb1));have g1:=Gn ho hd es1 t2;have sb1:=bL.update s.heap a (Obj.putSet es1 t2);split
   .have q1:=relayAll_perm t2 es1 (SetTable.grown es1.size);have q2:=relayAll_fits t2 es1 (SetTable.grown es1.size);have q3:=NG hT2 es1 (SetTable.grown es1.size);generalize nR t2 es1 (SetTable.grown es1.size)=V at q1 q2 q3 ⊢;obtain⟨es2,t3,gv⟩:=V;dsimp only at q1 q2 q3 ⊢;have hz2:es2.size=es1.size:=by
     have:=q1.length_eq
     rwa [au,au]at this
    refine jY (hgw _ ?_);refine jY (wpAny_storeSet_of g1 rfl ?_ (nL (by rw[hz2];exact hb1)))
    have g2:=Gn g1 rfl es2 t3;exact jZ (hR _ (sb1.trans (bL.update _ a _)) ⟨_,es2,_,t3,g2,hex,rfl,hel1.perm q1,λe he=>hin1 e (q1.mem_iff.mp he),(q1.map _).trans hp1,by rw[hz2];exact hb1,q2,q3⟩)
   .exact jZ (hR _ sb1 ⟨_,es1,_,t2,g1,hex,rfl,hel1,hin1,hp1,hb1,hf2,hT2⟩)
  split
  .refine jY ?_;rw[hashByValue_scannable 8 (x:=.int k u) rfl];refine jZ ?_;refine fin ?_ ?_ λh' sb hS'=>?_
   .split
    .exact hfits
    .exact SetTable.fits_plain_off hfits
   .split
    .exact hT1
    .exact hT1.plain false
   .dsimp only;exact jZ (h _ h' sb hS')
  .refine jY (jZ ?_);simp only[↓reduceIte];refine fin hfits hT1 λh' sb hS'=>?_
   dsimp only;exact jZ (h _ h' sb hS')
end
def dd(ns:List Int):List Int:=ns.foldl xE []
theorem Ke(ns:List Int) (k:Int):dd (ns++[k])=xE (dd ns) k:=by
 unfold dd;rw[gS];rfl
theorem NT(F:List Int) (k:Int):(xE F k).length<=F.length+1:=by
 unfold xE;split
 .lia
 .simp
theorem Pa{F:List Int}{k x:Int}:x∈xE F k↔x∈F∨x=k:=by
 unfold xE;split
 .rename_i h;exact⟨.inl,λq=>q.elim id λq=>q ▸ h⟩
 .simp
theorem QT{F:List Int}{k:Int}(h:F.Nodup):(xE F k).Nodup:=by
 unfold xE;split
 .exact h
 .rename_i q;rw[nAq];exact⟨h,by simp,λx hx y hy z=>q (by rw[mSq.mp hy]at z;rw[←z];exact hx)⟩
theorem AU:∀(ns F:List Int),(ns.foldl xE F).length<=F.length+ns.length/\(∀x,x∈ns.foldl xE F↔x∈F∨x∈ns)/\(F.Nodup->(ns.foldl xE F).Nodup)
 | [],F=>⟨by simp,by simp,λh=>h⟩
 |n::ns,F=>by
  obtain⟨h1,h2,h3⟩:=AU ns (xE F n);have:=NT F n;rw[cj,lCq];refine⟨by lia,λx=>?_,λh=>h3 (QT h)⟩
  rw[h2 x,Pa,ag,or_assoc]
theorem Ai(ns:List Int):(dd ns).length<=ns.length:=by
 have:=(AU ns []).1;simpa [dd] using this
theorem Br{ns:List Int}{x:Int}:x∈dd ns↔x∈ns:=by
 have:=(AU ns []).2.1 x;simpa [dd] using this
theorem Hr(ns:List Int):(dd ns).Nodup:=(AU ns []).2.2 bp
section
variable {prog:kq}{w:kr}{A:Around}{E:Value->Shared->Prop}{s:Shared}{R:Y9->Shared->Prop}{l I S:Addr}{vs:List Value}{ns:List Int}
theorem MY(hh:A.handled=none) (hi:kH vs ns) (hlI:l≠I) (hSI:S≠I) (hSl:S≠l) (hb:ns.length+1<lB):∀(k j:Nat) (z:Shared),vs.length-j=k->j<=vs.length->z.heap.IsListIter I l j->z.heap.IsList l vs.toArray->SI prog w z.heap S (dd (ns.take j)) ->
  (∀h' tk,SI prog w h' S (dd ns)->(∀b o,b≠I->b≠S->z.heap.get? b=some o->h'.get? b=some o)->R (.ok (.ret .none)) { z with heap:=h',toks:=tk }) ->
  lO (ki prog w) A (.builtin "set.update.loop" ⟨[.ref S,.ref I],[]⟩) R z:=by
 have W:=Walks.list (prog:=prog) (w:=w) (A:=A.in1) hh I l hlI vs.toArray;have vl:vs.toArray.size=vs.length:=aB ..;have hln:=hi.length;intro k
 induction k with
 |zero =>
  intro j z hk hj hst hL hS hR;have hjn:j=vs.toArray.size:=by rw[vl];lia
  refine kE PyProof.Rows.F.entry_set_update_loop ?_;rw[Around.under_plainId PyProof.Rows.F.plain_set_update_loop _];show kf _ A.in1 (kT (.ref I) >>= _) _ _ z;refine jY (W.done z _ _ ⟨hjn ▸ hst,hL⟩ λh' tk kp=>?_)
  show kf _ A.in1 (ret fP) _ _ _;refine jZ (hR h' tk ?_ λb o nI _ e=>kp b o (by simpa using nI) e)
  rw[bE (by lia)]at hS
  exact hS.keep λo e=>kp S o (by simpa using hSI) e
 |succ k ih =>
  intro j z hk hj hst hL hS hR;have hlt:j<vs.toArray.size:=by rw[vl];lia
  refine kE PyProof.Rows.F.entry_set_update_loop ?_;rw[Around.under_plainId PyProof.Rows.F.plain_set_update_loop _];show kf _ A.in1 (kT (.ref I) >>= _) _ _ z;refine jY (W.item j z _ _ hlt ⟨hst,hL⟩ λv h' tk hP DI kp=>?_)
  obtain⟨n,hn⟩:∃n,ns[j]?=some n:=⟨_,gEg (by lia)⟩
  obtain⟨u,hu⟩:=hi.get j n hn;have hv:vs[j]?=some v:=by simpa using hP
  rw[hu]at hv;cases hv;have hS':SI prog w h' S (dd (ns.take j)):=hS.keep λo e=>kp S o (by simpa using hSI) e
  show kf _ A.in1 (Zr [fK n u] (setAdd S (.int n u)) >>= _) _ _ _;refine jY (kA ?_);unfold setAdd;refine kA ?_;refine jY ((lK prog w).pyHash (k:=n) (Zc _ _ _ _) ?_);have hrm:(dd (ns.take j)).length+1<lB:=by
   have a:=Ai (ns.take j);rw[lTq]at a;lia
  refine SG hS' hrm λb h2 sb hS2=>?_
  have ht:ns.take (j+1)=ns.take j++[n]:=by rw[bZ,hn];rfl
  rw[←Ke,←ht]at hS2;refine jZ ⟨kP PyProof.Rows.F.plain_set_update_loop _,ih (j+1) _ (by lia) (by lia) (DI.1.extBut sb.extBut (Ne.symm hSI)) (DI.2.extBut sb.extBut (Ne.symm hSl)) hS2 λh3 tk3 hS3 kp3=>?_⟩
  exact hR h3 tk3 hS3 λb o nI nS e=>kp3 b o nI nS (sb.extBut b o nS (kp b o (by simpa using nI) e))
theorem Ou(a:Value) {Q1:Value->Shared->Prop}
  (h:Q1 (.ref s.heap.objs.size) { s with heap:=s.heap.push { cls:=.type "set", dict:=none,data:=.set #[] 0 (.fresh 0 0 (!w.params.followText "set-order")) } }) :
  lO (ki prog w) A (.call (.builtin "set.__new__") ⟨[.type "set", a],[]⟩) (wants Q1 E) s:=by
 refine codeAny_of_tree ?_;show kf _ A.in1 (do checkBuiltinCall "set.__new__" ⟨[.type "set", a],[]⟩;again (.builtin "set.__new__" ⟨[.type "set", a],[]⟩)) _ _ s
 refine jY (Zt (PySem.F.newCall_set_1 a) (jZ ⟨kP iE _,kE PySem.F.entry_set_new ?_⟩));rw[Around.under_plainId iE _];unfold Builtin.«set.__new__» Builtin.Frozenset.newClass;have hsub:=sub_set_self;obtain⟨hp,g,d,tk,os⟩:=s;dsimp only
 wp_walk
 refine nQ (jZ ?_);dsimp only;simp only[newObj];refine jY (wpAny_alloc (jZ ?_));exact jZ h
theorem SI.fresh{h:Heap}{a:Addr}(ho:h.get? a=some { cls:=.type "set", dict:=none,data:=.set #[] 0 (.fresh 0 0 (!w.params.followText "set-order")) }):SI prog w h a [] :=
 ⟨_,#[],0,_,ho,⟨rfl,rfl,rfl⟩,rfl,λe he=>by simp at he,λe he=>by simp at he,.refl _,by unfold lB;decide,rfl,Tb.fresh _⟩
theorem Ot{Q:Value->Shared->Prop}(hh:A.handled=none) (hl:s.heap.IsList l vs.toArray) (hi:kH vs ns) (hb:ns.length+1<lB)
  (h:∀(h':Heap) (tk:Nat),SI prog w h' s.heap.objs.size (dd ns)->(∀b o,s.heap.get? b=some o->h'.get? b=some o)->Q (.ref s.heap.objs.size) { s with heap:=h',toks:=tk }) :
  kf (ki prog w) A (call (.type "set") [.ref l]) Q E s:=by
 obtain⟨c,tl,hmro⟩:=cE.mro;have hmade:=cE.made;have hsub:=cE.sub;refine wpAny_call (codeAny_of_tree ?_);show kf _ _ (callAny (.type "set") _) _ _ _;refine jZ ⟨Code.quiet_builtin _ (by decide +kernel),kE PySem.F.entry_type_call ?_⟩
 rw[Around.under_plain (weight_type_call_type "set" [.ref l] []) rfl];have h1:=cE.notType;have h2:=cE.canCreate;have hct:=PySem.F.typeCall_set_1 (.ref l)
 repeat (any_goals (first|assumption|wp_step))
 generalize hg1:s.heap.push { cls:=.type "set", dict:=none,data:=.set #[] 0 (.fresh 0 0 (!w.params.followText "set-order")) }=g1;have z1:g1.objs.size=s.heap.objs.size+1:=by rw[←hg1];exact fJ ..
 have k1:∀b o,s.heap.get? b=some o->g1.get? b=some o:=λb o e=>by rw[←hg1];exact ae _ e
 have o1:g1.get? s.heap.objs.size=some { cls:=.type "set", dict:=none,data:=.set #[] 0 (.fresh 0 0 (!w.params.followText "set-order")) }:=by rw[←hg1];exact aC _ rfl
 refine ni (Ou (.ref l) (E:=E) (Q1:=λobj z=>obj = .ref s.heap.objs.size/\z={ s with heap:=g1 }) ⟨rfl,by rw[hg1]⟩) λr z hr=>?_
 cases r with
 |error e=>exact hr
 |ok fl =>
  cases fl with
  |ret obj =>
   obtain⟨rfl,rfl⟩:=hr;have hT:Shared.TypeIs { s with heap:=g1 } (.ref s.heap.objs.size) "set" := ⟨_,o1,rfl⟩
   have hli:=cE.init.lookup;have hbi:=cE.init.bind (.ref s.heap.objs.size)
   repeat (any_goals (first|assumption|wp_step))
   refine ni (codeAny_call_builtin (R:=wants (λr y=>r = .none/\∃h' tk,y={ s with heap:=h',toks:=tk }/\SI prog w h' s.heap.objs.size (dd ns)/\∀b o,s.heap.get? b=some o->h'.get? b=some o) E) cE.init.plain PySem.F.entry_set_init (check_set_init_1 hT ?_)) λr2 y hr2=>?_
   .obtain ⟨⟨oc,od,odt,osl⟩,hol,hcl,nl,hdl⟩:=hl;simp only at hcl hdl;subst hcl;subst hdl;have hol1:=k1 l _ hol;have n1:=PySem.F.sub_list_set;have n2:=PySem.F.sub_list_frozenset;have n3:(dG "list" == dG "dict")=false:=by decide
    have hl1:g1.IsList l vs.toArray:=⟨_,hol1,rfl,nl,rfl⟩;unfold Builtin.«set.__init__» noKeywords Builtin.Frozenset.updateFrom;generalize hPI:pyIter=PI
    wp_walk
    subst hPI;refine nJ hl1 ?_;refine jY (Y0 ?_);have hlS:l<s.heap.objs.size:=ak hol;have hh3:A.in1.in1.handled=none:=by simp[hh]
    have lI:l≠g1.objs.size:=by rw[z1];exact ay (bR hlS)
    have sI:s.heap.objs.size≠g1.objs.size:=by rw[z1];exact ay (dw _)
    refine MY (prog:=prog) (w:=w) (vs:=vs) (ns:=ns) hh3 hi lI sI (bM hlS) hb _ 0 _ rfl (bg _) ⟨_,aC _ rfl,rfl,rfl⟩ (hl1.push _) (SI.fresh (ae _ o1)) λh' tk hS kp=>?_
    show kf _ _ _ _ _ _;refine jZ ?_;show kf _ _ (ret fP) _ _ _;refine jZ ⟨rfl,h',tk,rfl,hS,λb o e=>kp b o ?_ ?_ (ae _ (k1 b o e))⟩
    .have:=ak e;rw[z1];exact ay (bR this)
    .exact ay (ak e)
   .cases r2 with
    |error e=>exact hr2
    |ok fl2 =>
     cases fl2 with
     |ret r =>
      obtain⟨rfl,h',tk,rfl,hS',hk'⟩:=hr2
      repeat (any_goals (first|assumption|wp_step))
      exact h _ _ hS' hk'
     |_=>exact hr2.elim
  |_=>exact hr.elim
end
theorem tm:Slot "set_iterator" "__next__" "set_iterator.__next__" :=
 .of (owner := "set_iterator") (n := "__next__") (by rw[mI,kZ];kernel_rfl) (by decide +kernel) (by decide +kernel) (by decide +kernel) (.inl (by decide +kernel)) (by rw[mn];kernel_rfl)
theorem yi:Ze table "set_iterator.__next__" = some Builtin.«set_iterator.__next__»:=entryFor_of_tree (by kernel_rfl)
theorem zz(a:Value):argsOk "set_iterator.__next__" ⟨[a],[]⟩:=by unfold argsOk;kernel_rfl
theorem DU:Slot "set_iterator" "__iter__" "set_iterator.__iter__" :=
 .of (owner := "set_iterator") (n := "__iter__") (by rw[mI,kZ];kernel_rfl) (by decide +kernel) (by decide +kernel) (by decide +kernel) (.inl (by decide +kernel)) (by rw[mn];kernel_rfl)
theorem IY:Ze table "set_iterator.__iter__" = some Builtin.«dict_keyiterator.__iter__»:=Y4 (id' := "dict_keyiterator.__iter__") (by kernel_rfl) rfl (by decide +kernel) (by kernel_rfl)
theorem LN(a:Value):argsOk "set_iterator.__iter__" ⟨[a],[]⟩:=by unfold argsOk;kernel_rfl
theorem IL:Ze table "set.__iter__" = some Builtin.«frozenset.__iter__»:=Y4 (id' := "frozenset.__iter__") (by kernel_rfl) rfl (by decide +kernel) (by kernel_rfl)
def SA(h:Heap) (a:Addr) (es:Array (Int×Value)) (ep:Nat) (t:SetTable):Prop:=∃o,h.get? a=some o/\o.ExactSet/\o.data = .set es ep t
def IA(h:Heap) (I:Addr) (f:Value) (i:Nat) (a:Addr) (n ep:Nat):Prop:=h.get? I=some { cls:=.type "set_iterator", dict:=none,data:=.fields #[f,kC i,.ref a,kC n,kC ep],slots:=#[] }
section
variable {prog:kq}{w:kr}{A:Around}{E:Value->Shared->Prop}{s:Shared}{I a T:Addr}{es:Array (Int×Value)}{ep i n:Nat}{t:SetTable}{f:Value}
theorem IA.type(h:IA s.heap I f i a n ep):s.TypeIs (.ref I) "set_iterator" := ⟨_,h,rfl⟩
theorem IA.self{Q:Value->Shared->Prop}(h:IA s.heap I f i a n ep) (q:Q (.ref I) s):kf (ki prog w) A (pyIter (.ref I)) Q E s:=by
 refine wpAny_pyIter_slot h.type DU (kF DU h.type IY ?_ (LN _));show kf _ _ (ret (.ref I)) _ _ s;exact jZ ⟨_,rfl, "set_iterator", _,h.type,tm.lookup,q⟩
theorem wI{Q:Array (Int×Value)->Shared->Prop}(hS:SA s.heap a es ep t) (hf:t.fits es.size=true) (h:Q es s):kf (ki prog w) A (nt a) Q E s:=by
 obtain⟨o,ho,_,hd⟩:=hS;unfold nt;exact jY (kL ho hd hf (jZ h))
theorem E1{Q:Bool->Shared->Prop}(h:Q (w.params.followText "set-order") s):kf (ki prog w) A setsByText Q E s:=by
 unfold setsByText;exact jY (nQ (jZ h))
theorem LR{sl nx:Nat}{x:Value}{Q:Option Value->Shared->Prop}(hI:IA s.heap I (kC sl) i a n ep) (hS:SA s.heap a es ep t) (hf:t.fits es.size=true) (hn:es.size=n)
  (hx:∀(A':Around) (E':Value->Shared->Prop) (Q':Option (Value×Nat)->Shared->Prop),Q' (some (x,nx)) s->kf (ki prog w) A' (mW a sl i ep) Q' E' s)
  (hQ:∀h',IA h' I (kC nx) (i+1) a n ep->bL I s.heap h'->Q (some x) { s with heap:=h' }):kf (ki prog w) A (kT (.ref I)) Q E s:=by
 unfold kT;refine jY (lH (kK (name:=Str.ofString "__next__") hI.type tm (kF tm hI.type yi ?_ (zz _))));unfold Builtin.«set_iterator.__next__»;refine jY (jZ ?_);refine jY (nC hI rfl ?_);show kf _ _ (nt a >>= _) _ _ s;refine jY (wI hS hf ?_);rw[pD (by rw[hn];simp)]
 show kf _ _ (mW a ((sl:Int)).toNat ((i:Int)).toNat ((ep:Int)).toNat >>= _) _ _ s;rw[br,br,br];refine jY (hx _ _ _ ?_);show kf _ _ (setField (.ref I) 0 (kC nx) >>= _) _ _ s;refine jY (kR hI (by simp) λh1 e1 b1=>?_)
 show kf _ _ (setField (.ref I) 1 (kC ((i:Int)+1)) >>= _) _ _ _;refine jY (kR e1 (by simp) λh2 e2 b2=>?_)
 show kf _ _ (ret x) _ _ _;exact jZ ⟨_,rfl,jZ (hQ h2 (by simpa [IA] using e2) (bL.trans b1 b2))⟩
theorem K4{sl:Nat}{Q:Option Value->Shared->Prop}(hh:A.handled=none) (hI:IA s.heap I (kC sl) i a n ep) (hS:SA s.heap a es ep t) (hf:t.fits es.size=true) (hn:es.size=n)
  (hx:∀(A':Around) (E':Value->Shared->Prop) (Q':Option (Value×Nat)->Shared->Prop),Q' none s->kf (ki prog w) A' (mW a sl i ep) Q' E' s)
  (hQ:∀h',jr I s.heap h'->Q none { s with heap:=h' }):kf (ki prog w) A (kT (.ref I)) Q E s:=by
 unfold kT;refine jY (lH (kK (name:=Str.ofString "__next__") hI.type tm (kF tm hI.type yi ?_ (zz _))));unfold Builtin.«set_iterator.__next__»;refine jY (jZ ?_);refine jY (nC hI rfl ?_);show kf _ _ (nt a >>= _) _ _ s;refine jY (wI hS hf ?_);rw[pD (by rw[hn];simp)]
 show kf _ _ (mW a ((sl:Int)).toNat ((i:Int)).toNat ((ep:Int)).toNat >>= _) _ _ s;rw[br,br,br];refine jY (hx _ _ _ ?_);show kf _ _ (setField (.ref I) 2 .none >>= _) _ _ s;refine jY (kR hI (by simp) λh1 e1 b1=>?_)
 show kf _ _ (newExc (.type "StopIteration") [] >>= _) _ _ _;refine jY ?_;simp only[newExc,newTuple];refine jY (ly ?_ (by size_fits))
 refine jY (m:=nD _ _) (Zt (a:=fP) (by first|rfl|(simp only[nD];rfl)) ?_)
 refine ly ?_ (by size_fits)
 simp only[raiseNew];refine jY (wpAny_handled ?_);rw[show A.in1.handled=none from hh]
 refine jY (jZ (wpAny_throw ?_));refine jY (lD (T := "StopIteration") (b:=true) ⟨_,aC _ rfl,rfl⟩ Y3 ?_);exact jZ (hQ _ ((b1.extBut.push _).push _))
theorem IQ{ps:Array Value}{p:Nat}{u:Tok}{e:Int×Value}{Q:Option Value->Shared->Prop}(hI:IA s.heap I (.ref T) i a n ep) (hS:SA s.heap a es ep t) (hf:t.fits es.size=true) (hn:es.size=n) (hT:s.heap.IsTuple T ps) (hp:ps[i]?=some (.int (p:Int) u)) (he:es[p]?=some e)
  (hQ:∀h',IA h' I (.ref T) (i+1) a n ep->bL I s.heap h'->Q (some e.2) { s with heap:=h' }):kf (ki prog w) A (kT (.ref I)) Q E s:=by
 unfold kT;refine jY (lH (kK (name:=Str.ofString "__next__") hI.type tm (kF tm hI.type yi ?_ (zz _))));unfold Builtin.«set_iterator.__next__»;refine jY (jZ ?_);refine jY (nC hI rfl ?_);show kf _ _ (nt a >>= _) _ _ s;refine jY (wI hS hf ?_);rw[pD (by rw[hn];simp)]
 obtain⟨oT,hoT,hcT,m,hdT⟩:=hT;show kf _ _ (seqItems? (.ref T) >>= _) _ _ s;refine jY (mj hoT hdT ?_);simp only[br,hp];obtain⟨o,ho,_,hd⟩:=hS;refine jY ?_;unfold setNextDrawn;refine jY (kL ho hd hf ?_);simp only[bne_self_eq_false,cU,if_false,br,he];refine jZ ?_;show kf _ _ (setField (.ref I) 1 (kC ((i:Int)+1)) >>= _) _ _ _;refine jY (kR hI (by simp) λh2 e2 b2=>?_)
 exact jZ ⟨_,rfl,jZ (hQ h2 (by simpa [IA] using e2) b2)⟩
theorem Ip{ps:Array Value}{Q:Option Value->Shared->Prop}(hh:A.handled=none) (hI:IA s.heap I (.ref T) i a n ep) (hS:SA s.heap a es ep t) (hf:t.fits es.size=true) (hn:es.size=n) (hT:s.heap.IsTuple T ps) (hp:ps[i]?=none)
  (hQ:∀h',jr I s.heap h'->Q none { s with heap:=h' }):kf (ki prog w) A (kT (.ref I)) Q E s:=by
 unfold kT;refine jY (lH (kK (name:=Str.ofString "__next__") hI.type tm (kF tm hI.type yi ?_ (zz _))));unfold Builtin.«set_iterator.__next__»;refine jY (jZ ?_);refine jY (nC hI rfl ?_);show kf _ _ (nt a >>= _) _ _ s;refine jY (wI hS hf ?_);rw[pD (by rw[hn];simp)]
 obtain⟨oT,hoT,hcT,m,hdT⟩:=hT;show kf _ _ (seqItems? (.ref T) >>= _) _ _ s;refine jY (mj hoT hdT ?_);simp only[br,hp];refine jY (kR hI (by simp) λh0 e0 b0=>?_)
 refine jY (kR e0 (by simp) λh1 e1 b1=>?_)
 show kf _ _ (newExc (.type "StopIteration") [] >>= _) _ _ _;refine jY ?_;simp only[newExc,newTuple];refine jY (ly ?_ (by size_fits))
 refine jY (m:=nD _ _) (Zt (a:=fP) (by first|rfl|(simp only[nD];rfl)) ?_)
 refine ly ?_ (by size_fits)
 simp only[raiseNew];refine jY (wpAny_handled ?_);rw[show A.in1.handled=none from hh]
 refine jY (jZ (wpAny_throw ?_));refine jY (lD (T := "StopIteration") (b:=true) ⟨_,aC _ rfl,rfl⟩ Y3 ?_);exact jZ (hQ _ (((bL.trans b0 b1).extBut.push _).push _))
theorem Al{α:Type}:∀(l:List α) (i:Nat) (h:i<l.length),(l[i]::l.eraseIdx i).Perm l
 |x::l,0,_=>.refl _
 |x::l,i+1,h=>(aW.swap _ _ _).trans (.cons x (Al l i (by simpa using h)))
theorem Km{src:Source}{m:Nat}{Q:Nat->Shared->Prop}(hm:m≠0) (h:∀i d',i<m->Q i { s with drawn:=d' }):kf (ki prog w) A (choose src m) Q E s:=λΓ p hΓ=>by
 show Sem.wp _ _ (Sem.choose src m Sem.pure) _ _ _ _;rw[Sem.wp_choose];exact⟨hm,h _ _ (jA _ (fq hm))⟩
theorem JL{α:Type}:∀(m:Nat) (xs:List α) (s:Shared) (Q:List α->Shared->Prop),m=xs.length->(∀ys d',ys.Perm xs->Q ys { s with drawn:=d' })->kf (ki prog w) A (drawOrder m xs) Q E s
 |0,xs,s,Q,hm,h=>by
  have:xs=[]:=aS.mp hm.symm;subst this;unfold drawOrder;exact jZ (h [] s.drawn (.refl _))
 |m+1,[],s,Q,hm,h=>by cases hm
 |m+1,x::xs,s,Q,hm,h=>by
  unfold drawOrder;refine jY (Km (by simp) λi d' hi=>?_)
  have e:(x::xs)[i]?=some ((x::xs)[i]'hi):=gEg hi;rw[e];refine jY (JL m _ _ _ (by rw[cZ,pe hi];simp at hm ⊢;lia) λys d2 hp=>jZ (h _ _ ?_))
  exact(aW.cons _ hp).trans (Al _ _ hi)
theorem JC{α:Type}(nx:Nat->Nat):∀(m k:Nat) (xs:List α) (out:Array α),m=xs.length->(pickOrder.go nx m k xs out).toList.Perm (out.toList++xs)
 |0,k,xs,out,hm=>by
  have:xs=[]:=aS.mp hm.symm;subst this;rw[pickOrder.go,aNq]
 |m+1,k,xs,out,hm=>by
  have hi:nx k % xs.length<xs.length:=jA _ (by lia)
  rw[pickOrder.go];rw[gEg hi];dsimp only;refine(JC nx m (k+1) _ _ (by rw[cZ,pe hi];lia)).trans ?_
  rw[cA,aq];exact aW.append_left _ (Al _ _ hi)
theorem KI{α:Type}(nx:Nat->Nat) (xs:Array α):(pickOrder nx xs).toList.Perm xs.toList:=by
 have:=JC nx xs.size 0 xs.toList #[] (by rw[au])
 simpa [pickOrder] using this
end
theorem SA.keep{h h':Heap}{a:Addr}{es:Array (Int×Value)}{ep:Nat}{t:SetTable}(x:SA h a es ep t) (k:∀o,h.get? a=some o->h'.get? a=some o):SA h' a es ep t:=by
 obtain⟨o,ho,r⟩:=x;exact⟨o,k o ho,r⟩
section
variable {prog:kq}{w:kr}{A:Around}{E:Value->Shared->Prop}{s:Shared}{I a T:Addr}{es:Array (Int×Value)}{ep:Nat}{t:SetTable}
theorem D8{items:List Value}{sl:Nat->Nat}(hh:A.handled=none) (hIa:a≠I) (hf:t.fits es.size=true) (hn:es.size=items.length)
  (Hn:∀(i:Nat) (A':Around) (E':Value->Shared->Prop) (Q':Option (Value×Nat)->Shared->Prop) (z:Shared),i<=items.length->SA z.heap a es ep t->Q' (items[i]?.map λx=>(x,sl (i+1))) z->kf (ki prog w) A' (mW a (sl i) i ep) Q' E' z) :
  Walks prog w A I [I,a] [I] items.length (λi v=>items[i]?=some v) (λi h=>i<=items.length/\IA h I (kC (sl i)) i a items.length ep/\SA h a es ep t) where
 sub:=λb hb=>by rw[mSq.mp hb];simp
 frame:=λi h h' st k=>⟨st.1,k I (by simp) _ st.2.1,st.2.2.keep λo e=>k a (by simp) o e⟩
 item:=λi s Q E hi st hQ=>by
  have e:=gEg hi;refine LR st.2.1 st.2.2 hf hn (nx:=sl (i+1)) (x:=items[i]) (λA' E' Q' q=>Hn i A' E' Q' s st.1 st.2.2 (by rw[e];exact q)) λh' ih sb=>?_
  exact hQ _ h' s.toks e ⟨hi,ih,st.2.2.keep λo q=>sb.extBut a o hIa q⟩ λb o hb q=>sb.extBut b o (by simpa using hb) q
 done:=λs Q E st hQ=>by
  have e:items[items.length]?=none:=bO (ai _);exact K4 hh st.2.1 st.2.2 hf hn (λA' E' Q' q=>Hn _ A' E' Q' s st.1 st.2.2 (by rw[e];exact q)) λh' eb=>hQ h' s.toks λb o hb q=>eb b o (by simpa using hb) q
 self:=λi s Q E st hQ=>st.2.1.self hQ
theorem Iu{items:List Value}{ps:List Nat}(hh:A.handled=none) (hIa:a≠I) (hIT:T≠I) (hf:t.fits es.size=true) (hn:es.size=items.length) (hl:ps.length=items.length) (hp:∀i p:Nat,ps[i]?=some p->∃e:Int×Value,es[p]?=some e/\items[i]?=some e.2) :
  Walks prog w A I [I,a,T] [I] items.length (λi v=>items[i]?=some v) (λi h=>i<=items.length/\IA h I (.ref T) i a items.length ep/\SA h a es ep t/\h.IsTuple T (ps.map λp:Nat=>kC p).toArray) where
 sub:=λb hb=>by rw[mSq.mp hb];simp
 frame:=λi h h' st k=>⟨st.1,k I (by simp) _ st.2.1,st.2.2.1.keep λo e=>k a (by simp) o e,let ⟨o,ho,r⟩:=st.2.2.2;⟨o,k T (by simp) o ho,r⟩⟩
 item:=λi s Q E hi st hQ=>by
  have hi2:i<ps.length:=by rw[hl];exact hi
  have e:=gEg hi2;obtain⟨x,hx,hy⟩:=hp i _ e;refine IQ (u:=0) (p:=ps[i]) (e:=x) st.2.1 st.2.2.1 hf hn st.2.2.2 (by rw[iF,gMq,e];rfl) hx λh' ih sb=>?_
  exact hQ _ h' s.toks hy ⟨hi,ih,st.2.2.1.keep λo q=>sb.extBut a o hIa q,let ⟨o,ho,r⟩:=st.2.2.2;⟨o,sb.extBut T o hIT ho,r⟩⟩ λb o hb q=>sb.extBut b o (by simpa using hb) q
 done:=λs Q E st hQ=>Ip hh st.2.1 st.2.2.1 hf hn st.2.2.2 (by rw[iF];exact bO (by rw[lMq,hl];exact ai _)) λh' eb=>hQ h' s.toks λb o hb q=>eb b o (by simpa using hb) q
 self:=λi s Q E st hQ=>st.2.1.self hQ
def RT(t:SetTable) (i:Nat):Nat:=if i=0 then 0 else t.place.getD (i-1) 0+1
theorem KH(hu:Up t.place) {i:Nat}(hi:i<=t.place.size):SetTable.below t.place (RT t i)=i:=by
 unfold RT
 by_cases c:i=0
 .rw [pe c,c];exact Jh hu
 .rw [pD c];have hl:i-1<t.place.size:=by lia
  have e:=af hl;have eg:t.place.getD (i-1) 0=t.place[i-1]'hl:=by simp[fQ,hl]
  rw[eg,Je hu e];lia
theorem OI(hf:t.fits es.size=true) (hT:Tb true t) (hw:w.params.followText "set-order" = false) (hd:(!t.plain && decide (es.size>1))=false) {i:Nat}(hi:i<=es.size) (hS:SA s.heap a es ep t) {Q:Option (Value×Nat)->Shared->Prop}
  (h:Q ((es[i]?).map λe=>(e.2,RT t (i+1))) s):kf (ki prog w) A (mW a (RT t i) i ep) Q E s:=by
 obtain⟨o,ho,_,hdt⟩:=hS;have hps:t.place.size=es.size:=by
  simp only[SetTable.fits,eR,beq_iff_eq,decide_eq_true_eq]at hf;exact hf.1
 unfold mW;refine jY (kL ho hdt hf ?_);refine jY (E1 ?_);rw[hw];show kf _ _ (if (false:Bool)=true then _ else _) _ _ s
 rw[pD aF];refine lR (λz=>absurd (show (!t.plain && decide (es.size>1))=true from z) (by rw[hd];decide)) (λ_=>?_)
 refine jY ?_;refine lR (λz=>absurd (show (!t.led && !es.isEmpty)=true from z) (by rw[hT.led];simp)) (λ_=>jZ ?_)
 rw[KH hT.up (by rw[hps];exact hi)]
 refine jZ ?_
 by_cases c:i<es.size
 .have e1:=af c;have e2:=af (show i<t.place.size by rw[hps];exact c)
  have e3:RT t (i+1)=t.place[i]'(by rw[hps];exact c)+1:=by
   unfold RT;rw[pD (by lia),jd]
   simp[fQ,show i<t.place.size by rw[hps];exact c]
  rw[e1,e3]at h;rw[e1,e2];exact h
 .have e1:es[i]?=none:=Array.getElem?_eq_none (hW c);rw[e1]at h;rw[e1];exact h
theorem KN(hf:t.fits es.size=true) (hw:w.params.followText "set-order" = true) {i:Nat}(hS:SA s.heap a es ep t) {Q:Option (Value×Nat)->Shared->Prop}
  (h:Q (((pickOrder (w.params.setOrder a ep) es)[i]?).map λe=>(e.2,0)) s):kf (ki prog w) A (mW a 0 i ep) Q E s:=by
 obtain⟨o,ho,_,hdt⟩:=hS;unfold mW;refine jY (kL ho hdt hf ?_);refine jY (E1 ?_);rw[hw];show kf _ _ (if (true:Bool)=true then _ else _) _ _ s
 rw[pe rfl];refine lR (λz=>absurd z (by simp)) (λ_=>?_)
 refine jY ?_;unfold setWalk;refine jY (kL ho hdt hf ?_);refine jY (E1 ?_);rw[hw];show kf _ _ (if (true:Bool)=true then _ else _) _ _ s
 rw[pe rfl];refine jY (nQ ?_);exact jZ (jZ h)
end
theorem Bp{es:List (Int×Value)}{F:List Int}{vs:List Value}(hin:∀e∈es,∃k u,e.2 = .int k u) (hp:(es.map λe=>Mr.intOf e.2).Perm F) (hv:vs.Perm (es.map (·.2))):(∀v∈vs,∃k u,v = .int k u)/\(vs.map Mr.intOf).Perm F:=by
 refine⟨λv hm=>?_,(hv.map _).trans ?_⟩
 .obtain ⟨e,he,rfl⟩:=mMq.mp (hv.mem_iff.mp hm);exact hin e he
 .rw [mPq];exact hp
section
variable {prog:kq}{w:kr}{A:Around}{E:Value->Shared->Prop}{s:Shared}{a:Addr}{F:List Int}
theorem Ow{Q:Value->Shared->Prop}(hS:SI prog w s.heap a F)
  (h:∀(I:Addr) (h1:Heap) (d':Drawn) (fp:List Addr) (vs:List Value) (St:Nat->Heap->Prop),(∀A':Around,A'.handled=none->Walks prog w A' I fp [I] vs.length (λi v=>vs[i]?=some v) St)->St 0 h1->(∀b o,s.heap.get? b=some o->h1.get? b=some o)->s.heap.objs.size<=I->(∀b∈fp,b=a∨s.heap.objs.size<=b) ->
   (∀v∈vs,∃k u,v = .int k u)->(vs.map Mr.intOf).Perm F->Q (.ref I) { s with heap:=h1,drawn:=d' }):kf (ki prog w) A (pyIter (.ref a)) Q E s:=by
 obtain⟨o,es,ep,t,ho,hex,hd,hel,hin,hp,hb,hf,hT⟩:=hS;have hTy:s.TypeIs (.ref a) "set" := ⟨o,ho,hex.1⟩;have hla:a<s.heap.objs.size:=ak ho;have hSA:SA s.heap a es ep t:=⟨o,ho,hex,hd⟩;have fits:es.size<=ko:=nL hb;refine wpAny_pyIter_slot hTy iG (kF iG hTy IL ?_ (PySem.F.args_set_iter_1 _));unfold Builtin.«frozenset.__iter__»;show kf _ _ (Builtin.Frozenset.sizeOf a >>= _) _ _ s;refine jY ?_;unfold Builtin.Frozenset.sizeOf;refine jY (wI hSA hf (jZ ?_));show kf _ _ (setDrawn a >>= _) _ _ s;refine jY ?_;unfold setDrawn;refine jY (kL ho hd hf ?_);refine jY (E1 (jZ ?_));have fin:∀(f:Value) (z:Shared),z.heap.get? a=some o->Q (.ref z.heap.objs.size) { z with heap:=z.heap.push { cls:=.type "set_iterator", data:=.fields #[f,kC (0:Nat),.ref a,kC es.size,kC ep] } } ->
   kf (ki prog w) A.in1 (setEpoch a >>= λe=>newFields "set_iterator" [f,kC 0,.ref a,kC es.size,kC e] >>= λv=>ret v) (λfin z=>∃v,fin = .done (.ret v)/\∃T' r,z.TypeIs v T'/\nq (.type T') "__next__" = pure (some r)/\Q v z) E z:=λf z hz q=>by
  unfold setEpoch;refine jY (jY (kL hz hd hf (jZ ?_)));unfold newFields;exact jY (ly (jZ ⟨_,rfl, "set_iterator", _,⟨_,aC _ rfl,rfl⟩,tm.lookup,q⟩))
 have s0:s={ s with heap:=s.heap,drawn:=s.drawn }:=by cases s;rfl
 cases hw:w.params.followText "set-order" with
 |true =>
  show kf _ _ (if (!true && _)=true then _ else _) _ _ s
  rw[pD (by simp)]
  refine jY (jZ ?_);have hperm:=KI (w.params.setOrder a ep) es;have hl:es.size=((pickOrder (w.params.setOrder a ep) es).toList.map (·.2)).length:=by rw[lMq,hperm.length_eq,au]
  obtain⟨v1,v2⟩:=Bp hin hp (hperm.map (·.2));refine fin (kC 0) s ho ?_;have fpm:∀b∈[s.heap.objs.size,a],b=a∨s.heap.objs.size<=b:=λb hb=>(ag.mp hb).elim (λz=>.inr (eN z.symm)) λz=>.inl (by simpa using z)
  have ia:IA (s.heap.push { cls:=.type "set_iterator", data:=.fields #[kC 0,kC (0:Nat),.ref a,kC es.size,kC ep] }) s.heap.objs.size (kC (0:Nat)) 0 a ((pickOrder (w.params.setOrder a ep) es).toList.map (·.2)).length ep:=by
   rw[←hl];exact aC _ rfl
  refine h _ _ s.drawn [s.heap.objs.size,a] _ _ (λA' hh=>D8 (items:=(pickOrder (w.params.setOrder a ep) es).toList.map (·.2)) (sl:=λ_=>0) hh (ay hla) hf hl λi A2 E2 Q2 z hi hz q=>KN hf hw hz ?_) ⟨bg _,ia,hSA.keep λo e=>ae _ e⟩ (λb o e=>ae _ e) (ai _) fpm v1 v2
  rw[gMq,ax]at q;cases hq:(pickOrder (w.params.setOrder a ep) es)[i]? with
  |none=>rw[hq]at q;exact q
  |some x=>rw[hq]at q;exact q
 |false =>
  have hT':Tb true t:=by rw[hw]at hT;exact hT
  by_cases hdr:(!t.plain && decide (es.size>1))=true
  .show kf _ _ (if (!false && (!t.plain && decide (es.size>1)))=true then _ else _) _ _ s
   rw[pe (by rw[hdr];rfl)]
   refine jY (JL es.size (bq es.size) s _ (by rw[bf]) λys d' hy=>jY ?_)
   have yl:ys.length=es.size:=by rw[hy.length_eq,bf]
   refine Y1 ?_ (by rw[lMq,yl];exact fits)
   generalize hg:s.heap.push { cls:=.type "tuple", data:=.seq (ys.map λi:Nat=>kC i).toArray }=g
   have kg:∀b o,s.heap.get? b=some o->g.get? b=some o:=λb o e=>by rw[←hg];exact ae _ e
   have zg:g.objs.size=s.heap.objs.size+1:=by rw[←hg];exact fJ ..
   have tg:g.IsTuple s.heap.objs.size (ys.map λi:Nat=>kC i).toArray:=by rw[←hg];exact⟨_,aC _ rfl,rfl,_,rfl⟩
   refine fin (.ref s.heap.objs.size) { s with heap:=g,drawn:=d' } (kg a o ho) ?_
   let items:List Value:=ys.filterMap λp=>(es[p]?).map (·.2)
   have ev:ys.map (λp=>(es[p]?).map (·.2))=items.map some:=by
    show _=(ys.filterMap λp=>(es[p]?).map (·.2)).map some
    have:∀l:List Nat,(∀p∈l,p<es.size)->l.map (λp=>(es[p]?).map (·.2))=(l.filterMap λp=>(es[p]?).map (·.2)).map some:=by
     intro l
     induction l with
     |nil=>intro _;rfl
     |cons p l ih =>
      intro hl;have hp:=af (hl p (by simp))
      rw[ao,List.filterMap_cons_some (b:=(es[p]'(hl p (by simp))).2) (by rw[hp];rfl),ao,ih λq hq=>hl q (by simp[hq]),hp]
      rfl
    exact this ys λp hp=>by
     have:=hy.mem_iff.mp hp;exact cC.mp this
   have il:items.length=es.size:=by
    have:=congrArg bD ev;rw[lMq,lMq]at this;rw[←this,yl]
   have ip:items.Perm (es.toList.map (·.2)):=by
    refine(hy.filterMap _).trans ?_;have:=filterMap_getElem?_range es;rw[←this,List.map_filterMap]
   obtain⟨v1,v2⟩:=Bp hin hp ip;have fpm:∀b∈[g.objs.size,a,s.heap.objs.size],b=a∨s.heap.objs.size<=b:=λb hb=>by
    simp only[ag,dX,or_false]at hb;rcases hb with z|z|z
    .rw [z,zg];exact .inr (cu _)
    .exact .inl z
    .rw [z];exact .inr (ai _)
   have ia:IA (g.push { cls:=.type "set_iterator", data:=.fields #[.ref s.heap.objs.size,kC (0:Nat),.ref a,kC es.size,kC ep] }) g.objs.size (.ref s.heap.objs.size) 0 a items.length ep:=by
    rw[il];exact aC _ rfl
   refine h _ _ d' [g.objs.size,a,s.heap.objs.size] items _ (λA' hh=>Iu (ps:=ys) hh (by rw[zg];exact ay (bR hla)) (by rw[zg];exact ay (dw _)) hf il.symm (by rw[yl,il]) λi p e=>?_) ⟨bg _,ia,(hSA.keep λo e=>kg a o e).keep λo e=>ae _ e,let ⟨o,ho,r⟩:=tg;⟨o,ae _ ho,r⟩⟩ (λb o e=>ae _ (kg b o e)) (by rw[zg];exact cu _) fpm v1 v2
   have hpl:p<es.size:=cC.mp (hy.mem_iff.mp (mGq e));have hx:=af hpl;refine⟨_,hx,?_⟩;have:=congrArg (λl:List (Option Value)=>l[i]?) ev
   simp only[gMq,e,cM,hx]at this;cases hq:items[i]? with
   |none=>rw[hq]at this;cases this
   |some y=>rw[hq]at this;exact congrArg some (aJ.inj (aJ.inj this)).symm
  .show kf _ _ (if (!false && (!t.plain && decide (es.size>1)))=true then _ else _) _ _ s
   have hdr':(!t.plain && decide (es.size>1))=false:=by simpa using hdr
   rw[pD (by rw[hdr'];decide)]
   refine jY (jZ ?_);have hl:es.size=(es.toList.map (·.2)).length:=by rw[lMq,au]
   obtain⟨v1,v2⟩:=Bp hin hp (.refl _);refine fin (kC 0) s ho ?_;have fpm:∀b∈[s.heap.objs.size,a],b=a∨s.heap.objs.size<=b:=λb hb=>(ag.mp hb).elim (λz=>.inr (eN z.symm)) λz=>.inl (by simpa using z)
   have ia:IA (s.heap.push { cls:=.type "set_iterator", data:=.fields #[kC 0,kC (0:Nat),.ref a,kC es.size,kC ep] }) s.heap.objs.size (kC (RT t 0)) 0 a (es.toList.map (·.2)).length ep:=by
    rw[←hl];exact aC _ rfl
   refine h _ _ s.drawn [s.heap.objs.size,a] _ _ (λA' hh=>D8 (items:=es.toList.map (·.2)) (sl:=RT t) hh (ay hla) hf hl λi A2 E2 Q2 z hi hz q=>OI hf hT' hw hdr' (by rw[hl];exact hi) hz ?_) ⟨bg _,ia,hSA.keep λo e=>ae _ e⟩ (λb o e=>ae _ e) (ai _) fpm v1 v2
   rw[gMq,ax]at q;cases hq:es[i]? with
   |none=>rw[hq]at q;exact q
   |some x=>rw[hq]at q;exact q
end
end Ms
namespace Ms
open PySem PySem.W PyProof.Rows Mr MrS
section
variable {prog:kq}{w:kr}{A:Around}{E:Value->Shared->Prop}{s:Shared}{a:Addr}{F:List Int}
theorem Md{r:Addr}{Q:Bool->Shared->Prop}(hT:s.TypeIs (.ref r) "set") (h:Q false s):kf (ki prog w) A (Builtin.List.listLengthHint (.ref r)) Q E s:=by
 unfold Builtin.List.listLengthHint;refine jY (wpAny_specialOf hT PySem.F.slot_set_len.lookup ?_);generalize hid:("set.__len__" : String)=id0
 wp_delta
 rw[show splitId id0=some ("set", "__len__") from by subst hid;decide +kernel]
 subst hid;refine jY (lD (T := "set") (b:=true) hT (by rw[mn];kernel_rfl) ?_)
 refine lR (λhab=>absurd hab (by decide)) (λ_=>?_)
 refine lR (λ_=>?_) (λhab=>absurd (by decide +kernel) hab)
 refine jY (mq hT ?_);exact jZ h
theorem Q8{R:Y9->Shared->Prop}{S:Addr}{res:Value}{c0:Nat}(hh:A.handled=none) (hSI:SI prog w s.heap a F) (hSa:S≠a) (hS:s.heap.get? S=some { cls:=.type "list", data:=.seq #[] c0 }) (hn:F.length<=ko)
  (hR:∀h' tk d' acc c',(∀b o,b≠S->s.heap.get? b=some o->h'.get? b=some o)->h'.get? S=some { cls:=.type "list", dict:=none,data:=.seq acc c',slots:=#[] }->(∀v∈acc.toList,∃k u,v = .int k u)->(acc.toList.map Mr.intOf).Perm F->R (.ok (.ret res)) { s with heap:=h',toks:=tk,drawn:=d' }) :
  kf (ki prog w) A.in1 (Builtin.List.listExtendWith (.ref S) (.ref a) res)
   (λfin s'=>match fin with|.done f=>R (.ok f) s'|.again c'=>c'.quiet=true/\lO (ki prog w) A c' R s') (λe s'=>R (.error e) s') s:=by
 have hSl:S<s.heap.objs.size:=ak hS;have hT:s.TypeIs (.ref a) "set" := by
  obtain⟨o,_,_,_,ho,hex,_⟩:=hSI;exact⟨o,ho,hex.1⟩
 unfold Builtin.List.listExtendWith;refine jY (mq (T := "set") hT ?_);have h1:Builtin.List.listSameRef (.ref S) (.ref a)=false:=by simp[Builtin.List.listSameRef,hSa]
 have h2:(dG "set" == dG "list")=false:=by decide
 have h3:(dG "set" == dG "tuple")=false:=by decide
 simp only[h1,h2,h3,jP,cU,if_false];refine jY (Ow hSI λI g d' fp vs St W st kp hI hfp v1 v2=>?_)
 have hSf:S∉fp:=λm=>by
  rcases hfp S m with z|z
  .exact hSa z
  .exact absurd hSl (Nat.not_lt.mpr z)
 have vn:vs.length<=ko:=by
  have:=v2.length_eq;rw[lMq]at this;rw[this];exact hn
 have hIS:I≠S:=bM (aN hSl hI);have key:∀(h:Heap) (c1 tk:Nat),St 0 h->(∀b o,b≠S->s.heap.get? b=some o->h.get? b=some o) ->
   h.get? S=some { cls:=.type "list", data:=.seq #[] c1 }->lO (ki prog w) A (.builtin "list.extend.loop" ⟨[.ref S,.ref I,res],[]⟩) R { s with heap:=h,toks:=tk,drawn:=d' }:=by
  intro h c1 tk hst hk hS1;refine codeAny_extend_loopS (W A.in1 hh).toS vn S hSf res vs.length 0 _ #[] c1 rfl (bg _) hst hS1 (ItemsOf.nil _) λz acc c' hm hS' hacc=>?_
  rw[Moved.eq_with hm];have ea:acc.toList=vs:=by
   refine fM λj=>?_
   rw[ax];cases hq:acc[j]? with
   |none =>
    have:acc.size<=j:=Array.getElem?_eq_none_iff.mp hq;rw[bO (by rw[←hacc.1];exact this)]
   |some v=>exact(hacc.2 j v hq).symm
  refine hR z.heap z.toks d' acc c' (λb o hb e=>hm.heap b o (λhmem=>?_) (hk b o hb e)) hS' (by rw[ea];exact v1) (by rw[ea];exact v2)
  rcases ag.mp hmem with e'|e'
  .exact hb e'
  .rw [mSq.mp e']at e;exact absurd (ak e) (Nat.not_lt.mpr hI)
 have hS1:=kp S _ hS;refine jY (kA (Md (let ⟨o,ho,hc⟩:=hT;⟨o,kp a o ho,hc⟩) ?_))
 refine lR (λ_=>?_) (λ_=>jZ ⟨kP gV _,key _ c0 _ st (λb o _ e=>kp b o e) hS1⟩)
 refine jY (mz ?_);refine jY ?_;show kf _ _ (updateSeq S (·.push .none) >>= λ_=>updateSeq S (·.pop)) _ _ _
 refine jY (wpAny_updateSeq hS1 rfl ?_);have hS2:=dE (Obj.mapSeq (·.push fP)) hS1 rfl;refine wpAny_updateSeq (hz:=by seq_fits) hS2 rfl ?_
 have hS3:=dE (Obj.mapSeq (·.pop)) hS2 rfl;refine jZ ⟨kP gV _,key _ _ _ ?_ (λb o hb e=>?_) hS3⟩
 .refine (W A.in1 hh).frame 0 _ _ st λb hb o e=>?_
  have hbS:b≠S:=λh=>hSf (h ▸ hb)
  exact(cI _ _ (Ne.symm hbS)).trans ((cI _ _ (Ne.symm hbS)).trans e)
 .exact (cI _ _ (Ne.symm hb)).trans ((cI _ _ (Ne.symm hb)).trans (kp b o e))
theorem Ha{Q:List Value->Shared->Prop}(hh:A.handled=none) (hSI:SI prog w s.heap a F) (hn:F.length<=ko)
  (h:∀h' tk d' vs,(∀b o,s.heap.get? b=some o->h'.get? b=some o)->s.heap.objs.size<h'.objs.size->(∀v∈vs,∃k u,v = .int k u)->(vs.map Mr.intOf).Perm F->Q vs { s with heap:=h',toks:=tk,drawn:=d' }) :
  kf (ki prog w) A (collect (.ref a)) Q E s:=by
 have hla:a<s.heap.objs.size:=let ⟨_,_,_,_,ho,_⟩:=hSI;ak ho
 unfold collect;refine jY (Y0 (kE Zb ?_));show kf _ _ (do again (.builtin "list.__iadd__" ⟨[←newList [],.ref a],[]⟩)) _ _ s
 refine jY (mE (jZ ⟨Code.quiet_builtin _ (by decide +kernel),kE entry_list_iadd' ?_⟩))
 show kf _ _ (Builtin.List.listExtendWith (.ref s.heap.objs.size) (.ref a) (.ref s.heap.objs.size)) _ _ { s with heap:=s.heap.push (kB "list" #[] 0) }
 have hS0:(s.heap.push (kB "list" #[] 0)).get? s.heap.objs.size=some (kB "list" #[] 0):=aC _ rfl;refine Q8 (A:=A) (R:=λr s'=>match r with
   | .ok (.ret v)=>kf (ki prog w) A (match v with
    | .ref a=>do
     let o ←load a
     match o.data with
     | .seq xs _=>pure xs.toList
     |_=>lz "internal:collect"
    |_=>lz "internal:collect") Q E s'
   | .ok _=>False
   | .error e=>E e s') (s:={ s with heap:=s.heap.push (kB "list" #[] 0) }) hh (hSI.keep λo e=>ae _ e) (bM hla) hS0 hn λh' tk d' acc c hk hS v1 v2=>?_
 show kf (ki prog w) A (do
   let o ←load s.heap.objs.size
   match o.data with
   | .seq xs _=>pure xs.toList
   |_=>lz "internal:collect") Q E { s with heap:=h',toks:=tk,drawn:=d' }
 refine jY (wpAny_load hS ?_);exact jZ (h h' tk d' acc.toList (λb o e=>hk b o (ay (ak e)) (ae _ e)) (ak hS) v1 v2)
theorem IJ{Q:Value->Shared->Prop}(hh:A.handled=none) (hSI:SI prog w s.heap a F) (hn:F.length<=ko)
  (h:∀(out:List Value) (h':Heap) (p:Addr) (tk n':Nat) (d':Drawn),(∀v∈out,∃k u,v = .int k u)->out.map Mr.intOf=qz F->(∀b o,s.heap.get? b=some o->h'.get? b=some o)->s.heap.objs.size<=p->h'.get? p=some (kB "list" out.toArray n')->Q (.ref p) { s with heap:=h',toks:=tk,drawn:=d' }) :
  kf (ki prog w) A (call (.builtin "sorted") [.ref a]) Q E s:=by
 refine Calls.call_function_entry Zw Zk Zn (Zo _) ?_;unfold Builtin.«sorted»;refine jY (m:=checkCount "sorted" 1 1 _) (jZ ?_);refine jY (Ha hh hSI hn λh0 tk d' vs hk0 hsz0 v1 v2=>?_)
 have hs:vs.length<=ko:=by
  have:=v2.length_eq;rw[lMq]at this;rw[this];exact hn
 refine jY (mE ?_ hs);have hoL:(h0.push (kB "list" vs.toArray 0)).get? h0.objs.size=some (kB "list" vs.toArray 0):=aC _ rfl;show kf _ _ _ _ _ { s with heap:=h0.push (kB "list" vs.toArray 0),toks:=tk,drawn:=d' }
 have hsz:s.heap.objs.size<=h0.objs.size:=bA hsz0;have k1:∀b o,s.heap.get? b=some o->(h0.push (kB "list" vs.toArray 0)).get? b=some o:=λb o e=>ae _ (hk0 b o e)
 have hlt:∀b o,s.heap.get? b=some o->b≠h0.objs.size:=λb o e=>ay (ak (hk0 b o e))
 generalize h0.push (kB "list" vs.toArray 0)=G at hoL k1 ⊢
 clear hsz0
 generalize h0.objs.size=p at hoL hsz hlt ⊢;have k2:∀b o,s.heap.get? b=some o->(tL G p vs).get? b=some o:=λb o e=>by
  refine ae _ (ae _ ?_);rw[cL _ _ _ _ (hlt b o e)];exact k1 b o e
 have hkk:2<=vs.length->∀Q:kQ->Shared->Prop,Q lZ { s with heap:=tL G p vs,toks:=tk,drawn:=d' }->kf (ki prog w) A.in1.in1 (Zd vs.toArray) Q E { s with heap:=tL G p vs,toks:=tk,drawn:=d' }:=λh3 Q q=>by
  have hi:kH vs (vs.map Mr.intOf):=FF (by rw[lMq]) λj v m e1 e2=>by
   obtain⟨k,u,rfl⟩:=v1 v (mGq e1);rw[gMq,e1]at e2;cases e2;exact⟨u,rfl⟩
  match vs,hi,h3 with
  | [],_,h3=>simp at h3
  | [_],_,h3=>simp at h3
  |v₁::v₂::uJ,hi,_ =>
   rw[Zm hi];exact jZ q
 refine jY (kA (kF Y2 ⟨_,hoL,rfl⟩ oa (xp (s:={ s with heap:=G,toks:=tk,drawn:=d' }) (Pk:=λx:kc=>∃a t,x.1=fK a t) (lt:=WQ) hoL hs hkk (To _ _ _ _) (λx hx=>?_) λxs a1 a2=>⟨_,rfl,?_⟩) (Y5 _)))
 .obtain ⟨m1,m2⟩:=vI hx;exact v1 _ m1
 .obtain ⟨o1,o2⟩:=zd a1 a2;obtain⟨e1,ho1⟩:=EJ vs hoL;obtain⟨n1,g1⟩:=Ez (xs.map (·.2)) ho1;have hv:∀v∈(xs.map (·.2)).toList,∃a t,v=fK a t:=λv m=>v1 v (o1.mem_iff.mp m)
  refine jZ ⟨_,rfl,h _ (mO G p vs (xs.map (·.2))) p tk n1 d' hv (zL ((o1.map _).trans v2) ?_) (λb o e=>?_) hsz ?_⟩
  .rw [bz];refine o2.imp_of_mem λ{x y} mx my hq=>?_
   obtain⟨c,t,rfl⟩:=hv x mx;obtain⟨b,u,rfl⟩:=hv y my;have h':¬ b<c:=of_decide_eq_false hq;show c<=b;lia
  .unfold mO;rw[cL _ _ _ _ (hlt b o e)];exact k2 b o e
  .rw [show (xs.map (·.2)).toList.toArray=xs.map (·.2) from gq]
   exact g1
end
end Ms
namespace Mr
open PySem PySem.Spec PyProof.Rows L2
theorem Xo{X:Cx}{oq:List (Addr×Obj)}{σ:St}{H:Hp}{s:Shared}(I:Inv X oq σ H s) (d:Drawn):Inv X oq σ H { s with drawn:=d }:=⟨I.ok,I.os,I.bare,I.base,I.loc,I.cell,I.free,I.freeC,I.pin,I.hok,I.len⟩
section
variable {X:Cx}
def RS(K:W.Frag) (xs:List V) (H:Hp) (Q:VK):Prop:=∃(a:Addr) (ns:List Int),xs=[.ref a]/\tu K H a (ns.map V.int)/\ns.length+1<lB/\∀p,H p=none->Q (.ref p) (qH H p (.lst ((qz (Ms.dd ns)).map V.int)))
theorem QD{e:Expr}{ta:TA}{p0 p pos0 pos:Pos}(hc:X.calm=true) (gl:Gl X "sorted") (ml:X.mg "sorted" = none) (hg:Gl X "set") (hm:X.mg "set" = none) (ha:PA X [e] ta)
  (he:kx [.Call (.Name "set" p) [e] [] pos] X.env=(false,eval (.Call (.Name "set" p) [e] [] pos) X.env)::kx [] X.env:=by rfl) (hs:kx [e] X.env=[(false,eval e X.env)]:=by rfl) :
  PE X (.Call (.Name "sorted" p0) [.Call (.Name "set" p) [e] [] pos] [] pos0) (JH (RS X.K) ta):=by
 intro oq s σ H Q I h;refine lQ (xk I gl ml boot_sorted ?_ (by decide) (by decide))
 refine gm ?_ he (by rfl)
 rw[he];show kf _ _ (spliced ((false,eval (.Call (.Name "set" p) [e] [] pos) X.env)::lF pos0 (kx [] X.env))) _ _ s;refine Calls.spliced_cons ?_;refine Call_ (xk I hg hm boot_set (bN (thn (ha pos oq s σ H _ I h) λus s1 hz1=>?_) hs rfl))
 obtain⟨vs,H1,I1,r1,a,ns,e1,hS,hb,q⟩:=hz1;subst e1;obtain⟨u,rfl,ru⟩:=zh r1;cases ru;obtain⟨ws,hl,hi,_⟩:=C4 I1 hS;have hd:=Ms.Ai ns;refine Ms.Ot (I1.ok.hd hc) hl hi hb λh1 tk hSI kp=>Calls.spliced_nil ?_
 refine Ms.IJ (s:={ s1 with heap:=h1,toks:=tk }) (I1.ok.hd hc) hSI (by have:lB=4096:=rfl;rw[kN];lia) λout h2 p tk2 n' d' hv ho kp2 hp hx=>?_
 have hp2:s1.heap.objs.size<=p:=bQ (bA (let ⟨_,_,_,_,ho',_⟩:=hSI;ak ho')) hp
 have hfr:H1 p=none:=I1.hok.fresh hp2;have hz:((qz (Ms.dd ns)).map V.int).length<=ko:=by
  have:lB=4096:=rfl;rw[lMq,(pK _).length_eq,kN];lia
 refine⟨.ref p,_,Xo (I1.laid (t':=tk2) (λb o e=>kp2 b o (kp b o e)) hp2 (show qW X.prog X.w _ h2 _ (.lst ((qz (Ms.dd ns)).map V.int)) from ⟨hz,out,n',?_,hx⟩)) d',rfl,q _ hfr⟩
 rw[←ho];exact Mr.vals_ints hv
end
end Mr
namespace Z
open PySem L2 Mr
def N4(l:ML):MK:=λS=>(l S).bind λx=>(rJ x.1).bind λns=>wm (ns.length<=4000) (some (.ow ((qz (Ms.dd ns)).map λn=>.sh (.int n)),x.2))
theorem QO{K:W.Frag}{te:TE}{l:ML}(hl:SQ K te l):SK K (JH (RS K) (uM te xQ)) (N4 l):=by
 intro H₀ Hf₀ Hf S σ H Fs av S' R e Q q;obtain⟨x,e1,e⟩:=oBq.mp e;obtain⟨ns,e2,e⟩:=oBq.mp e;rcases pJ e with ⟨hlen,e⟩|e
 .cases e;refine hl R (ds:=x.1) (S':=x.2) e1 _ λHf1 H1 Fs1 p1 vs1 t1 R1 h1 r1=>?_
  rw[uF e2]at r1;rw[qV r1]at h1;refine⟨p1,ns,rfl,h1,by unfold lB;lia,λp hp=>?_⟩
  obtain⟨t4,R4,n1,n2,n3⟩:=R1.new (o:=.lst ((qz (Ms.dd ns)).map V.int)) hp;rw[xa]at q;exact q _ _ _ (.ref p) [p] (t1.trans t4) R4 (pI.new oW n1 (tM _)) ((yN.one R1 hp).back t1)
 .cases e
theorem EM(l:ML) (S:AS):N4 l S=(l S).bind λx=>(rJ x.1).bind λns=>wm (ns.length<=4000) (some (.ow ((qz (Ms.dd ns)).map λn=>.sh (.int n)),x.2)):=rfl
def Js(i:Nat) (pf:MP) (b n:ME):MS:=λS=>(pf S).bind λx=>(rE x.2 i).bind λa0=>(qS (.ow a0) x.1).bind λ_=>(b x.2).bind λy=>(intOf y.1).bind λz=>(n y.2).bind λu=>(intOf u.1).bind λm=>(rE u.2 i).bind λavs=>(qS (.ow avs) x.1).bind λas =>
 wm (0<=z/\z.toNat<=as.length/\as.length<rG) (some (.nx (u.2.set i (some (putAt (.ow avs) x.1 (as.take z.toNat ++ .sh (.int m)::as.drop z.toNat))))))
theorem CZ{d:D}{z:Int}(h:intOf d=some z):d = .int z:=by
 revert h
 unfold intOf;split <;> intro e2 <;> cases e2
 rfl
section
variable {K:W.Frag}{te:TE}{l:ML}
theorem JI{i:Nat}{tp tb tn:TE}{pf:MP}{b n:ME}(hp:WV K i tp pf) (hb:SR K tb b) (hn:SR K tn n):SS K (Ef (Qr K "list" Kh tp (uM tb (uM tn xQ)))) (Js i pf b n):=by
 intro H₀ Hf₀ Hf S σ H Fs o R e D h;obtain⟨x,e1,e⟩:=oBq.mp e;obtain⟨a0,e2,e⟩:=oBq.mp e;obtain⟨n0,e3,e⟩:=oBq.mp e;obtain⟨y,e4,e⟩:=oBq.mp e;obtain⟨z,e5,e⟩:=oBq.mp e;obtain⟨u,e6,e⟩:=oBq.mp e;obtain⟨m,e7,e⟩:=oBq.mp e;obtain⟨avs,e8,e⟩:=oBq.mp e;obtain⟨as,e9,e⟩:=oBq.mp e;rcases pJ e with ⟨⟨z0,z1,z2⟩,e⟩|e
 .cases e;refine hp R (path:=x.1) (S':=x.2) e1 _ λHf1 H1 Fs1 v w t1 R1 s1 a1=>?_
  obtain⟨p,vs,rfl,h1,h2⟩:=Kb R1 (qw e2) s1 e3 a1;refine⟨.inl ⟨rfl,vs,tu.of h1⟩,hb R1 (d:=y.1) (S':=y.2) e4 _ λHf2 H2 Fs2 v2 t2 R2 r2=>hn R2 (d:=u.1) (S':=u.2) e6 _ λHf3 H3 Fs3 v3 t3 R3 r3=>?_⟩
  rw[CZ e5]at r2;rw[CZ e7]at r3;cases r2;cases r3;obtain⟨vs',k1,k2,k3,k4⟩:=R3.insP (qw e8) s1 e9 (a1.same (t2.sh.trans t3.sh));obtain⟨Fs',R4⟩:=k4 (.int m) (.int m) z.toNat z1 .int;exact⟨p,vs',z.toNat,.int m,rfl,by rw[iY z0],k1,by rw[←k2];exact z1,by rw[vy,←k2];exact z2,h _ _ _ _ ((t1.sf.trans t2.sf).trans t3.sf) R4⟩
 .cases e
end
theorem Ts(S:AS) (i:Nat) (pf:MP) (b n:ME):Js i pf b n S=(pf S).bind λx=>(rE x.2 i).bind λa0=>(qS (.ow a0) x.1).bind λ_=>(b x.2).bind λy=>(intOf y.1).bind λz=>(n y.2).bind λu=>(intOf u.1).bind λm=>(rE u.2 i).bind λavs=>(qS (.ow avs) x.1).bind λas =>
 wm (0<=z/\z.toNat<=as.length/\as.length<rG) (some (.nx (u.2.set i (some (putAt (.ow avs) x.1 (as.take z.toNat ++ .sh (.int m)::as.drop z.toNat)))))):=rfl
end Z
namespace Z
open PySem L2 Mr Xe
def UD(i:Nat):MI:=λS=>(vO S i).map λkvs=>(kvs.map λp=>kD p.1,S.set i (some (.sh (.fd kvs))))
section
variable {K:W.Frag}{tf:TT}{te ta tb:TE}{mf:MT}{me k:MK}{fr:List Nat}{a b m:ME}{f:D->D->Option D}{r:R2}
theorem O1{i:Nat}(hf:E3 K tf mf) (he:SK K te me):SW K (DL (RY (xq i)) fr tf te) (uf (UD i) fr mf me):=by
 intro H₀ Hf₀ Hf S σ H Fs av S' R e Q q;obtain⟨y,e1,e⟩:=oBq.mp e;obtain⟨ds,e2,e1⟩:=oMq.mp e1;subst e1;obtain⟨S2,e3,e⟩:=oBq.mp e;obtain⟨cap,e4,e⟩:=oBq.mp e;rcases pJ e with ⟨hl,e⟩|e
 .obtain ⟨avs,e5,e⟩:=oMq.mp e;cases e;have e1':=Ao e2;obtain⟨p,kvs,s1,s2,h1,h2,h3,h4,h5⟩:=R.owd e1';refine⟨_,s1,p,kvs,rfl,h1,λob=>?_⟩
  obtain⟨v,F,t1,t2,r,nd,oo,R1⟩:=R.move e1';rw[s2]at t2;cases t2;have R2:=qh.fix R1 (p:=p) (o:=.frz ob (.dK kvs)) h5 h2 h4;have s3:qk Hf (qH Hf p (.frz ob (.dK kvs))):=uW h2;have h3':tY K (qH Hf p (.frz ob (.dK kvs))) ds kvs:=⟨h3.1,λi d v a b=>(h3.2 i d v a b).mono s3⟩
  have R3:qh K H₀ Hf₀ (qH Hf p (.frz ob (.dK kvs))) (S.set i (some (.sh (.fd ds)))) σ (qH H p (.frz ob (.dK kvs))) (Fs.set i []) :=
   R2.again (F:=[]) s1 (.sh (.fd oW h3'.1 h3'.2)) bp λq hq=>by cases hq
  have hlen:ds.length=kvs.length:=by have:=congrArg bD h3.1;simpa using this
  obtain⟨Hf3,Fs3,t3,R4⟩:=R3.fzAll e3;have hp3:Hf3 p=some (.frz ob (.dK kvs)):=t3.sf _ _ oW;have hl2:(ds.map λp:oS×D=>kD p.1).length=kvs.length:=by rw[lMq];exact hlen
  refine zM (K:=K) hf he R4 e4 hl e5 (λi H s hi=>⟨s _ _ hp3,_,gEg (by rw[←hl2];exact hi)⟩) (λH s=>⟨s _ _ hp3,by rw[hl2];exact ai _⟩) (λn H' x H'' s hi y=>?_) λHf' H' v F t R' r o=>q _ _ _ v F ((s3.trans t3.sf).trans t.sf) R' r o.nd λq hq=>⟨o.fr q hq,o.out q hq⟩
  obtain⟨y1,w,y2,y3⟩:=y;have hk:(ds.map λp:oS×D=>kD p.1)[n]?=some (kD w.1):=by
   have:=congrArg (λl=>l[n]?) h3.1
   simp only[gMq,y2,cM]at this;rw[gMq];cases hd:ds[n]? with
   |none=>rw[hd]at this;cases this
   |some dd =>
    rw[hd]at this;rw[cM,show dd.1=w.1 from aJ.inj this]
  exact⟨y1,_,hk,by rw[y3];exact P3 w.1⟩
 .cases e
end
theorem VX(i:Nat) (S:AS):UD i S=(vO S i).map λkvs=>(kvs.map λp=>kD p.1,S.set i (some (.sh (.fd kvs)))):=rfl
section
variable {K:W.Frag}{J:List Nat}{te tf tb tn tp:TE}{k:MK}{b n:ME}{t u:TS}{m m' body:MS}{x y i:Nat}
theorem Rh{i:Nat}(hk:SW K te k):SS K (Fg te (tX i)) (qb i k):=by
 intro H₀ Hf₀ Hf S σ H Fs o R e D h;obtain⟨x,e1,e⟩:=oMq.mp e;cases e;exact hk R (a:=x.1) (S':=x.2) e1 _ λHf1 H1 Fs1 v F t1 R1 r1 n1 o1=>h _ _ _ _ t1 (R1.set i r1 n1 o1)
end
end Z
namespace Z
open PySem L2 Mr
def atD:D->D->Option D
 | .list ds,.int n=>atI ds n
 |_,_=>none
def Pd(i:Nat) (m:ME):ME:=λS=>(S[i]?.join).bind λa=>(PL a).bind λd=>(m S).bind λy=>(atD d y.1).map λz=>(z,y.2)
theorem Ww(i:Nat) (m:ME) (S:AS):Pd i m S=(S[i]?.join).bind λa=>(PL a).bind λd=>(m S).bind λy=>(atD d y.1).map λz=>(z,y.2):=rfl
def J6(x:Nat) (m:ME) (body:MS):MS:=λS=>(m S).bind λz=>(uk z.1).bind λds=>su x body ds z.2
theorem Ss(x:Nat) (m:ME) (body:MS) (S:AS):J6 x m body S=(m S).bind λz=>(uk z.1).bind λds=>su x body ds z.2:=rfl
def Jn:D->Option (D×D)
 | .tup [a,b]=>some (a,b)
 |_=>none
def Jx(i j:Nat) (k:MK):MS:=λS=>(k S).bind λx=>(Jn (oK x.1)).map λp=>.nx ((x.2.set i (some (.sh p.1))).set j (some (.sh p.2)))
theorem M6(i j:Nat) (k:MK) (S:AS):Jx i j k S=(k S).bind λx=>(Jn (oK x.1)).map λp=>.nx ((x.2.set i (some (.sh p.1))).set j (some (.sh p.2))):=rfl
section
variable {K:W.Frag}{te:TE}{tb:TS}{k:MK}{m:ME}{body:MS}{x:Nat}
theorem T5{i:Nat}(hm:SM K te m):SM K (PD (N7 K) (xq i) te) (Pd i m):=by
 intro H₀ Hf₀ Hf S σ H Fs d S' R e Q q;obtain⟨a,ea,e⟩:=oBq.mp e;obtain⟨dl,e1,e⟩:=oBq.mp e;obtain⟨y,e2,e⟩:=oBq.mp e;obtain⟨z,e3,e⟩:=oMq.mp e;cases e;rw[Jf e1]at ea;obtain⟨v,F,s1,s2,r⟩:=R.rep i _ (pS ea);obtain⟨_,r⟩:=r.sh_inv;refine⟨v,s1,hm R (d:=y.1) (S':=y.2) e2 _ λHf1 H1 Fs1 w t1 R1 r1=>?_⟩
 have r':=r.mono t1;generalize y.1=yd at e3 r1;cases dl with
 |list ds =>
  cases yd with
  |int n =>
   obtain⟨p,vs,rfl,h1,h2⟩:=r'.list_inv;cases r1;have hx:∃u,atI vs n=some u/\rD K Hf1 d u:=by
    have e4:atI ds n=some d:=e3;unfold atI at e4 ⊢;rw[←h2.1];cases hj:Eb ds.length n with
    |none=>rw[hj]at e4;cases e4
    |some j =>
     rw[hj]at e4;have e5:ds[j]?=some d:=e4;have hl:j<vs.length:=by rw[←h2.1];exact(gSq.mp e5).1
     exact⟨vs[j],gEg hl,h2.2 j d _ e5 (gEg hl)⟩
   obtain⟨u,hu,ru⟩:=hx;exact⟨p,vs,n,u,rfl,rfl,tu.of (R1.sub _ _ h1),hu,q _ _ _ u t1 R1 ru⟩
  |_=>cases e3
 |_=>cases e3
theorem QC(hm:SM K te m) (hb:SS K tb body):SS K (O9 (JQ K te) (tX x) tb) (J6 x m body):=by
 intro H₀ Hf₀ Hf S σ H Fs o R e D h;obtain⟨z,e1,e⟩:=oBq.mp e;obtain⟨ds,e2,e⟩:=oBq.mp e;refine hm R (d:=z.1) (S':=z.2) e1 _ λHf1 H1 Fs1 v t1 R1 r1=>?_
 obtain⟨a,vs,rfl,g1,g2⟩:=zK e2 r1;refine⟨a,rfl,⟨vs,R1.sub.seq g1⟩,Hs (xs:=vs) (λi σ' H'=>∃Hf' S' Fs',qh K H₀ Hf₀ Hf' S' σ' H' Fs'/\qk Hf1 Hf'/\su x body (ds.drop i) S'=some o) ⟨Hf1,z.2,Fs1,R1,.refl _,e⟩
  (λi σ' H' _ ⟨Hf',S',Fs',R',s',_⟩=>R'.sub.seq (s'.seq g1)) ?_ ?_⟩
 .rintro i w σ' H' hw ⟨Hf',S',Fs',R',s',e'⟩;obtain⟨di,hdi,rw'⟩:=g2.get' hw;have hlt:i<ds.length:=(gSq.mp hdi).1;rw[ba hlt]at e';have hdi':ds[i]=di:=(gSq.mp hdi).2;rw[hdi']at e';obtain⟨ob,e3,e4⟩:=oBq.mp e';refine hb (R'.setD x (rw'.mono s')) e3 _ ?_;cases ob with
  |nx S2=>exact λHf2 σ2 H2 Fs2 s2 R2=>⟨Hf2,S2,Fs2,R2,s'.trans s2,e4⟩
  |ct S2=>exact λHf2 σ2 H2 Fs2 s2 R2=>⟨Hf2,S2,Fs2,R2,s'.trans s2,e4⟩
  |bk S2=>cases e4;exact λHf2 σ2 H2 Fs2 s2 R2=>h _ _ _ _ ((t1.trans s').trans s2) R2
  |rt a=>cases e4;exact h
 .rintro σ' H' ⟨Hf',S',Fs',R',s',e'⟩;rw[←g2.1,dW]at e';cases e';exact h _ _ _ _ (t1.trans s') R'
theorem JP{i j:Nat}(hk:SK K te k):SS K (Fg te (Me K 2 (Bf (tX i) (Bf (tX j) L9)))) (Jx i j k):=by
 intro H₀ Hf₀ Hf S σ H Fs o R e D h;obtain⟨x,e1,e⟩:=oBq.mp e;obtain⟨p,e2,e⟩:=oMq.mp e;cases e;have hk':SK K te (vU k):=SK.frz hk;refine hk' R (a:=.sh (oK x.1)) (S':=x.2) (by show (k S).map _=_;rw[e1];rfl) _ λHf1 H1 Fs1 v F t1 R1 r1 o1=>?_
 obtain⟨hF,r⟩:=r1.sh_inv;have ed:oK x.1 = .tup [p.1,p.2]:=by
  unfold Jn at e2;split at e2
  .rename_i a b hd;cases e2;exact hd
  .cases e2
 rw[ed]at r;obtain⟨t,vs,rfl,h1,h2⟩:=r.tup_inv;obtain⟨va,w1,rfl,ra,r2⟩:=h2.cons_inv;obtain⟨vb,w2,rfl,rb,r3⟩:=r2.cons_inv;have:=r3.nil_inv;subst this;exact⟨t,[va,vb],rfl,DP.of (R1.sub _ _ h1),rfl,va,[vb],rfl,vb,[],rfl,rfl,h _ _ _ _ t1.sf ((R1.setD i ra).setD j rb)⟩
end
end Z
namespace Mr
open PySem L2
open PySem.Spec PyProof.Rows
def U6:V->Int
 | .int i=>i
 |_=>0
end Mr
namespace Mr
open PySem L2 PySem.Calls
open PySem.Spec PyProof.Rows
def Ga(H:Hp) (p:Addr):List Int:=match H p with
 |some (.tup vs)=>vs.map U6
 |_=>[]
def R8(H:Hp) (ps:List Addr) (rs:List (List Int)):Prop:=rs=ps.map (Ga H)/\∀p∈ps,H p=some (.tup ((Ga H p).map V.int))
theorem M8{H:Hp}{p:Addr}{r:List Int}(h:H p=some (.tup (r.map V.int))):Ga H p=r:=by
 unfold Ga;rw[h];show (r.map V.int).map U6=r;rw[mPq];exact jR r
end Mr
namespace Z
open PySem L2 Mr
abbrev YS(r:List Int):D:=.tup (r.map .int)
def kvI:List (oS×D)->Option (List (Int×Int))
 | []=>some []
 | (.inl k,.int v)::r=>(kvI r).map ((k,v) :: ·)
 |_=>none
section
variable {K:W.Frag}{ta:TA}{te:TE}{m:ML}{b:ME}{H₀ Hf₀ Hf Hf1:Hp}{S':AS}{σ:St}{H H1:Hp}{Fs Fs1:List (List Addr)}{rs:List (List Int)}{Q:VK}
theorem GB{Hx:Hp}:∀{m:List (List Int)}{vs:List V},qq K Hx (m.map YS) vs->∃qs,vs=qs.map V.ref/\R8 Hx qs m
 | [],vs,h=>⟨[],h.nil_inv,rfl,λp hp=>by cases hp⟩
 |r::m,vs,h=>by
  obtain⟨v,ws,rfl,h1,h2⟩:=h.cons_inv;obtain⟨qs,rfl,e1,e2⟩:=GB h2;obtain⟨p,us,rfl,g1,g2⟩:=h1.tup_inv;rw[qV g2]at g1;refine⟨p::qs,rfl,by rw[ao,M8 g1,←e1],λq hq=>?_⟩
  rcases ag.mp hq with z|z
  .rw [z,M8 g1];exact g1
  .exact e2 q z
end
end Z
namespace Mo
open PySem PyProof.Rows Mr
theorem HK:nq (.type "list") "keys" = pure none:=by rw[mI,kZ];kernel_rfl
section
variable {prog:kq}{w:kr}{A:Around}{E:Value->Shared->Prop}{s:Shared}
theorem OE{l:Addr}{xs:Array Value}{k:Nat}{sl:Array (Option Value)}{u:Tok}{Q:Value->Shared->Prop}(hx:s.heap.get? l=some { cls:=.type "list", dict:=none,data:=.seq xs k,slots:=sl }) (hA:A.handled=none)
  (h:∀h' tk e,jN s.heap h' e "AttributeError" -> E (.ref e) { s with heap:=h',toks:=tk }):kf (ki prog w) A (Zq (.ref l) (.str "keys" u) false) Q E s:=by
 obtain⟨hp,g,d,tk,os⟩:=s;have hT:∀tk',(⟨hp,g,d,tk',os⟩:Shared).TypeIs (.ref l) "list" := λ_=>⟨_,hx,rfl⟩
 have f1:=mJ;have f3:=F.slot_list_getattribute.lookup;have f4:=F.slot_list_getattribute.bind (.ref l);have f5:=am_list_getattr_none;unfold Zq
 repeat (any_goals (first|assumption|exact hT _|((with_reducible show kf _ _ (call (jO "list.__getattribute__") _ _) _ _ _);refine lS F.slot_list_getattribute (hT _) am_entry_list_getattribute (F.args_list_getattribute_2 _ _) (meets_getattribute_miss_list l xs k sl "keys" _ HK (by decide +kernel)) ⟨hx,hA,λh' tk' e hx'=>?_⟩)|wp_step))
 obtain⟨t',u',he⟩:=hx'.there;show kf _ _ (mK _ _ _ _ _ _ _) _ _ _;unfold mK
 repeat (any_goals (first|assumption|wp_step))
 exact h _ _ _ hx'.of
theorem Oy{l:Addr}{xs:Array Value}{Q:Option Value->Shared->Prop}(hx:PlainL s.heap l xs) (hA:A.handled=none)
  (h:∀h' tk,(∀b o,s.heap.get? b=some o->h'.get? b=some o)->Q none { s with heap:=h',toks:=tk }):kf (ki prog w) A (getAttr? (.ref l) "keys") Q E s:=by
 obtain⟨⟨c,dct,dat,sl⟩,k,hx,hc,hd,hdat⟩:=hx;simp only at hc hdat hd;subst hc hdat hd;unfold getAttr? getAttrBy?;obtain⟨hp,g,d,tk,os⟩:=s;have f1:=mJ
 repeat (any_goals (first|assumption|(with_reducible refine OE (xs:=xs) (k:=k) (sl:=sl) ?_ ?_ ?_)|wp_step))
 intro h' tk' e q;obtain⟨o,k,he,hc,_⟩:=q.there;refine jY (lD (T := "AttributeError") (b:=true) ⟨_,he,hc⟩ f1 ?_);exact jZ (h h' tk' q.keeps)
end
section
variable {prog:kq}{w:kr}{A:Around}{E:Value->Shared->Prop}{s:Shared}{K:Type} [DecidableEq K] {knd:KeyKind prog w K}{R:Y9->Shared->Prop}{I l d:Addr}{qs:List Addr}{us ws:List Value}{ks:List K}
theorem Ru(hh:A.handled=none) (nI:l≠I) (nd:I≠d) (ld:l≠d) (hq:∀q∈qs,q≠I/\q≠d) (hk:∀(j:Nat) (u:Value),us[j]?=some u->∃k,ks[j]?=some k/\knd.is k u=true) (hlq:us.length=qs.length) (hlen:us.length=ws.length) (hsz:us.length<=ko) :
  ∀(m j:Nat) (i:Int) (s:Shared),us.length-j=m->j<=us.length->s.heap.IsListIter I l j/\s.heap.IsList l (qs.map bH).toArray->(∀(j:Nat) (q:Addr) (u v:Value),qs[j]?=some q->us[j]?=some u->ws[j]?=some v->s.heap.IsTuple q #[u,v])->s.heap.DictOf knd d (fz ks ws j) ->
   (∀h' tk,h'.DictOf knd d (fz ks ws us.length)->(∀b o,b≠I->b≠d->s.heap.get? b=some o->h'.get? b=some o)->R (.ok (.ret .none)) { s with heap:=h',toks:=tk }) ->
   lO (ki prog w) A (.builtin "dict.update.loop" ⟨[.ref d,.ref I,.int i 0,.none],[]⟩) R s:=by
 have W:=Walks.list (prog:=prog) (w:=w) (A:=A.in1) hh I l nI (qs.map bH).toArray;have vl:(qs.map bH).toArray.size=us.length:=by simp[hlq]
 intro m
 induction m with
 |zero =>
  intro j i s hm hj S tp dd hR;have hjn:j=us.length:=by lia
  refine kE zC ?_;rw[Around.under_plainId uB _];show kf _ A.in1 (kT (.ref I) >>= _) _ _ s;refine jY (W.done _ _ _ (by rw[vl,←hjn];exact S) λh' tk' kp=>?_)
  show kf _ A.in1 (Builtin.Dict.addKeywords d [] >>= _) _ _ _;refine jY (jZ (jZ (hR h' tk' ?_ λb o b1 _ e=>kp b o (by simpa using b1) e)))
  subst hjn;obtain⟨o,es,ep,ho,r⟩:=dd;exact⟨o,es,ep,kp d o (by simpa using nd.symm) ho,r⟩
 |succ m ih =>
  intro j i s hm hj S tp dd hR;obtain⟨u,hu⟩:∃u,us[j]?=some u:=⟨_,gEg (by lia)⟩
  obtain⟨v,hv⟩:∃v,ws[j]?=some v:=⟨_,gEg (by lia)⟩
  obtain⟨q,hqj⟩:∃q,qs[j]?=some q:=⟨_,gEg (by lia)⟩
  obtain⟨k,hk1,hk2⟩:=hk j u hu;refine kE zC ?_;rw[Around.under_plainId uB _];show kf _ A.in1 (kT (.ref I) >>= _) _ _ s;refine jY (W.item j _ _ _ (by lia) S λz h' tk' hP S' kp=>?_)
  have ez:z = .ref q:=by
   have:(qs.map bH)[j]?=some z:=by simpa using hP
   rw[gMq,hqj]at this;exact(aJ.inj this).symm
  subst ez;have kp':∀b o,b≠I->s.heap.get? b=some o->h'.get? b=some o:=λb o b1 e=>kp b o (by simpa using b1) e
  have dd':h'.DictOf knd d (fz ks ws j):=by
   obtain⟨o,es,ep,ho,r⟩:=dd;exact⟨o,es,ep,kp' d o nd.symm ho,r⟩
  have tp':∀(j:Nat) (q:Addr) (u v:Value),qs[j]?=some q->us[j]?=some u->ws[j]?=some v->h'.IsTuple q #[u,v]:=λj q u v a b c=>by
   obtain⟨o,ho,uJ⟩:=tp j q u v a b c;exact⟨o,kp' q o (hq q (mGq a)).1 ho,uJ⟩
  refine jY (kA ?_);obtain⟨o,hT,hc,n,hdt⟩:=tp' j q u v hqj hu hv;have tT:Shared.TypeIs { s with heap:=h',toks:=tk' } (.ref q) "tuple" := ⟨_,hT,hc⟩
  refine jY (wpAny_tryCatch ?_);unfold Builtin.Dict.pairItems;refine jY (mq tT ?_);rw[pe (by decide)]
  refine jY (mj hT hdt ?_);refine jZ ?_;refine kA ?_;refine Zi (hsz:=by have:=Nf ks ws j;lia) hk2 dd' λh2 dd2 sb=>?_
  rw[←JA hk1 hv]at dd2;refine jZ ⟨kP uB _,ih (j+1) (i+1) _ (by lia) (by lia) ⟨S'.1.at λo e=>sb.extBut I o nd e,S'.2.at λo e=>sb.extBut l o ld e⟩ (λj q u v a b c=>?_) dd2 λh3 tk3 dd3 kp3=>?_⟩
  .obtain ⟨o,ho,uJ⟩:=tp' j q u v a b c;exact⟨o,sb.extBut q o (hq q (mGq a)).2 ho,uJ⟩
  .exact hR h3 tk3 dd3 λb o b1 b5 e=>kp3 b o b1 b5 (sb.extBut b o b5 (kp' b o b1 e))
theorem Rl{Q:Value->Shared->Prop}(hh:A.handled=none) (hl:PlainL s.heap l (qs.map bH).toArray) (tp:∀(j:Nat) (q:Addr) (u v:Value),qs[j]?=some q->us[j]?=some u->ws[j]?=some v->s.heap.IsTuple q #[u,v])
  (hk:∀(j:Nat) (u:Value),us[j]?=some u->∃k,ks[j]?=some k/\knd.is k u=true) (hlq:us.length=qs.length) (hlen:us.length=ws.length) (hsz:us.length<=ko)
  (h:∀h' tk,h'.DictOf knd s.heap.objs.size (fz ks ws us.length)->(∀b o,s.heap.get? b=some o->h'.get? b=some o)->Q (.ref s.heap.objs.size) { s with heap:=h',toks:=tk }) :
  kf (ki prog w) A (call (.type "dict") [.ref l]) Q E s:=by
 refine callType_codes (Q₁:=λobj s₁=>obj = .ref s.heap.objs.size/\s₁={ s with heap:=s.heap.push { cls:=.type "dict", data:=.dict #[] } }) F.kt_called_dict (F.kt_typeCall_dict_1 _) F.entry_dict_init (kt_code_dict_new _ ⟨rfl,rfl⟩) ?_
 rintro obj s₁ ⟨rfl,rfl⟩;have hnew:(s.heap.push { cls:=.type "dict", data:=.dict #[] }).DictOf knd s.heap.objs.size []:=fg.new s.heap;refine⟨hnew.typeIs,F.args_dict_init_2 _ _,?_⟩;have up:∀b o,s.heap.get? b=some o->(s.heap.push { cls:=.type "dict", data:=.dict #[] }).get? b=some o:=λb o e=>ae _ e
 have hll:l<s.heap.objs.size:=hl.lt;have hT:Shared.TypeIs { s with heap:=s.heap.push { cls:=.type "dict", data:=.dict #[] } } (.ref l) "list" := by
  obtain⟨o,n,ho,hc,_⟩:=hl;exact⟨_,up _ _ ho,hc⟩
 unfold Builtin.«dict.__init__»;refine jY ?_;unfold Builtin.Dict.selfAndRest;refine jY (mV hnew.typeIs ?_);show kf _ _ (pure (s.heap.objs.size,[bH l])) _ _ _;refine jZ ?_;show kf _ _ (Builtin.Dict.updateFrom "dict.__init__" s.heap.objs.size (.ref l) [] .none) _ _ _;unfold Builtin.Dict.updateFrom;refine jY (mq hT ?_);rw[pe (by decide)]
 refine jY (Oy (hl.keeps up) (by simp[hh]) λh3 tk3 kp3=>?_)
 rw[pe (by rfl)]
 refine jY (mz ?_);have kp:∀b o,s.heap.get? b=some o->h3.get? b=some o:=λb o e=>kp3 b o (up b o e)
 have hl3:h3.IsList l (qs.map bH).toArray:=(hl.keeps kp).isList;have hd3:s.heap.objs.size<h3.objs.size:=by
  obtain⟨o,es,ep,ho,r⟩:=hnew;exact ak (kp3 _ _ ho)
 refine jY (nJ hl3 ?_);have kp4:∀b o,h3.get? b=some o->(h3.push { cls:=.type "list_iterator", data:=.fields #[.ref l,.int 0 0] }).get? b=some o:=λb o e=>ae _ e
 have dd3:(h3.push { cls:=.type "list_iterator", data:=.fields #[.ref l,.int 0 0] }).DictOf knd s.heap.objs.size (fz ks ws 0):=by
  obtain⟨o,es,ep,ho,r⟩:=hnew;exact⟨o,es,ep,kp4 _ _ (kp3 _ _ ho),r⟩
 have tl:∀q∈qs,q<s.heap.objs.size:=λq hq=>by
  obtain⟨j,hj⟩:=aH.mp hq;have jl:=(gSq.mp hj).1;obtain⟨o,ho,_⟩:=tp j q _ _ hj (gEg (by lia:j<us.length)) (gEg (by lia:j<ws.length))
  exact ak ho
 refine jZ ⟨kP uB _,Ru (by simp[hh]) (ay (fD hll hd3)) (bM hd3) (ay hll) (λq hq=>⟨ay (fD (tl q hq) hd3),ay (tl q hq)⟩) hk hlq hlen hsz us.length 0 0 _ (ie _) (bg _) ⟨⟨_,aC _ rfl,rfl,rfl⟩,hl3.at λo e=>kp4 _ o e⟩ (λj q u v a b c=>?_) dd3 λh4 tk4 dd4 kp5=>⟨rfl,h h4 tk4 dd4 λb o e=>?_⟩⟩
 .obtain ⟨o,ho,uJ⟩:=tp j q u v a b c;exact⟨o,kp4 _ _ (kp _ _ ho),uJ⟩
 .have lt:=ak e;exact kp5 b o (ay (fD lt hd3)) (ay lt) (kp4 _ _ (kp _ _ e))
end
end Mo
namespace Mr
open PySem PySem.W PySem.Spec PyProof.Rows L2 Mo
section
variable {X:Cx}
def XU(K:W.Frag) (xs:List V) (H:Hp) (Q:VK):Prop:=∃(a:Addr) (ps:List Addr) (ns ms:List Int),xs=[.ref a]/\tu K H a (ps.map V.ref)/\R8 H ps (bB (λx y=>[x,y]) ns ms)/\ns.length=ms.length/\∀l,H l=none->Q (.ref l) (qH H l (.dK (fv ns ms)))
theorem VQ{e:Expr}{ta:TA}{p0 pos0:Pos}(hc:X.calm=true) (gl:Gl X "dict") (ml:X.mg "dict" = none) (ha:PA X [e] ta)
  (he:kx [e] X.env=(false,eval e X.env)::kx [] X.env:=by rfl) :
  PE X (.Call (.Name "dict" p0) [e] [] pos0) (JH (XU X.K) ta):=by
 intro oq s σ H Q I h;refine Call_ (xk I gl ml boot_dict (bN (thn (ha pos0 oq s σ H _ I h) λus s1 hz1=>?_) he (by rfl)) (by decide) (by decide))
 obtain⟨vs,H1,I1,r1,q1⟩:=hz1;obtain⟨a,ps,ns,ms,e1,hq1,⟨hE1,hE2⟩,hl,q⟩:=q1;subst e1;obtain⟨u,rfl,ru⟩:=zh r1;cases ru;obtain⟨its,rv,pl,hz⟩:=I1.list hq1;have ei:=BR rv;subst ei;have lp:ps.length=ns.length:=by
  have:=congrArg bD hE1;rw[gG,lMq]at this;lia
 have at_:∀(j:Nat) (q:Addr) (n m:Int),ps[j]?=some q->ns[j]?=some n->ms[j]?=some m->Ga H1 q=[n,m]:=λj q n m a b c=>by
  have:=congrArg (·[j]?) hE1;simp only[cQ,gMq,a,b,c,cM]at this;exact(aJ.inj this).symm
 obtain⟨us,ws,vu,vw,hus⟩:∃us ws:List Value,pO (ns.map V.int) us/\pO (ms.map V.int) ws/\∀(j:Nat) (q:Addr) (u v:Value),ps[j]?=some q->us[j]?=some u->ws[j]?=some v->s1.heap.IsTuple q #[u,v]:=by
  have key:∀k,k<=ps.length->∃us ws:List Value,pO ((ns.take k).map V.int) us/\pO ((ms.take k).map V.int) ws/\∀(j:Nat) (q:Addr) (u v:Value),ps[j]?=some q->us[j]?=some u->ws[j]?=some v->s1.heap.IsTuple q #[u,v]:=by
   intro k
   induction k with
   |zero=>exact λ_=>⟨[],[],.nil,.nil,λj q u v _ h=>by simp at h⟩
   |succ k ih =>
    intro hk;obtain⟨us,ws,v1,v2,h⟩:=ih (by lia)
    have hpk:ps[k]?=some ps[k]:=gEg (by lia)
    have hnk:ns[k]?=some ns[k]:=gEg (by lia)
    have hmk:ms[k]?=some ms[k]:=gEg (by lia)
    obtain⟨its,rt,pt,_⟩:=I1.tuple (DP.of (hE2 ps[k] (mGq hpk)));rw[at_ k _ _ _ hpk hnk hmk]at rt;obtain⟨u0,v0,rfl,ru,rv0⟩:=pO.two rt;have l1:us.length=k:=by rw[←v1.length,lMq,lTq];lia
    have l2:ws.length=k:=by rw[←v2.length,lMq,lTq];lia
    refine⟨us++[u0],ws++[v0],?_,?_,λj q u v a1 a2 a3=>?_⟩
    .rw [bZ,hnk,gK,mBq];exact v1.append (.cons ru .nil)
    .rw [bZ,hmk,gK,mBq];exact v2.append (.cons rv0 .nil)
    rw[List.getElem?_append]at a2 a3;split at a2
    .rw [pe (by lia)]at a3
     exact h j q u v a1 a2 a3
    .rw [pD (by lia)]at a3
     have ej:j=k:=by
      have:=(gSq.mp a2).1;simp at this;lia
     subst ej;rw[hpk]at a1;cases a1;simp[l1]at a2;simp[l2]at a3;subst a2 a3;exact pt
  obtain⟨us,ws,v1,v2,h⟩:=key _ (ai _);rw[bE (by lia)]at v1 v2
  exact⟨us,ws,v1,v2,h⟩
 have lu:=vu.length;have lw:=vw.length;rw[lMq]at lu lw hz;refine Rl (knd:=qA X.prog X.w) (ks:=ns.map aG) (us:=us) (ws:=ws) (I1.ok.hd hc) pl hus (λj u hu=>?_) (by lia) (by lia) (by lia) λh' tk dd kp=>?_
 .have hj:j<ns.length:=by have:=(gSq.mp hu).1;lia
  obtain⟨u',hu',ru⟩:=vu.get (i:=j) (x:=.int ns[j]) (by rw[gMq,gEg hj];rfl)
  rw[hu]at hu';cases hu';obtain⟨t,rfl⟩:=ru;exact⟨.inl ns[j],by rw[gMq,gEg hj];rfl,BF _ t⟩
 .have kv:KV (fv ns ms) (fz (ns.map aG) ws us.length):=by
   have:=Fx ns ms ws [] [] vw .nil;unfold fz;rw[bE (by rw[iy,lMq];lia)]
   exact this
  exact⟨.ref s1.heap.objs.size,qH H1 s1.heap.objs.size (.dK (fv ns ms)),I1.laid (t':=tk) kp (ai _) (Dk (by have:=N9 ns ms;lia) (beq_eq_false_iff_ne.mpr (bM I1.big)) kv dd),rfl,q _ (I1.hok.fresh (ai _))⟩
end
end Mr
namespace Z
open PySem L2 Mr
def Xq(l:ML):MK:=λS=>(l S).bind λx=>(AG x.1).bind λrs=>wm (∀r∈rs,r.length=2) (some (.owd (dz (rs.map (·.getD 0 0)) (rs.map (·.getD 1 0))),x.2))
theorem Xg(l:ML) (S:AS):Xq l S=(l S).bind λx=>(AG x.1).bind λrs=>wm (∀r∈rs,r.length=2) (some (.owd (dz (rs.map (·.getD 0 0)) (rs.map (·.getD 1 0))),x.2)):=rfl
theorem WB:∀{rs:List (List Int)},(∀r∈rs,r.length=2)->bB (λx y=>[x,y]) (rs.map (·.getD 0 0)) (rs.map (·.getD 1 0))=rs
 | [],_=>rfl
 | [a,b]::rs,h=>by
  rw[ao,ao,eI,WB λr hr=>h r (mCo _ hr)]
  rfl
 | []::rs,h=>by simpa using h [] (aj ..)
 | [_]::rs,h=>by simpa using h [_] (aj ..)
 | (_::_::_::_)::rs,h=>by simpa using h _ (aj ..)
section
variable {K:W.Frag}{te:TE}{k:MK}
theorem Wa(hk:SW K te k):SW K (JH (XU K) (uM te xQ)) (Xq (lOf k)):=by
 intro H₀ Hf₀ Hf S σ H Fs av S' R e Q q;obtain⟨x,e1,e⟩:=oBq.mp e;obtain⟨rs,e2,e⟩:=oBq.mp e;rcases pJ e with ⟨h2,e⟩|e
 .cases e;obtain⟨y,e3,e1⟩:=oBq.mp e1;refine hk R (a:=y.1) (S':=y.2) e3 _ λHf1 H1 Fs1 v F t1 R1 r1 d1 o1=>?_
  have hr:rD K H1 (.list (rs.map λr=>.tup (r.map .int))) v:=by
   split at e1
   .rename_i ds hx;cases e1;rw[hx]at r1;have:=r1.rep R1.sub;rw[sr]at this;have e4:ds=rs.map λr=>.tup (r.map .int):=Ae e2
    rw[e4]at this;exact this
   .rename_i avs hx;cases e1;rw[hx]at r1;have:=r1.rep R1.sub;rw[tG]at this;have e4:avs.map oK=rs.map λr=>.tup (r.map .int):=Ae e2
    rw[e4]at this;exact this
   .cases e1
  obtain⟨p,vs,rfl,g1,g2⟩:=hr.list_inv;obtain⟨ps,rfl,hE⟩:=GB (m:=rs) g2;have hx2:x.2=y.2:=by split at e1 <;> first|(cases e1;rfl)|cases e1
  rw[hx2]at q;refine⟨p,ps,rs.map (·.getD 0 0),rs.map (·.getD 1 0),rfl,tu.of g1,by rw[WB h2];exact hE,by simp,λl hn=>?_⟩
  obtain⟨t4,R4,n1,n2,n3⟩:=R1.new (o:=.dK (fv (rs.map (·.getD 0 0)) (rs.map (·.getD 1 0)))) hn;exact q _ _ _ (.ref l) [l] (t1.trans t4.sf) R4 (.owd oW n1 (N3 _ _)) (by simp) λz hz=>by rw[mSq.mp hz];exact⟨n2,n3⟩
 .cases e
end
end Z
namespace Mr
open PySem PySem.Spec PyProof.Rows L2
section
variable {X:Cx}{pos:Pos}{i:Nat}{x:Str}{N P:List Str}{sc:mD}
theorem oZ{e:Expr}{te:TE}{pos':Pos}(S:pH N P sc) (he:PE X e te) (hN:X.N=N:=by rfl) (hi:X.N[i]?=some x:=by rfl) (hx:SV X.env.scope x:=by first|exact Or.inl rfl|exact jj rfl) (hs:oh e (some (.Name x pos')) pos.line X.env=pure false:=by rfl) (hf:X.fn x=true∨X.env.scope.names.lookup x=some .local:=by trivial) :
  PS X (.Assign [.Name x pos'] e pos) (Fg te (tX i)):=Sz (hN ▸ S.nd) hi hx he hs hf
theorem rQ(S:pH N P sc) (hN:X.N=N:=by rfl) (hi:X.N[i]?=some x:=by rfl) (hx:SV X.env.scope x:=by first|exact Or.inl rfl|exact jj rfl) (hf:X.fn x=true∨X.env.scope.names.lookup x=some .local:=by trivial):PG X (.Name x pos) (tX i):=EE (hN ▸ S.nd) hi hx hf
end
section
variable {X:Cx}{k n:Nat}{f:Addr}{fd:kG}{ps:List Str}{sp:Sp}{x:Str}{p pos:Pos}{e:Expr}{es:List Expr}{t:TA}{st:Stmt}
theorem qG(G:Fn X.prog X.w X.K X.mg X.base k x st ps sp f fd) (hr:vP n X.A) (ha:PA X (e::es) t) (hk:k<=n:=by decide) (hg:Gl X x:=by rfl) (hdb:(x == ("__debug__" : Str))=false:=by decide)
  (he:kx (e::es) X.env=(false,eval e X.env)::kx es X.env:=by rfl) (hpl:(lF pos (kx es X.env)).any (·.1)=false:=by rfl) :
  PE X (.Call (.Name x p) (e::es) [] pos) (Gj sp [] E0 t):=Vg G (hr.mono hk) ha hg hdb he hpl
end
theorem sC{N P:List Str}{sc:mD}(a:sc.kind = .function:=by rfl) (b:sc.isCoroutine=false:=by rfl) (c:sc.isGenerator=false:=by rfl) (d:N.Nodup:=by decide +kernel) (e:N.take P.length=P:=by rfl) (f:∀x∈P,sc.names.lookup x=some .local∨sc.names.lookup x=some .cell:=by decide +kernel) (g:∀y∈sc.names,y.2 ≠ .free:=by decide +kernel):pH N P sc:=⟨a,b,c,d,e,f,g⟩
theorem B1{P:kq}{w:kr}{K:W.Frag}{mg:Str->Option Value}{base:Heap}{k:Nat}{x:Str}{st:Stmt}{ps N:List Str}{f:Addr}{fd:kG}{m:Z.MS}(D:Av K mg x st ps f fd) (S:pH N ps (oP st))
  (h:∀(yO:Value) (A:Around) (outer:List Env) (s:Shared) (H:Hp) (E:XK),vP k (A.deeper (mN x (oP st) s.heap.objs.size f yO))->(A.deeper (mN x (oP st) s.heap.objs.size f yO)).units+64<mC->(A.deeper (mN x (oP st) s.heap.objs.size f yO)).units+65<mC ->
   ∃t,Jm (H0 RI P w K mg base N x (oP st) f yO A outer s H E).nox (uQ st) t/\Z.SS K t m):Fn P w K mg base (k+1) x st ps (Z.ud K (Z.uH ps.length N.length m)) f fd :=
 ⟨D,D.F.ok S (λvs H Q E h=>Z.SD h) λyO A outer s H vs Q E hr hh=>by
  obtain⟨t,a,b⟩:=h yO A outer s H E hr hr.units (vP.units65 hr);exact⟨t,a,Z.Py N b hh⟩⟩
end Mr
namespace Mr
open PySem L2
variable {K:W.Frag}{h:Heap}{mg:Str->Option Value}{x z:Str}{st:Stmt}{f O:Addr}{fd:kG}
structure At (K:W.Frag) (x:Str) (st:Stmt) (f:Addr) (fd:kG):Prop where
 a:W.nsIn K ku x=some (some (.ref f))
 F:Sg K x x st f fd
section
variable {oc kV doc pm yO ct:Value}{od an:Option Addr}{osl:Array (Option Value)}
theorem WA(a:W.nsIn K ku x=some (some (.ref f))) (l:K.lookup f=some ⟨oc,od,.func (W.fnOf x x (vR st) (uQ st) (oP st) .none kV doc pm an yO ct),osl⟩)
  (c:W.codeIn K yO x=true) (k:W.keepIn K (.ref f)=true):At K x st f (W.fnOf x x (vR st) (uQ st) (oP st) .none kV doc pm an yO ct):=⟨a,Ie l c k⟩
end
abbrev BA(x q:Str) (st:Stmt) (ps:List Str) (us:List Value):Prop:=∀(kV doc pm:Value) (an:Option Addr) (yO ct:Value),bindArgs (W.fnOf x q (vR st) (uQ st) (oP st) .none kV doc pm an yO ct) ⟨us,[]⟩=pure (ps.zip us)
section
variable {q a b c d:Str}(F:Sg K x q st f fd)
include F
theorem b1(h:∀u,BA x q st [a] [u]):Ab K fd [a] []:=F.binds λ_ _ _ _ _ _ us hl=>by
 obtain - | ⟨u, - | ⟨v,l⟩⟩:=us <;> cases hl
 apply h
theorem b2(h:∀u v,BA x q st [a,b] [u,v]):Ab K fd [a,b] []:=F.binds λ_ _ _ _ _ _ us hl=>by
 obtain - | ⟨u, - | ⟨v, - | ⟨w,l⟩⟩⟩:=us <;> cases hl
 apply h
theorem b3(h:∀u v w,BA x q st [a,b,c] [u,v,w]):Ab K fd [a,b,c] []:=F.binds λ_ _ _ _ _ _ us hl=>by
 obtain - | ⟨u, - | ⟨v, - | ⟨w, - | ⟨y,l⟩⟩⟩⟩:=us <;> cases hl
 apply h
end
theorem atD{ps:List Str}(X:K.In h) (G:h.Ns ku mg) (a:At K x st f fd) (b:Ab K fd ps []):Av K mg x st ps f fd:=⟨a.F,W.mg_of X G a.a,b⟩
end Mr
namespace Zl
open PySem L2 Mr Z
def BL:MS:=(oY (Dy (vT (pW HB (xv uN (oI (oz 0) pA)) (rC (.int 0)))) (tV (uG qj)) ux)
 (oY (qb 1 (kSc (XN "list" E6 (oz 0) (oI (xv QE (oI (oz 0) pA)) pA))))
 (tV (FE (lOf (LV (uI 0) (xB (oz 1)) yY)) (lOf (LV (uI 0) yY (xB (oz 1))))))))
def wt:MF:=uH 1 2 BL
def xY:MS:=(oY (Dy (vT (pW WK (oz 1) (xv uN (oI (oz 0) pA)))) (tV (kSc (pW DJ (oz 0) (oz 1)))) ux)
 (tV (kSc (rC (.int 0)))))
def qg:MF:=uH 2 2 xY
def xK:MS:=(tV (A0 (uf (Bq (pG 0)) [] sJ (qM Zl.wt (oV (pG 0) qj)))))
def qa:MF:=uH 1 1 xK
def wG:MS:=(AC 1 (oz 4) (pG 2))
def wu:MS:=(AE 4 (pG 3) wG)
def AI:MS:=(oY (qb 1 BW)
 (oY (Gf 2 3 (pG 0) wu)
 (tV (EK 1))))
def vH:MF:=uH 1 5 AI
theorem Cq(ns:List Int) {k:Int}(h:0<=k):qg [.scr ns,.int k]=some (.sh (.int (cell ns k.toNat))):=by
 by_cases c:k<(ns.length:Int)
 .have hk:k.toNat<ns.length:=by lia
  have e:ns.getD k.toNat 0=ns[k.toNat]:=wZ hk
  simp_arith [qg,xY,c,RE h,gEg hk,cell,e]
 .have hk:ns.length<=k.toNat:=by lia
  have e:ns.getD k.toNat 0=0:=by rw[gDq,bO hk];rfl
  simp_arith [qg,xY,c,cell,e]
theorem NM(ns:List Int):qg [.scr ns,.int 0]=some (.sh (.int (cell ns 0))):=Cq ns (by decide)
theorem LZ(ns:List Int):qg [.scr ns,.int 1]=some (.sh (.int (cell ns 1))):=Cq ns (by decide)
theorem Na(ns:List Int):qg [.scr ns,.int 2]=some (.sh (.int (cell ns 2))):=Cq ns (by decide)
theorem Lq{n:Int}{ns:List Int}:ns.foldl min n∈n::ns/\∀x∈n::ns,ns.foldl min n<=x:=⟨xj ns n,λx hx=>(ag.mp hx).elim (λe=>e ▸ (vY ns n).1) ((vY ns n).2 x)⟩
theorem Lg{ns:List Int}(hl:ns.length<=500000):wt [dI ns]=some (aI (good ns)):=by
 cases ns with
 |nil =>
  have h1:((0:Nat):Int)=0:=rfl
  simp_arith [wt,BL,h1]
  rfl
 |cons n ns =>
  obtain⟨h1,h2⟩:=Lq (n:=n) (ns:=ns);have e:=B3 h1 h2;have hle:=Ij (n::ns);have hne:¬ ((n::ns).length:Int)=0:=by simp only[lCq];lia
  have hm:QE [dI (n::ns)]=some (.int (ns.foldl min n)):=by
   show (rJ ((n::ns).map D.int)).bind (λns=>(Jw ns).map D.int)=_
   rw[ur];rfl
  have hx:E6 (dI (n::ns)) [.int (ns.foldl min n)]=some (.int (qi (n::ns) (n::ns).length:Nat)):=by
   show (rJ ((n::ns).map D.int)).bind _=_;rw[ur];show (if _ then _ else _)=_
   rw[pe h1,e]
  generalize hN:n::ns=N at *;have hlen:(N.drop (qi N N.length)).length+(N.take (qi N N.length)).length<=rG:=by rw[aL,lTq];show _<=16777216;lia
  simp_arith [wt,BL,hne,hm,hx,xT,Cb N _ hle,xJ N _ hle,hlen,←mBq,JU]
  rfl
theorem uZ{rs:List (List Int)}{i:Nat}{r:List Int}(h:rs[i]?=some r):(rs.take (i+1)).flatten=(rs.take i).flatten++r:=by
 rw[bZ,h,fAq];simp
theorem vL(rs:List (List Int)) (i:Nat):(rs.take i).flatten.length<=rs.flatten.length:=by
 have:=congrArg bD (congrArg List.flatten (aM i rs));rw[fAq,lAq]at this;lia
theorem FJ{rs:List (List Int)}{i:Nat}{d:D}(h:(rs.map dI)[i]?=some d):∃r,rs[i]?=some r/\d=dI r:=by
 rw[gMq]at h;obtain⟨r,h1,h2⟩:=oMq.mp h;exact⟨r,h1,h2.symm⟩
theorem Fv{ns:List Int}{i:Nat}{d:D}(h:(ns.map D.int)[i]?=some d):∃z,ns[i]?=some z/\d = .int z:=by
 rw[gMq]at h;obtain⟨r,h1,h2⟩:=oMq.mp h;exact⟨r,h1,h2.symm⟩
theorem O5{rs:List (List Int)}{d:D}(h:d∈rs.map dI):∃r∈rs,d=dI r:=by
 obtain⟨r,h1,h2⟩:=mMq.mp h;exact⟨r,h1,h2.symm⟩
def Dj:D->List Int
 | .list ds=>(rJ ds).getD []
 |_=>[]
theorem wO(r:List Int):Dj (dI r)=r:=by
 show (rJ (r.map D.int)).getD []=r;rw[ur];rfl
theorem FS{β:Type}(g:List Int->β) (rs:List (List Int)):(rs.map dI).map (λd=>g (Dj d))=rs.map g:=by
 rw[mPq];exact mCq λr _=>by show g (Dj (dI r))=g r;rw[wO]
theorem Gk{rs:List (List Int)}(hl:∀r∈rs,r.length<=500000):qL sJ (qM wt (oV (pG 0) qj)) [] (rs.map dI)=some ((rs.map good).map aI):=by
 rw[si (λd=>aI (good (Dj d)))]
 .rw [FS (λr=>aI (good r)),mPq]
  rfl
 .intro d hd;obtain⟨r,hr,rfl⟩:=O5 hd;refine⟨[some (.sh (dI r))],?_⟩
  simp_arith [Lg (hl r hr),wO]
theorem sF{rs:List (List Int)}(hl:∀r∈rs,r.length<=500000) (h7:rs.length<=rG):qa [dM rs]=some (.ow ((qY (rs.map good)).map aI)):=by
 have h6:=Gk (rs:=rs) hl
 simp_arith [qa,xK,h6,h7]
end Zl
namespace Zl
open PySem L2 Mr Z Xe
section
variable {rs:List (List Int)}(hl:rs.flatten.length<=500000)
include hl
end
theorem KJ(r:List Int) (h:r.Nodup):good (good r)=good r:=Hu h _
theorem Dq{T:List (List Int)}(h:T.flatten.Nodup):qY ((qY (T.map good)).map good)=qY (T.map good):=by
 have q:(qY (T.map good)).map good=qY (T.map good):=by
  have:∀r∈qY (T.map good),good r=r:=λr hr=>by
   obtain⟨s,hs,rfl⟩:=mMq.mp ((rm _).mem_iff.mp hr);exact KJ s (KS h hs)
  exact(mCq this).trans (eM _)
 rw[q];exact(FN (.refl _) (yB _)).symm
end Zl
namespace Zl
open PySem L2 Mr Z
def sH(p:Nat) (r:List Int):List (oS×D):=r.map λe=>(.inl e,.int (p:Int))
def pB:Nat->List (List Int)->List (oS×D)
 |_,[]=>[]
 |p,r::rs=>sH p r++pB (p+1) rs
theorem yS(r:List Int):∀(rs:List (List Int)) (p:Nat),pB p (rs++[r])=pB p rs++sH (p+rs.length) r
 | [],p=>by simp[pB]
 |s::rs,p=>by
  show sH p s++pB (p+1) (rs++[r])=(sH p s++pB (p+1) rs)++_;rw[yS r rs (p+1),aq,lCq,show p+1+rs.length=p+(rs.length+1) by lia]
theorem wM:∀(rs:List (List Int)) (p:Nat),(pB p rs).map (·.1)=rs.flatten.map aG
 | [],p=>rfl
 |r::rs,p=>by
  show (sH p r++pB (p+1) rs).map (·.1)=_;rw[mBq,wM rs (p+1),fCq,mBq];congr 1;unfold sH;rw[mPq];rfl
theorem CF(rs:List (List Int)) (p:Nat):(pB p rs).length=rs.flatten.length:=by
 have:=congrArg bD (wM rs p)
 rwa [lMq,lMq]at this
theorem AK{kvs:List (oS×D)}{k:oS}{d:D}(h:k∉kvs.map (·.1)):wK kvs k d=kvs++[(k,d)]:=by
 unfold wK;rw[pD];intro e;obtain⟨kv,hk,e⟩:=cR.mp e;exact h (mMq.mpr ⟨kv,hk,of_decide_eq_true e⟩)
theorem GL{k:oS}:∀{a b:List (oS×D)},k∉a.map (·.1)->Z.getD (a++b) k=Z.getD b k
 | [],b,_=>rfl
 |x::a,b,h=>by
  unfold Z.getD;rw[dU,cO (by
   intro e;exact h (by rw[←of_decide_eq_true e];simp))]
  exact GL (k:=k) (a:=a) (b:=b) λm=>h (by simp only[ao,ag];exact .inr m)
theorem GM{p:Nat}{e:Int}{b:List (oS×D)}:∀{r:List Int},e∈r->Z.getD (sH p r++b) (.inl e)=some (.int p)
 | [],h=>by cases h
 |x::r,h=>by
  unfold Z.getD;show ((((aG x:oS),D.int (p:Int))::(sH p r++b)).find? _).map _=_
  by_cases c:x=e
  .subst c;rw[dB (by simp)]
   rfl
  .rw [cO (by simp[c])]
   exact GM (r:=r) ((ag.mp h).resolve_left λz=>c z.symm)
theorem yj{e:Int}{r:List Int}:∀{rs:List (List Int)}{i:Nat}(p:Nat),rs.flatten.Nodup->rs[i]?=some r->e∈r->Z.getD (pB p rs) (.inl e)=some (.int ((p+i:Nat):Int))
 | [],i,p,_,h,_=>by simp at h
 |s::rs,0,p,hn,h,he=>by
  simp at h;subst h;exact GM he
 |s::rs,i+1,p,hn,h,he=>by
  rw[fCq,nAq]at hn;have h':rs[i]?=some r:=by simpa using h
  have:=yj (rs:=rs) (i:=i) (p+1) hn.2.1 h' he;rw[show p+1+i=p+(i+1) by lia]at this
  rw[←this];refine GL ?_;unfold sH;rw[mPq];intro m;obtain⟨x,hx,e2⟩:=mMq.mp m;cases e2;exact hn.2.2 _ hx _ (mFq.mpr ⟨r,mGq h',he⟩) rfl
theorem AH{rs:List (List Int)}(hn:rs.flatten.Nodup) (hl:rs.flatten.length<=500000):vH [dM rs]=some (.owd (pB 0 rs)):=by
 have key:=J3 (x:=2) (y:=3) (k:=0) (body:=wu) (λi S=>∃v2 v3 v4,S=[some (.sh (dM rs)),some (.owd (pB 0 (rs.take i))),v2,v3,v4]) (ds:=rs.map dI) (S:=[some (.sh (dM rs)),some (.owd []),none,none,none]) ⟨none,none,none,rfl⟩ (by
  rintro i d S hd ⟨v2,v3,v4,rfl⟩;rw[bF];obtain⟨r,hr,rfl⟩:=FJ hd;have hfl:=uZ hr;have hle:=vL rs (i+1);have hi:i<rs.length:=(gSq.mp hr).1;have hnd:((rs.take i).flatten++r).Nodup:=by
   rw[←hfl];have e0:rs.flatten=(rs.take (i+1)).flatten++(rs.drop (i+1)).flatten:=by rw[←fAq,aM]
   rw[e0]at hn;exact(nAq.mp hn).1
  rw[hfl,lAq]at hle;have k2:=vF (x:=4) (body:=wG) (λj S=>∃v4,S=[some (.sh (dM rs)),some (.owd (pB 0 (rs.take i)++sH i (r.take j))),some (.sh (.int i)),some (.sh (dI r)),v4]) (ds:=r.map D.int) (S:=[some (.sh (dM rs)),some (.owd (pB 0 (rs.take i))),some (.sh (.int i)),some (.sh (dI r)),v4]) ⟨v4,by simp[sH]⟩ (by
   rintro j d S hd ⟨v4,rfl⟩;obtain⟨z,hz,rfl⟩:=Fv hd;have hj:j<r.length:=(gSq.mp hz).1;have h3:(pB 0 (rs.take i)++sH i (r.take j)).length<rG:=tW (by
    rw[lAq,CF];unfold sH;rw[lMq,lTq];lia)
   have hput:wK (pB 0 (rs.take i)++sH i (r.take j)) (.inl z) (.int (i:Int))=pB 0 (rs.take i)++sH i (r.take (j+1)):=by
    rw[AK]
    .unfold sH;rw[qE hz,mBq,aq];rfl
    .rw [mBq,wM];intro m;have e1:r.take (j+1)=r.take j++[z]:=qE hz;rcases mAq.mp m with m|m
     .obtain ⟨x,hx,e2⟩:=mMq.mp m;cases e2;exact(nAq.mp hnd).2.2 _ hx _ (mGq hz) rfl
     .unfold sH at m;rw[mPq]at m;obtain⟨x,hx,e2⟩:=mMq.mp m;cases e2;have:=cg.sublist (bK (j+1) r) (nAq.mp hnd).2.1;rw[e1]at this;exact(nAq.mp this).2.2 _ hx _ (by simp) rfl
   refine⟨_,?_,some (.sh (.int z)),rfl⟩
   simp_arith [wG,h3,hput])
  obtain⟨S2,e2,w4,rfl⟩:=k2;rw[lMq,bw]at e2;refine⟨_,?_,some (.sh (.int i)),some (.sh (dI r)),w4,rfl⟩;rw[qE hr,yS,lTq,dJ (by lia),bF]
  simp_arith [wu,e2])
 obtain⟨S',e,v2,v3,v4,rfl⟩:=key;rw[bF,lMq,bw]at e
 simp_arith [vH,AI,e]
theorem Cs{c:MT}{body:MS}(P:AS->Prop) (μ:AS->Nat) (Qf:AS->Prop) (h:∀S,P S->∃b S1,c S=some (b,S1)/\(b=true->∃S2,body S1=some (.nx S2)/\P S2/\μ S2<μ S)/\(b=false->Qf S1)) :
  ∀(fuel:Nat) (S:AS),P S->μ S<fuel->∃S',tU c body fuel S=some (.nx S')/\Qf S'
 |0,S,_,hm=>absurd hm (cK _)
 |n+1,S,hp,hm=>by
  obtain⟨b,S1,e1,h1,h2⟩:=h S hp;rw[QN,e1,eU];cases b with
  |true =>
   obtain⟨S2,e2,p2,m2⟩:=h1 rfl;rw[pe rfl,e2];exact Cs P μ Qf h n S2 p2 (by lia)
  |false =>
   rw[pD (by simp)]
   exact⟨S1,rfl,h2 rfl⟩
end Zl
namespace Zl
open PySem L2 Mr Z Xe
def plc(rs:List (List Int)) (e:Int):Nat:=rs.findIdx λr=>decide (e∈r)
theorem same_place{rs:List (List Int)}(hn:rs.flatten.Nodup) {i j:Nat}{r s:List Int}{e:Int}(hi:rs[i]?=some r) (hj:rs[j]?=some s) (h1:e∈r) (h2:e∈s):i=j:=by
 have a:=yj 0 hn hi h1;have b:=yj 0 hn hj h2;rw[a]at b;have:=D.int.inj (aJ.inj b);lia
theorem plc_eq{rs:List (List Int)}(hn:rs.flatten.Nodup) {i:Nat}{r:List Int}{e:Int}(hi:rs[i]?=some r) (h1:e∈r):plc rs e=i:=by
 have hl:rs.findIdx (λr=>decide (e∈r))<rs.length:=fX ⟨r,mGq hi,decide_eq_true h1⟩
 have h2:=iP (xs:=rs) (p:=λr=>decide (e∈r)) (w:=hl)
 exact same_place hn (gEg hl) hi (of_decide_eq_true h2) h1
structure Mp (rs:List (List Int)):Prop where
 hn:rs.flatten.Nodup
 hl:rs.flatten.length<=1000
 hr:rs.length<=1000
 hneg:∀e∈rs.flatten, -e∈rs.flatten
theorem Mp.at{rs:List (List Int)}(h:Mp rs) {e:Int}(he:e∈rs.flatten):∃r,rs[plc rs e]?=some r/\e∈r:=by
 obtain⟨r,h1,h2⟩:=mFq.mp he;obtain⟨i,h3⟩:=aH.mp h1;exact⟨r,by rw[plc_eq h.hn h3 h2];exact h3,h2⟩
theorem Mp.other{rs:List (List Int)}(h:Mp rs) {k:Nat}{r:List Int}{e:Int}(hk:rs[k]?=some r) (he:e∈r):-e∈rs.flatten:=h.hneg e (mFq.mpr ⟨r,mGq hk,he⟩)
theorem Mp.kv{rs:List (List Int)}(h:Mp rs) {e:Int}(he:e∈rs.flatten):Z.getD (pB 0 rs) (aG e)=some (.int (plc rs e:Int)):=by
 obtain⟨r,h1,h2⟩:=h.at he;have:=yj 0 h.hn h1 h2
 rwa [bF]at this
theorem Mp.lt{rs:List (List Int)}(h:Mp rs) {e:Int}(he:e∈rs.flatten):plc rs e<rs.length:=by
 obtain⟨r,h1,_⟩:=h.at he;exact(gSq.mp h1).1
theorem Mp.row{rs:List (List Int)}(h:Mp rs) {k:Nat}{r:List Int}(hk:rs[k]?=some r):r.length<=1000:=by
 have:=cD.length_le (aD (mGq hk));have:=h.hl;lia
def itr(f:Int->Int):Nat->Int->Int
 |0,e=>e
 |n+1,e=>f (itr f n e)
theorem Fy(f:Int->Int) (m:Nat) (e:Int):∀n:Nat,itr f (n+m) e=itr f n (itr f m e)
 |0=>by rw[bF];rfl
 |n+1=>by rw[Nat.add_right_comm];show f (itr f (n+m) e)=f (itr f n (itr f m e));rw[Fy f m e n]
theorem TN:∀(l E:List Int),l.Nodup->(∀x∈l,x∈E)->l.length<=E.length
 | [],E,_,_=>bg _
 |x::l,E,hn,h=>by
  have hn':=aA.mp hn;have hx:=h x (aj ..);have h2:=TN l (E.erase x) hn'.2 (λy hy=>by
   refine(List.mem_erase_of_ne ?_).mpr (h y (mCo _ hy));intro e;exact hn'.1 (e ▸ hy))
  rw[List.length_erase_of_mem hx]at h2;have:=iu hx;rw[lCq];lia
theorem ND{p:Nat->Prop}:∀n,p n->∃m,m<=n/\p m/\∀j,j<m->¬ p j:=by
 intro n
 induction n using Nat.strongRecOn with
 |_ n ih =>
  intro h
  by_cases c:∃j,j<n/\p j
  .obtain ⟨j,hj,pj⟩:=c;obtain⟨m,h1,h2,h3⟩:=ih j hj pj;exact⟨m,by lia,h2,h3⟩
  .exact ⟨n,ai _,h,λj hj pj=>c ⟨j,hj,pj⟩⟩
structure PJ (f:Int->Int) (E:List Int):Prop where
 nd:E.Nodup
 to:∀e∈E,f e∈E
 inj:∀a∈E,∀b∈E,f a=f b->a=b
section
variable {f:Int->Int}{E:List Int}
theorem PJ.itr_mem(h:PJ f E) {e:Int}(he:e∈E):∀n,itr f n e∈E
 |0=>he
 |n+1=>h.to _ (h.itr_mem he n)
theorem PJ.itr_inj(h:PJ f E) {a b:Int}(ha:a∈E) (hb:b∈E):∀n,itr f n a=itr f n b->a=b
 |0,e=>e
 |n+1,e=>h.itr_inj ha hb n (h.inj _ (h.itr_mem ha n) _ (h.itr_mem hb n) e)
theorem PJ.cut(h:PJ f E) {e:Int}(he:e∈E) {i j:Nat}(hij:i<=j) (q:itr f i e=itr f j e):itr f (j-i) e=e:=by
 have e1:itr f j e=itr f i (itr f (j-i) e):=by rw[←Fy];congr 1;lia
 rw[e1]at q;exact(h.itr_inj he (h.itr_mem he _) i q).symm
structure Cy (f:Int->Int) (e:Int) (l:List Int):Prop where
 len:1<=l.length
 get:l=(bq l.length).map λn=>itr f n e
 back:itr f l.length e=e
 nd:l.Nodup
theorem PJ.cy(h:PJ f E) {e:Int}(he:e∈E):∃l,Cy f e l/\l.length<=E.length/\∀j,0<j->j<l.length->itr f j e≠e:=by
 have hex:∃k,1<=k/\k<=E.length/\itr f k e=e:=by
  by_cases c:((bq (E.length+1)).map λn=>itr f n e).Nodup
  .have:=TN _ E c (λx hx=>by obtain⟨n,_,rfl⟩:=mMq.mp hx;exact h.itr_mem he n)
   rw[lMq,bf]at this;lia
  .rw [aT,bz]at c;have:∃i j,i<j/\j<E.length+1/\itr f i e=itr f j e:=by
    by_cases d:∃i j,i<j/\j<E.length+1/\itr f i e=itr f j e
    .exact d
    .exfalso;refine c ?_;refine cg.imp_of_mem (R:=λa b=>a<b) (λ{a b} ha hb hab q=>d ⟨a,b,hab,cC.mp hb,q⟩) fU
   obtain⟨i,j,hij,hj,q⟩:=this;exact⟨j-i,by lia,by lia,h.cut he (bA hij) q⟩
 obtain⟨k,h1,h2,h3⟩:=hex;obtain⟨m,m1,⟨m2,m3⟩,m4⟩:=ND (p:=λk=>1<=k/\itr f k e=e) k ⟨h1,h3⟩
 refine⟨(bq m).map λn=>itr f n e,⟨by rw[lMq,bf];exact m2,by rw[lMq,bf],by rw[lMq,bf];exact m3,?_⟩,by rw[lMq,bf];lia,λj hj hjm q=>?_⟩
 .rw [aT,bz];refine cg.imp_of_mem (R:=λa b=>a<b) (λ{a b} ha hb hab q=>?_) fU
  have hb':=cC.mp hb;exact m4 (b-a) (by lia) ⟨by lia,h.cut he (bA hab) q⟩
 .rw [lMq,bf]at hjm;exact m4 j hjm ⟨hj,q⟩
theorem Cy.at{e:Int}{l:List Int}(h:Cy f e l) {i:Nat}(hi:i<l.length):l[i]?=some (itr f i e):=by
 have e1:l[i]?=((bq l.length).map λn=>itr f n e)[i]?:=congrArg (λx:List Int=>x[i]?) h.get
 rw[e1,gMq,gD hi];rfl
theorem Cy.self{e:Int}{l:List Int}(h:Cy f e l):e∈l:=mGq (h.at (i:=0) (by have:=h.len;lia))
structure Yv (f:Int->Int) (E:List Int) (L:List (List Int)):Prop where
 cy:∀l∈L,∃e,Cy f e l
 dj:L.flatten.Nodup
 all:∀x,x∈L.flatten↔x∈E
end
end Zl
namespace K51
open PySem L2 Mr Z Xe
def tR:MS:=(oY (qb 7 (kSc (tZ (oz 2) (DF xw (oz 6))))) (Dy (vT (zP (oz 7) (oz 3))) (oY (AC 3 (oz 7) (kSc (rC (.bl true)))) (CW 4 (pG 7))) ux))
def vV:MS:=(oY (NL 5 (A6 4)) (AE 6 (Qs (uI 0) (oz 5)) tR))
def Dv:MS:=(oY (qb 2 (qM Zl.vH (oV (pG 0) qj)))
 (oY (qb 3 (Ih (oz 1) (kSc (rC (.bl true)))))
 (oY (qb 4 (uG (oV (pG 1) qj)))
 (oY (tU (vT (pW OV (xv uN (oI (oz 4) pA)) (rC (.int 0)))) vV 100000)
 (tV (EV (oz 3)))))))
def xH:MF:=uH 2 8 Dv
def En:MS:=(tV (uf (Bq (pG 0)) [] sJ (B5 (uI 0))))
def zi:MF:=uH 1 1 En
end K51
namespace K23
open PySem L2 Mr Z Xe
def Dg:MS:=(tV (uf (Bq (pG 0)) [1] (vT (pW (Lr true) (oz 0) (oz 1))) (pG 0)))
def xW:MF:=uH 2 2 Dg
end K23
namespace K31
open PySem L2 Mr Z Xe
def BQ:MS:=(oY (qb 3 (kSc (rC (.int 1))))
 (oY (qb 4 (kSc (rC (.int 0))))
 (oY (Dy (vT (pW OV (pW ue (oz 0) (rC (.int 3))) (rC (.int 0)))) (oY (qb 3 (kSc (pW vK (rC (.int 1)) (pW ue (pW yL (oz 0) (rC (.int 3))) (pW Hw (rC (.int 10)) (rC (.int 40))))))) (qb 4 (kSc (pW ue (pW yL (oz 1) (rC (.int 66))) (pW Hw (rC (.int 10)) (rC (.int 40))))))) ux)
 (tV (kSc (pW vK (pW Fo (oz 3) (pW vK (pW ue (pW vK (pW Fo (pW vK (rC (.int 1)) (pW ue (oz 1) (rC (.int 66)))) (oz 2)) (oz 0)) (rC (.int 67))) (rC (.int 1)))) (oz 4)))))))
def wB:MF:=uH 3 5 BQ
end K31
namespace K43
open PySem L2 Mr Z Xe
def xS:MS:=(oY (qb 2 (FE (EZ 1) (lOf (uf (Bq (pG 1)) [] sJ (kSc (DF xw (oz 0)))))))
 (tV (uf (Bq (pG 0)) [2] sJ (qM K23.xW (oV (pG 0) (oV (pG 1) qj))))))
def um:MF:=uH 2 3 xS
end K43
namespace K41
open PySem L2 Mr Z
def tE:MS:=(oY (qb 7 (kSc (tZ (oz 2) (DF xw (oz 6))))) (Dy (vT (pW N2 (oz 7) (oz 1))) (T3 5 (pW DJ (rOf (qM K51.xH (oV (pG 3) (oV (pG 7) qj)))) (rC (.int 0))) (xv zU (oI (oz 6) pA))) (Dy (vT (pW OV (oz 6) (rC (.int 0)))) (CW 4 (uG (oV (pG 6) qj))) ux)))
def D4:MS:=(oY (qb 2 (qM Zl.vH (oV (pG 0) qj)))
 (oY (qb 3 (qM K43.um (oV (pG 0) (oV (uf (Bq (Qs (uI 0) (oz 1))) [] sJ (kSc (xv zU (oI (oz 0) pA)))) qj))))
 (oY (qb 4 (uG qj))
 (oY (qb 5 BW)
 (oY (AE 6 (Qs (uI 0) (oz 1)) tE)
 (tV (A0 (Oq 4 (uf (Tt 5) [] sJ (CD (uI 0)))))))))))
def tI:MF:=uH 2 8 D4
def GU:MS:=(tV (uf (VY (oI (xv uN (oI (oz 0) pA)) pA)) [0] (vT (pW WZ (xv uN (oI (rOf (qM K41.tI (oV (pG 1) (oV (pG 0) qj)))) pA)) (rC (.int 2)))) (pG 0)))
def Bk:MF:=uH 1 1 GU
end K41
namespace K44
open PySem L2 Mr Z
def vt:MS:=(oY (qb 2 (kSc (pW vK (pW vK (oz 2) (rC (.int 1))) (pW ue (oz 0) (pW Hw (rC (.int 10)) (rC (.int 57))))))) (oY (qb 0 (kSc (pW NI (oz 0) (pW Hw (rC (.int 10)) (rC (.int 57)))))) (CW 3 (pG 2))))
def zj:MS:=(oY (qb 2 (kSc (rC (.int 0))))
 (oY (qb 3 (uG qj))
 (oY (yU 4 (oI (oz 1) pA) vt)
 (tV (EK 3)))))
def vC:MF:=uH 2 5 zj
def yq:MS:=(oY (OR 3 (FH 2 (pW ue (oz 0) (xv uN (oI (oz 2) pA))))) (qb 0 (kSc (pW yL (oz 0) (pW vK (xv uN (oI (oz 2) pA)) (rC (.int 1)))))))
def C5:MS:=(oY (qb 2 (B5 (uI 1)))
 (oY (qb 3 (uG qj))
 (oY (yU 4 (oI (xv uN (oI (oz 1) pA)) pA) yq)
 (tV (EK 3)))))
def zB:MF:=uH 2 5 C5
def uU:MS:=(L1 2 (lOf (uG (oV (pG 3) (oV (kSc (DF xw (oz 3))) qj)))))
def uO:MS:=(CW 8 (kSc (tZ (oz 4) (pW DJ (oz 8) (DF xw (rC (.int 1)))))))
def ve:MS:=(AC 6 (oz 9) (kSc (rC (.bl true))))
def tD:MS:=(Dy (vT (zP (oz 7) (oz 6))) (oY (qb 8 (uG (oV (pG 7) qj))) (oY (tU (vT (pW N2 (tZ (oz 4) (pW DJ (oz 8) (DF xw (rC (.int 1))))) (oz 7))) uO 100000) (oY (AE 9 (pG 8) ve) (CW 5 (pG 8))))) ux)
def Bl:MS:=(oY (qb 2 (uG qj))
 (oY (AE 3 (pG 1) uU)
 (oY (qb 4 (Xl (oI (oz 2) (oI (rOf (qM K44.zB (oV (pG 0) (oV (pG 2) qj)))) pA))))
 (oY (qb 5 (uG qj))
 (oY (qb 6 BW)
 (oY (AE 7 (pG 2) tD)
 (tV (EK 5))))))))
def wV:MF:=uH 2 10 Bl
end K44
namespace K48
open PySem L2 Mr Z
def zX:MS:=(tV (uf (Bq (pG 0)) [1] (vT (pW (Lr false) (xv zU (oI (oz 0) pA)) (oz 1))) (pG 0)))
def vh:MF:=uH 2 2 zX
def DK:MS:=(oY (Dy (vT (pW HB (xv uN (oI (pW DJ (oz 0) (oz 1)) pA)) (rC (.int 0)))) (tV (qM Zl.qa (oV (pG 0) qj))) ux)
 (oY (qb 2 (uf (Bq (qM K41.tI (oV (pG 0) (oV (pG 1) qj)))) [0,1] sJ (qM K48.vh (oV (Qs (uI 1) (oz 2)) (oV (pG 0) qj)))))
 (tV (qM Zl.qa (oV (FE (lOf (FE (lOf (LV (uI 0) yY (xB (oz 1)))) (EZ 2))) (lOf (LV (uI 0) (xB (pW vK (oz 1) (rC (.int 1)))) yY))) qj)))))
def AO:MF:=uH 2 3 DK
def vE:MS:=(CW 3 (uG (oV (kSc (pW DJ (oz 1) (oz 4))) (oV (kSc (DF xw (pW DJ (oz 1) (Wb (vT (pW OV (oz 4) (rC (.int 0)))) (pW IM (oz 4) (rC (.int 1))) (pW IM (oz 2) (rC (.int 1))))))) qj))))
def wR:MS:=(oY (qb 5 (kSc (pW DJ (oz 1) (pW vK (oz 2) (oz 4))))) (oY (qb 6 (kSc (pW ue (pW yL (oz 0) (rC (.int 36))) (oz 2)))) (oY (qb 7 (kSc (pW ue (pW vK (pW vK (oz 6) (rC (.int 1))) (pW ue (pW yL (oz 0) (rC (.int 144))) (pW IM (oz 2) (rC (.int 1))))) (oz 2)))) (oY (Js 3 (WT 3 (P9 3) (oz 6)) (pW ue (pW vK (pW yL (oz 0) (rC (.int 5))) (oz 4)) (pW vK (xv uN (oI (pW DJ (oz 3) (oz 6)) pA)) (rC (.int 1)))) (oz 5)) (Js 3 (WT 3 (P9 3) (oz 7)) (pW ue (pW vK (pW yL (oz 0) (rC (.int 7))) (oz 4)) (pW vK (xv uN (oI (pW DJ (oz 3) (oz 7)) pA)) (rC (.int 1)))) (DF xw (oz 5)))))))
def zF:MS:=(oY (Dy (vT (pW HB (pW ue (oz 0) (rC (.int 4))) (rC (.int 0)))) (tV (uG (oV (uG (oV (kSc (pW DJ (oz 1) (rC (.int 0)))) qj)) (oV (uG (oV (kSc (DF xw (pW DJ (oz 1) (rC (.int 0))))) qj)) qj)))) ux)
 (oY (Dy (vT (pW HB (pW ue (oz 0) (rC (.int 4))) (rC (.int 1)))) (tV (uG (oV (uG (oV (kSc (pW DJ (oz 1) (rC (.int 0)))) (oV (kSc (DF xw (pW DJ (oz 1) (rC (.int 0))))) qj))) qj))) ux)
 (oY (qb 2 (kSc (pW vK (rC (.int 2)) (pW ue (pW yL (oz 0) (rC (.int 4))) (rC (.int 3))))))
 (oY (qb 3 (uG qj))
 (oY (yU 4 (oI (oz 2) pA) vE)
 (oY (yU 4 (oI (pW ue (pW yL (oz 0) (rC (.int 12))) (rC (.int 3))) pA) wR)
 (tV (EK 3))))))))
def xU:MF:=uH 2 8 zF
def BG:MS:=(oY (Dy (vT (pW WK (pW ue (oz 0) (rC (.int 4))) (rC (.int 2)))) (tV (kSc (rC (.int 1)))) ux)
 (tV (kSc (pW vK (pW vK (rC (.int 2)) (pW ue (pW yL (oz 0) (rC (.int 4))) (rC (.int 3)))) (pW ue (pW yL (oz 0) (rC (.int 12))) (rC (.int 3)))))))
def yQ:MF:=uH 1 1 BG
def vd:MS:=(oY (qb 6 (kSc (yH K48.yQ (oI (oz 5) pA)))) (Dy (vT (pW XD (oz 6) (xv uN (oI (oz 4) pA)))) (oY (qb 7 (qM K48.xU (oV (pG 5) (oV (LV (uI 4) yY (xB (oz 6))) qj)))) (oY (qb 4 (LV (uI 4) (xB (oz 6)) yY)) (oY (L1 3 (EZ 7)) (oY (qb 8 (kSc (pW ue (pW yL (oz 5) (rC (.int 8))) (xv uN (oI (oz 2) pA))))) (oY (qb 9 (Qs (uI 2) (oz 8))) (oY (qb 10 (kSc (pW ue (pW yL (oz 5) (rC (.int 24))) (pW vK (xv uN (oI (oz 9) pA)) (rC (.int 1)))))) (oY (T4 2 (oz 8) (FE (lOf (FE (lOf (LV (uI 9) yY (xB (oz 10)))) (lOf (Qs (uI 7) (rC (.int 0)))))) (lOf (LV (uI 9) (xB (oz 10)) yY)))) (L1 2 (lOf (uf (Bq (LV (uI 7) (xB (rC (.int 1))) yY)) [] sJ (B5 (uI 0)))))))))))) ux))
def C8:MS:=(oY (qb 2 (uG (oV (uG qj) qj)))
 (oY (qb 3 (uG qj))
 (oY (qb 4 (B5 (uI 1)))
 (oY (AE 5 (pG 0) vd)
 (tV (Jj (oV (pG 2) (oV (pG 3) qj))))))))
def zu:MF:=uH 2 11 C8
def BC:MS:=(oY (qb 1 (kSc (yH Zl.qg (oI (oz 0) (oI (rC (.int 0)) pA)))))
 (oY (qb 2 (kSc (yH Zl.qg (oI (oz 0) (oI (rC (.int 1)) pA)))))
 (oY (qb 3 (kSc (yH Zl.qg (oI (oz 0) (oI (rC (.int 2)) pA)))))
 (oY (qb 4 (uf (VY (oI (rC (.int 12)) pA)) [1,2,3] sJ (kSc (pW Fo (yH K31.wB (oI (oz 1) (oI (oz 2) (oI (oz 0) pA)))) (pW IM (rC (.int 1)) (pW Fo (rC (.int 2)) (pW ue (pW yL (oz 3) (pW vK (oz 0) (rC (.int 1)))) (rC (.int 2)))))))))
 (oY (qb 5 (qM K48.zu (oV (LV (uI 0) (xB (rC (.int 3))) (xB (rC (.int 66)))) (oV (pG 4) qj))))
 (oY (qb 6 (qM Zl.qa (oV (Q7 (pG 5) (rC (.int 1))) qj)))
 (oY (Dy (vT (pW HB (xv uN (oI (pW Q9 (oz 5) (rC (.int 1))) pA)) (rC (.int 0)))) (qb 6 (uG (oV (uG qj) qj))) ux)
 (tV (Jj (oV (qM Zl.qa (oV (Q7 (pG 5) (rC (.int 0))) qj)) (oV (pG 6) qj)))))))))))
def zr:MF:=uH 1 7 BC
def sO:MS:=(oY (qb 7 (kSc (tZ (oz 1) (DF xw (oz 6))))) (Dy (D2 (vT (pW N2 (oz 7) (oz 2))) (vT (zP (oz 7) (oz 3)))) (oY (AC 3 (oz 7) (pG 4)) (CW 5 (pG 7))) ux))
def wU:MS:=(J6 6 (Pd 0 (A6 5)) sO)
def uD:MS:=(Dy (D2 (vT (pW N2 (oz 4) (oz 2))) (vT (zP (oz 4) (oz 3)))) (oY (AC 3 (oz 4) (pG 4)) (oY (qb 5 (uG (oV (pG 4) qj))) (tU (vT (pW OV (xv uN (oI (oz 5) pA)) (rC (.int 0)))) wU 100000))) ux)
def D1:MS:=(oY (qb 3 BW)
 (oY (yU 4 (oI (xv uN (oI (oz 0) pA)) pA) uD)
 (tV (EK 3))))
def AJ:MF:=uH 3 8 D1
def yc:MS:=(oY (AC 1 (oz 5) (pG 3)) (AC 2 (xv zU (oI (oz 5) pA)) (kSc (xv zU (oI (oz 5) pA)))))
def wa:MS:=(AE 5 (pG 4) yc)
def sS:MS:=(Dy (D2 (vT (pW N2 (tZ (oz 1) (DF xw (oz 7))) (oz 3))) (D2 (vT (pW N2 (tZ (oz 1) (DF xw (oz 8))) (oz 3))) (vT (pW HB (tZ (oz 6) (tZ (oz 1) (DF xw (oz 7)))) (tZ (oz 6) (tZ (oz 1) (DF xw (oz 8)))))))) (oY (qb 9 (kSc (tZ (oz 2) (xv zU (oI (oz 8) pA))))) (oY (qb 10 (kSc (tZ (oz 2) (xv zU (oI (oz 7) pA))))) (qb 2 (Xq (lOf (uf (UD 2) [10,9,2] sJ (Jj (oV (pG 0) (oV (kSc (Wb (vT (pW HB (BJ (oz 3) (oz 0)) (oz 2))) (oz 1) (BJ (oz 3) (oz 0)))) qj))))))))) ux)
def uK:MS:=(AE 8 (pG 4) sS)
def tN:MS:=(oY (qb 6 (qM K48.AJ (oV (pG 0) (oV (pG 1) (oV (pG 3) qj))))) (AE 7 (pG 4) uK))
def we:MS:=(CW 11 (uf (Bq (pG 4)) [12,2] (vT (pW HB (tZ (oz 2) (xv zU (oI (oz 0) pA))) (oz 1))) (pG 0)))
def rV:MS:=(oY (AE 12 (N4 (lOf (uf (Bq (pG 4)) [2] sJ (kSc (tZ (oz 1) (xv zU (oI (oz 0) pA))))))) we) (Dy (vT (pW DE (oz 4) (rOf (uG qj)))) (CW 11 (uG qj)) ux))
def Cu:MS:=(oY (qb 1 BW)
 (oY (qb 2 BW)
 (oY (Gf 3 4 (pG 0) wa)
 (oY (Gf 3 4 (pG 0) tN)
 (oY (qb 11 (uG qj))
 (oY (AE 4 (pG 0) rV)
 (tV (EK 11))))))))
def zH:MF:=uH 1 13 Cu
def Gq:MS:=(oY (qb 1 (kSc (yH Zl.qg (oI (oz 0) (oI (rC (.int 0)) pA)))))
 (oY (qb 2 (qM K44.vC (oV (kSc (yH Zl.qg (oI (oz 0) (oI (rC (.int 1)) pA)))) (oV (kSc (pW ue (oz 1) (rC (.int 16)))) qj))))
 (oY (qb 3 (FE (lOf (qM K44.wV (oV (kSc (yH Zl.qg (oI (oz 0) (oI (rC (.int 2)) pA)))) (oV (pG 2) qj)))) (lOf (uf (VY (oI (pW ue (pW yL (oz 1) (rC (.int 16))) (rC (.int 4))) pA)) [] sJ (uG qj)))))
 (tV (Jj (oV (qM Zl.qa (oV (pG 3) qj)) (oV (qM Zl.qa (oV (qM K48.zH (oV (pG 3) qj)) qj)) qj)))))))
def Ck:MF:=uH 1 4 Gq
def vi:MS:=(oY (qb 6 (qM K41.Bk (oV (pG 4) qj))) (oY (Dy (Th (NW (vT (xv Mb (oI (oz 6) (oI (rC (.ty "list")) pA))))) (vT (pW HB (xv uN (oI (oz 6) pA)) (rC (.int 0))))) HF ux) (qb 4 (qM K48.AO (oV (pG 4) (oV (kSc (pW DJ (oz 6) (pW ue (yH Zl.qg (oI (oz 0) (oI (pW vK (oz 5) (rC (.int 2))) pA))) (xv uN (oI (oz 6) pA))))) qj))))))
def HH:MS:=(oY (Jx 1 2 (qM K48.zr (oV (pG 0) qj)))
 (oY (Dy (vT (pW HB (pW ue (xv uN (oI (oz 0) pA)) (rC (.int 2))) (rC (.int 0)))) (Jx 1 2 (qM K48.Ck (oV (pG 0) qj))) ux)
 (oY (qb 3 (qM K51.zi (oV (pG 1) qj)))
 (oY (qb 4 (pG 3))
 (oY (yU 5 (oI (rC (.int 24)) pA) vi)
 (tV (kSc (Ut (pW DE (oz 3) (oz 1)) (pW DE (oz 4) (oz 2))))))))))
def JS:MF:=uH 1 7 HH
def B6(i:Nat):Stmt:=PySem.Challenge.pw_mapround_k48_whole_parts_again.main.body.getD i (.Pass ⟨0,0,0,0⟩)
section
variable {P:kq}{w:kr}{K:W.Frag}{mg:Str->Option Value}{base:Heap}
abbrev Bi:Stmt:=B6 1
theorem Ep:pH ["ends", "start"] ["ends"] (oP Bi):=sC
abbrev Gb(P w K mg base):=Fn P w K mg base 1 "turned" Bi ["ends"] (ud K Zl.wt)
theorem K3(D:Av K mg "turned" Bi ["ends"] f fd) (B:Bt mg)     : Gb P w K mg base f fd :=
 B1 D Ep λ_ _ _ _ _ _ hr hu hu65=>⟨_,
   (ox (uA (pQ yR (oX qo (by rfl) B.len PySem.boot_len (ot (pv 0) oy)) oC (qD _)) (oG (qe (qC oy))) qT)
   (ox (oZ (i:=1) Ep (uT aE fE iq FR (pv 0) (ot (oX (Ea rfl) (by rfl) B.min iH (ot (pv 0) oy)) oy)))
   (oG (qe (oR yn (sY uh (pv 0) (tK (pv 1)) vf) (sY uh (pv 0) vf (tK (pv 1)))))))),
   (oA (uC (pP (oE yE (qN rW (oB (ou 0) oN)) oD)) (qm (qF oU)) qU)
   (oA (oO (i:=1) (SR.kSc (Sl (T := "list") Hk (ou 0) (oB (qN OT (oB (ou 0) oN)) oN))))
   (qm (zk (SK.lOf (yJ (qZ 0) (tQ (ou 1)) vc)) (SK.lOf (yJ (qZ 0) vc (tQ (ou 1))))))))⟩
abbrev ug:Stmt:=B6 2
theorem BH:pH ["turns"] ["turns"] (oP ug):=sC
abbrev yF(P w K mg base):=Fn P w K mg base 2 "in_good_order" ug ["turns"] (ud K Zl.qa)
theorem BD(D:Av K mg "in_good_order" ug ["turns"] f fd) (B:Bt mg)   (G_turned:Gb P w K mg base u0 v0)  : yF P w K mg base f fd :=
 B1 D BH λ_ _ _ _ _ _ hr hu hu65=>⟨_,
   (oG (qe (oX (ye hu) (by rfl) B.sorted cW (ot (sU (cl:=[]) (N:=["turn"]) (fr:=[]) rfl rfl (by decide +kernel) rfl (by decide +kernel) rfl (tq.none (by decide +kernel)) (qp (pv 0)) (λ_ _ _ _=>vv) (λ_ _ _ _=>(qG G_turned hr (ot (pv 0) oy)))) oy)))),
   (qm (Ew (sZ (oJ 0) vz (pU (oH (oJ 0) oU)))))⟩
abbrev wQ:Stmt:=B6 3
theorem uS:pH ["m", "places", "place", "turn", "end"] ["m"] (oP wQ):=sC
abbrev yX(P w K mg base):=Fn P w K mg base 1 "places_at" wQ ["m"] (ud K Zl.vH)
theorem EW(D:Av K mg "places_at" wQ ["m"] f fd) (B:Bt mg)     : yX P w K mg base f fd :=
 B1 D uS λ_ _ _ _ _ _ hr hu hu65=>⟨_,
   (ox (oZ (i:=1) uS xG)
   (ox (rN PassesOwn.never rfl (Ff (by rfl) B.enum (ot (pv 0) oy)) (CG rfl (uc (rQ (i:=2) uS) (uc (rQ (i:=3) uS) Az)))
    (oG (rN PassesOwn.never rfl (qp (pv 3)) (rQ (i:=4) uS)
    (oG (xZ (rY hr) (pv 1) (pv 4) (pv 2) rfl)))))
   (oG (qe (pv 1))))),
   (oA (oO (i:=1) zG)
   (oA (FP (oJ 0) (vN (oJ 3) (ya (i:=1) (oJ 2) (ou 4))))
   (qm (Aq 1))))⟩
abbrev zN:Stmt:=B6 5
theorem Ig:pH ["turn", "gone"] ["turn", "gone"] (oP zN):=sC
abbrev DX(P w K mg base):=Fn P w K mg base 1 "thinned" zN ["turn", "gone"] (ud K K23.xW)
theorem HV(D:Av K mg "thinned" zN ["turn", "gone"] f fd) (B:Bt mg)     : DX P w K mg base f fd :=
 B1 D Ig λ_ _ _ _ _ _ hr hu hu65=>⟨_,
   (oG (qe (sU (N:=["end", "gone"]) (fr:=[1]) rfl rfl (by decide +kernel) rfl (by decide +kernel) rfl (tq.of (by decide +kernel) rfl rfl (by exact⟨rfl,trivial⟩) (by repeat (first|exact trivial|refine⟨(by first|exact λ_=>⟨_,rfl⟩|exact λh=>(by rcases h with h|h <;> cases h)),?_⟩)) (by exact⟨⟨rfl,rfl,rfl⟩,trivial⟩)) (qp (pv 0)) (λ_ _ _ _=>EC (pQ E9 (pv 0) (pv 1) rfl)) (λ_ _ _ _=>(pv 0))))),
   (qm (sZ (oJ 0) (pP (oE (Mf true) (ou 0) (ou 1))) (oJ 0)))⟩
abbrev zJ:Stmt:=B6 7
theorem uq:pH ["m", "start", "place_of", "known", "waiting", "here", "end", "there"] ["m", "start"] (oP zJ):=sC
abbrev DO(P w K mg base):=Fn P w K mg base 2 "reached" zJ ["m", "start"] (ud K K51.xH)
theorem HY(D:Av K mg "reached" zJ ["m", "start"] f fd) (B:Bt mg)   (G_places_at:yX P w K mg base u2 v2)  : DO P w K mg base f fd :=
 B1 D uq λ_ _ _ _ _ _ hr hu hu65=>⟨_,
   (ox (oZ (i:=2) uq (qG G_places_at hr (ot (pv 0) oy)))
   (ox (oZ (i:=3) uq (Qd (MU (pv 1) O6 Qg) rfl rfl (by simp) (by decide)))
   (ox (oZ (i:=4) uq (qC (ot (pv 1) oy)))
   (ox (CQ PassesOwn.never (pQ GP (oX qo (by rfl) B.len PySem.boot_len (ot (pv 4) oy)) oC (qD _)) (ox (oZ (i:=5) uq (Oo aE gh gj Pj (pv 4))) (oG (rN PassesOwn.never rfl (qp (sq qB (pv 0) (pv 5) (λ_ _=>rfl))) (rQ (i:=6) uq)
    (ox (oZ (i:=7) uq (rS (rY hr) (pv 2) (wH uu (pv 6)) (by first|rfl|exact trivial|(intro _ _;rfl)))) (oG (uA (FA (zO (rY hr) (pv 7) (pv 3))) (ox (xZ (rY hr) (pv 3) (pv 7) O6 rfl) (oG (rZ (uT aE bh bj rP (pv 4) (ot (pv 7) oy))))) qT)))))))
   (oG (qe (oX (FB rfl) (by rfl) B.sorted cW (ot (pv 3) oy)))))))),
   (oA (oO (i:=2) (pU (oH (oJ 0) oU)))
   (oA (oO (i:=3) (O4 (ou 1) (SR.kSc OG)))
   (oA (oO (i:=4) (qF (oH (oJ 1) oU)))
   (oA (CB 100000 (pP (oE GE (qN rW (oB (ou 4) oN)) oD)) (oA (Rq (i:=5) (Kd (i:=4))) (vN (El (qZ 0) (ou 5)) (oA (oO (i:=7) (SR.kSc (sV (ou 2) (wA uo (ou 6))))) (uC (Ee (zQ (ou 7) (ou 3))) (oA (ya (i:=3) (SR.kSc OG) (ou 7)) (yx (i:=4) (oJ 7))) qU)))))
   (qm (OQ (ou 3)))))))⟩
abbrev ui:Stmt:=B6 9
theorem xD:pH ["m", "roads", "gone"] ["m", "roads"] (oP ui):=sC
abbrev yD(P w K mg base):=Fn P w K mg base 2 "without_roads" ui ["m", "roads"] (ud K K43.um)
theorem BO(D:Av K mg "without_roads" ui ["m", "roads"] f fd) (B:Bt mg)   (G_thinned:DX P w K mg base u3 v3)  : yD P w K mg base f fd :=
 B1 D xD λ_ _ _ _ _ _ hr hu hu65=>⟨_,
   (ox (oZ (i:=2) xD (oR yn (pv 1) (sU (cl:=[]) (N:=["road"]) (fr:=[]) rfl rfl (by decide +kernel) rfl (by decide +kernel) rfl (tq.none (by decide +kernel)) (qp (pv 1)) (λ_ _ _ _=>vv) (λ_ _ _ _=>(wH uu (pv 0))))))
   (oG (qe (sU (N:=["turn", "gone"]) (fr:=[2]) rfl rfl (by decide +kernel) rfl (by decide +kernel) rfl (tq.of (by decide +kernel) rfl rfl (by exact⟨rfl,trivial⟩) (by repeat (first|exact trivial|refine⟨(by first|exact λ_=>⟨_,rfl⟩|exact λh=>(by rcases h with h|h <;> cases h)),?_⟩)) (by exact⟨⟨rfl,rfl,rfl⟩,trivial⟩)) (qp (pv 0)) (λ_ _ _ _=>vv) (λ_ _ _ _=>(qG G_thinned hr (ot (pv 0) (ot (pv 1) oy)))))))),
   (oA (oO (i:=2) (zk (CH 1) (SK.lOf (sZ (oJ 1) vz (SR.kSc (wA uo (ou 0)))))))
   (qm (sZ (oJ 0) vz (pU (oH (oJ 0) (oH (oJ 1) oU))))))⟩
abbrev Bh:Stmt:=B6 10
theorem vq:pH ["m", "place", "place_of", "past", "loops", "hanging", "end", "there"] ["m", "place"] (oP Bh):=sC
abbrev C1(P w K mg base):=Fn P w K mg base 3 "groups" Bh ["m", "place"] (ud K K41.tI)
theorem KF(D:Av K mg "groups" Bh ["m", "place"] f fd) (B:Bt mg)   (G_places_at:yX P w K mg base u2 v2) (G_without_roads:yD P w K mg base u5 v5) (G_reached:DO P w K mg base u4 v4)  : C1 P w K mg base f fd :=
 B1 D vq λ_ _ _ _ _ _ hr hu hu65=>⟨_,
   (ox (oZ (i:=2) vq (qG G_places_at hr (ot (pv 0) oy)))
   (ox (oZ (i:=3) vq (qG G_without_roads hr (ot (pv 0) (ot (sU (cl:=[]) (N:=["end"]) (fr:=[]) rfl rfl (by decide +kernel) rfl (by decide +kernel) rfl (tq.none (by decide +kernel)) (qp (sq qB (pv 0) (pv 1) (λ_ _=>rfl))) (λ_ _ _ _=>vv) (λ_ _ _ _=>(oX vg (by rfl) B.abs bP (ot (pv 0) oy)))) oy))))
   (ox (oZ (i:=4) vq (qC oy))
   (ox (oZ (i:=5) vq xG)
   (ox (rN PassesOwn.never rfl (qp (sq qB (pv 0) (pv 1) (λ_ _=>rfl))) (rQ (i:=6) vq)
    (ox (oZ (i:=7) vq (rS (rY hr) (pv 2) (wH uu (pv 6)) (by first|rfl|exact trivial|(intro _ _;rfl)))) (oG (uA (pQ Et (pv 7) (pv 1) (qD _)) (oG (rZ (uT aE bh bj rP (KL (pv 5) (sq qB (qG G_reached hr (ot (pv 3) (ot (pv 7) oy))) oC (λ_ _=>rfl)) (qC oy) ⟨rfl,rfl,rfl,rfl⟩) (ot (oX vg (by rfl) B.abs bP (ot (pv 6) oy)) oy)))) (oG (uA (pQ GP (pv 6) oC (qD _)) (oG (rZ (uT aE bh bj rP (pv 4) (ot (qC (ot (pv 6) oy)) oy)))) qT))))))
   (oG (qe (oX (ye hu) (by rfl) B.sorted cW (ot (oR yn (pv 4) (sU (cl:=[]) (N:=["roads"]) (fr:=[]) rfl rfl (by decide +kernel) rfl (by decide +kernel) rfl (tq.none (by decide +kernel)) (Xe.Rc (pv 5)) (λ_ _ _ _=>vv) (λ_ _ _ _=>(oX ED (by rfl) B.sorted cW (ot (pv 0) oy))))) oy))))))))),
   (oA (oO (i:=2) (pU (oH (oJ 0) oU)))
   (oA (oO (i:=3) (pU (oH (oJ 0) (oH (sZ (El (qZ 0) (ou 1)) vz (SR.kSc (qN yA (oB (ou 0) oN)))) oU))))
   (oA (oO (i:=4) (qF oU))
   (oA (oO (i:=5) zG)
   (oA (vN (El (qZ 0) (ou 1)) (oA (oO (i:=7) (SR.kSc (sV (ou 2) (wA uo (ou 6))))) (uC (pP (oE Ei (ou 7) (ou 1))) (TU (i:=5) (oE wq (SK.rOf (pU (oH (oJ 3) (oH (oJ 7) oU)))) oD) (qN yA (oB (ou 6) oN))) (uC (pP (oE GE (ou 6) oD)) (yx (i:=4) (qF (oH (oJ 6) oU))) qU))))
   (P8 (KW (Td (j:=4) (NP (i:=5) vz (ON (qZ 0)))))))))))⟩
abbrev Cd:Stmt:=B6 11
theorem MX:pH ["m"] ["m"] (oP Cd):=sC
abbrev JO(P w K mg base):=Fn P w K mg base 4 "doors" Cd ["m"] (ud K K41.Bk)
theorem M3(D:Av K mg "doors" Cd ["m"] f fd) (B:Bt mg)   (G_groups:C1 P w K mg base u6 v6)  : JO P w K mg base f fd :=
 B1 D MX λ_ _ _ _ _ _ hr hu hu65=>⟨_,
   (oG (qe (sU (N:=["place", "m"]) (fr:=[0]) rfl rfl (by decide +kernel) rfl (by decide +kernel) rfl (tq.of (by decide +kernel) rfl rfl (by exact⟨rfl,trivial⟩) (by repeat (first|exact trivial|refine⟨(by first|exact λ_=>⟨_,rfl⟩|exact λh=>(by rcases h with h|h <;> cases h)),?_⟩)) (by exact⟨⟨rfl,rfl,rfl⟩,trivial⟩)) (tP (by rfl) B.range (ot (oX qo (by rfl) B.len PySem.boot_len (ot (pv 0) oy)) oy)) (λ_ _ _ _=>EC (pQ VT (oX qo (by rfl) B.len PySem.boot_len (ot (qG G_groups hr (ot (pv 1) (ot (pv 0) oy))) oy)) oC (qD _))) (λ_ _ _ _=>(pv 0))))),
   (qm (BE (oB (qN rW (oB (ou 0) oN)) oN) (pP (oE Wg (qN rW (oB (SK.rOf (pU (oH (oJ 1) (oH (oJ 0) oU)))) oN)) oD)) (oJ 0)))⟩
abbrev vW:Stmt:=B6 12
theorem DA:pH ["turn", "roads"] ["turn", "roads"] (oP vW):=sC
abbrev AM(P w K mg base):=Fn P w K mg base 1 "only_roads" vW ["turn", "roads"] (ud K K48.vh)
theorem DD(D:Av K mg "only_roads" vW ["turn", "roads"] f fd) (B:Bt mg)     : AM P w K mg base f fd :=
 B1 D DA λ_ _ _ _ _ _ hr hu hu65=>⟨_,
   (oG (qe (sU (N:=["end", "roads"]) (fr:=[1]) rfl rfl (by decide +kernel) rfl (by decide +kernel) rfl (tq.of (by decide +kernel) rfl rfl (by exact⟨rfl,trivial⟩) (by repeat (first|exact trivial|refine⟨(by first|exact λ_=>⟨_,rfl⟩|exact λh=>(by rcases h with h|h <;> cases h)),?_⟩)) (by exact⟨⟨rfl,rfl,rfl⟩,trivial⟩)) (qp (pv 0)) (λ_ _ _ _=>EC (pQ KB (oX vg (by rfl) B.abs bP (ot (pv 0) oy)) (pv 1) rfl)) (λ_ _ _ _=>(pv 0))))),
   (qm (sZ (oJ 0) (pP (oE (Mf false) (qN yA (oB (ou 0) oN)) (ou 1))) (oJ 0)))⟩
abbrev AN:Stmt:=B6 13
theorem Ed:pH ["m", "place", "parts"] ["m", "place"] (oP AN):=sC
abbrev Hc(P w K mg base):=Fn P w K mg base 4 "fallen" AN ["m", "place"] (ud K K48.AO)
theorem Kk(D:Av K mg "fallen" AN ["m", "place"] f fd) (B:Bt mg)   (G_in_good_order:yF P w K mg base u1 v1) (G_only_roads:AM P w K mg base u8 v8) (G_groups:C1 P w K mg base u6 v6)  : Hc P w K mg base f fd :=
 B1 D Ed λ_ _ _ _ _ _ hr hu hu65=>⟨_,
   (ox (uA (pQ yR (oX qo (by rfl) B.len PySem.boot_len (ot (sq qB (pv 0) (pv 1) (λ_ _=>rfl)) oy)) oC (qD _)) (oG (qe (qG G_in_good_order hr (ot (pv 0) oy)))) qT)
   (ox (J1 (i:=2) (N:=["roads", "m", "place"]) (fr:=[0,1]) rfl Ed.nd rfl (by trivial) rfl (by decide +kernel) rfl (by decide +kernel) rfl (tq.of (by decide +kernel) rfl rfl (by exact⟨rfl,rfl,trivial⟩) (by repeat (first|exact trivial|refine⟨(by first|exact λ_=>⟨_,rfl⟩|exact λh=>(by rcases h with h|h <;> cases h)),?_⟩)) (by exact⟨⟨rfl,rfl,rfl⟩,⟨rfl,rfl,rfl⟩,trivial⟩)) (qp (qG G_groups hr (ot (pv 0) (ot (pv 1) oy)))) (λ_ _ _ _=>vv) (λ_ _ _ _=>(qG G_only_roads hr (ot (sq qB (pv 1) (pv 2) (λ_ _=>rfl)) (ot (pv 0) oy)))))
   (oG (qe (qG G_in_good_order hr (ot (oR yn (oR yn (sY uh (pv 0) vf (tK (pv 1))) (pv 2)) (sY uh (pv 0) (tK (oR rL (pv 1) oC)) vf)) oy)))))),
   (oA (uC (pP (oE yE (qN rW (oB (oE wq (ou 0) (ou 1)) oN)) oD)) (qm (pU (oH (oJ 0) oU))) qU)
   (oA (oO (i:=2) (sZ (pU (oH (oJ 0) (oH (oJ 1) oU))) vz (pU (oH (El (qZ 1) (ou 2)) (oH (oJ 0) oU)))))
   (qm (pU (oH (zk (SK.lOf (zk (SK.lOf (yJ (qZ 0) vc (tQ (ou 1)))) (CH 2))) (SK.lOf (yJ (qZ 0) (tQ (oE rH (ou 1) oD)) vc))) oU)))))⟩
abbrev Bg:Stmt:=B6 15
theorem K8:pH ["_law_script", "_law_k"] ["_law_script", "_law_k"] (oP Bg):=sC
abbrev A5(P w K mg base):=Fn P w K mg base 1 "_law_cell" Bg ["_law_script", "_law_k"] (ud K Zl.qg)
theorem Kn(D:Av K mg "_law_cell" Bg ["_law_script", "_law_k"] f fd) (B:Bt mg)     : A5 P w K mg base f fd :=
 B1 D K8 λ_ _ _ _ _ _ hr hu hu65=>⟨_,
   (ox (uA (pQ RM (pv 1) (oX qo (by rfl) B.len PySem.boot_len (ot (pv 0) oy)) (qD _)) (oG (qe (sq qB (pv 0) (pv 1) (λ_ _=>rfl)))) qT)
   (oG (qe oC))),
   (oA (uC (pP (oE RP (ou 1) (qN rW (oB (ou 0) oN)))) (qm (SR.kSc (oE wq (ou 0) (ou 1)))) qU)
   (qm (SR.kSc oD)))⟩
abbrev A7:Stmt:=B6 16
theorem xI:pH ["_law_one", "_law_two", "_law_k", "_law_step", "_law_shift"] ["_law_one", "_law_two", "_law_k"] (oP A7):=sC
abbrev FY(P w K mg base):=Fn P w K mg base 1 "_law_name" A7 ["_law_one", "_law_two", "_law_k"] (ud K K31.wB)
theorem LK(D:Av K mg "_law_name" A7 ["_law_one", "_law_two", "_law_k"] f fd) (B:Bt mg)     : FY P w K mg base f fd :=
 B1 D xI λ_ _ _ _ _ _ hr hu hu65=>⟨_,
   (ox (oZ (i:=3) xI oC)
   (ox (oZ (i:=4) xI oC)
   (ox (uA (pQ GP (oR qJ (pv 0) oC) oC (qD _)) (ox (oZ (i:=3) xI (oR rL oC (oR qJ (oR sX (pv 0) oC) (oR Fi oC oC)))) (oG (oZ (i:=4) xI (oR qJ (oR sX (pv 1) oC) (oR Fi oC oC))))) qT)
   (oG (qe (oR rL (oR FC (pv 3) (oR rL (oR qJ (oR rL (oR FC (oR rL oC (oR qJ (pv 1) oC)) (pv 2)) (pv 0)) oC) oC)) (pv 4))))))),
   (oA (oO (i:=3) (SR.kSc oD))
   (oA (oO (i:=4) (SR.kSc oD))
   (oA (uC (pP (oE GE (oE qI (ou 0) oD) oD)) (oA (oO (i:=3) (SR.kSc (oE rH oD (oE qI (oE uw (ou 0) oD) (oE Fe oD oD))))) (oO (i:=4) (SR.kSc (oE qI (oE uw (ou 1) oD) (oE Fe oD oD))))) qU)
   (qm (SR.kSc (oE rH (oE E7 (ou 3) (oE rH (oE qI (oE rH (oE E7 (oE rH oD (oE qI (ou 1) oD)) (ou 2)) (ou 0)) oD) oD)) (ou 4)))))))⟩
abbrev yt:Stmt:=B6 17
theorem B0:pH ["_law_turn", "_law_at"] ["_law_turn"] (oP yt):=sC
abbrev Ct(P w K mg base):=Fn P w K mg base 1 "_law_turned" yt ["_law_turn"] (ud K Zl.wt)
theorem GR(D:Av K mg "_law_turned" yt ["_law_turn"] f fd) (B:Bt mg)     : Ct P w K mg base f fd :=
 B1 D B0 λ_ _ _ _ _ _ hr hu hu65=>⟨_,
   (ox (uA (pQ yR (oX qo (by rfl) B.len PySem.boot_len (ot (pv 0) oy)) oC (qD _)) (oG (qe (qC oy))) qT)
   (ox (oZ (i:=1) B0 (uT aE fE iq FR (pv 0) (ot (oX (Ea rfl) (by rfl) B.min iH (ot (pv 0) oy)) oy)))
   (oG (qe (oR yn (sY uh (pv 0) (tK (pv 1)) vf) (sY uh (pv 0) vf (tK (pv 1)))))))),
   (oA (uC (pP (oE yE (qN rW (oB (ou 0) oN)) oD)) (qm (qF oU)) qU)
   (oA (oO (i:=1) (SR.kSc (Sl (T := "list") Hk (ou 0) (oB (qN OT (oB (ou 0) oN)) oN))))
   (qm (zk (SK.lOf (yJ (qZ 0) (tQ (ou 1)) vc)) (SK.lOf (yJ (qZ 0) vc (tQ (ou 1))))))))⟩
abbrev A4:Stmt:=B6 18
theorem Kr:pH ["_law_turns"] ["_law_turns"] (oP A4):=sC
abbrev CP(P w K mg base):=Fn P w K mg base 2 "_law_good" A4 ["_law_turns"] (ud K Zl.qa)
theorem K2(D:Av K mg "_law_good" A4 ["_law_turns"] f fd) (B:Bt mg)   (Iv:Ct P w K mg base u12 v12)  : CP P w K mg base f fd :=
 B1 D Kr λ_ _ _ _ _ _ hr hu hu65=>⟨_,
   (oG (qe (oX (ye hu) (by rfl) B.sorted cW (ot (sU (cl:=[]) (N:=["_law_turn"]) (fr:=[]) rfl rfl (by decide +kernel) rfl (by decide +kernel) rfl (tq.none (by decide +kernel)) (qp (pv 0)) (λ_ _ _ _=>vv) (λ_ _ _ _=>(qG Iv hr (ot (pv 0) oy)))) oy)))),
   (qm (Ew (sZ (oJ 0) vz (pU (oH (oJ 0) oU)))))⟩
abbrev Ba:Stmt:=B6 19
theorem KC:pH ["_law_m"] ["_law_m"] (oP Ba):=sC
abbrev GV(P w K mg base):=Fn P w K mg base 1 "_law_copy" Ba ["_law_m"] (ud K K51.zi)
theorem Lw(D:Av K mg "_law_copy" Ba ["_law_m"] f fd) (B:Bt mg)     : GV P w K mg base f fd :=
 B1 D KC λ_ _ _ _ _ _ hr hu hu65=>⟨_,
   (oG (qe (sU (cl:=[]) (N:=["_law_turn"]) (fr:=[]) rfl rfl (by decide +kernel) rfl (by decide +kernel) rfl (tq.none (by decide +kernel)) (qp (pv 0)) (λ_ _ _ _=>vv) (λ_ _ _ _=>(zR vX (by rfl) B.list dC (ot (pv 0) oy)))))),
   (qm (sZ (oJ 0) vz (Cp (qZ 0))))⟩
abbrev A8:Stmt:=B6 20
theorem uE:pH ["_law_cell_here", "_law_names", "_law_many", "_law_turns", "_law_k", "_law_end", "_law_at", "_law_to"] ["_law_cell_here", "_law_names"] (oP A8):=sC
abbrev G8(P w K mg base):=Fn P w K mg base 1 "_law_part" A8 ["_law_cell_here", "_law_names"] (ud K K48.xU)
theorem K7(D:Av K mg "_law_part" A8 ["_law_cell_here", "_law_names"] f fd) (B:Bt mg)     : G8 P w K mg base f fd :=
 B1 D uE λ_ _ _ _ _ _ hr hu hu65=>⟨_,
   (ox (uA (pQ yR (oR qJ (pv 0) oC) oC (qD _)) (oG (qe (qC (ot (qC (ot (sq qB (pv 1) oC (λ_ _=>rfl)) oy)) (ot (qC (ot (wH uu (sq qB (pv 1) oC (λ_ _=>rfl))) oy)) oy))))) qT)
   (ox (uA (pQ yR (oR qJ (pv 0) oC) oC (qD _)) (oG (qe (qC (ot (qC (ot (sq qB (pv 1) oC (λ_ _=>rfl)) (ot (wH uu (sq qB (pv 1) oC (λ_ _=>rfl))) oy))) oy)))) qT)
   (ox (oZ (i:=2) uE (oR rL oC (oR qJ (oR sX (pv 0) oC) oC)))
   (ox (oZ (i:=3) uE (qC oy))
   (ox (rN PassesOwn.never rfl (tP (by rfl) B.range (ot (pv 2) oy)) (rQ (i:=4) uE)
    (oG (rZ (uT aE bh bj rP (pv 3) (ot (qC (ot (sq qB (pv 1) (pv 4) (λ_ _=>rfl)) (ot (wH uu (sq qB (pv 1) (Ho (pQ GP (pv 4) oC (qD _)) (oR Fz (pv 4) oC) (oR Fz (pv 2) oC)) (λ_ _=>rfl))) oy))) oy)))))
   (ox (rN PassesOwn.never rfl (tP (by rfl) B.range (ot (oR qJ (oR sX (pv 0) oC) oC) oy)) (rQ (i:=4) uE)
    (ox (oZ (i:=5) uE (sq qB (pv 1) (oR rL (pv 2) (pv 4)) (λ_ _=>rfl))) (ox (oZ (i:=6) uE (oR qJ (oR sX (pv 0) oC) (pv 2))) (ox (oZ (i:=7) uE (oR qJ (oR rL (oR rL (pv 6) oC) (oR qJ (oR sX (pv 0) oC) (oR Fz (pv 2) oC))) (pv 2))) (ox (rZ (uT aE hJ hV DZ (sq qB (pv 3) (pv 6) (λ_ _=>rfl)) (ot (oR qJ (oR rL (oR sX (pv 0) oC) (pv 4)) (oR rL (oX qo (by rfl) B.len PySem.boot_len (ot (sq qB (pv 3) (pv 6) (λ_ _=>rfl)) oy)) oC)) (ot (pv 5) oy)))) (oG (rZ (uT aE hJ hV DZ (sq qB (pv 3) (pv 7) (λ_ _=>rfl)) (ot (oR qJ (oR rL (oR sX (pv 0) oC) (pv 4)) (oR rL (oX qo (by rfl) B.len PySem.boot_len (ot (sq qB (pv 3) (pv 7) (λ_ _=>rfl)) oy)) oC)) (ot (wH uu (pv 5)) oy))))))))))
   (oG (qe (pv 3))))))))),
   (oA (uC (pP (oE yE (oE qI (ou 0) oD) oD)) (qm (qF (oH (qF (oH (SR.kSc (oE wq (ou 1) oD)) oU)) (oH (qF (oH (SR.kSc (wA uo (oE wq (ou 1) oD))) oU)) oU)))) qU)
   (oA (uC (pP (oE yE (oE qI (ou 0) oD) oD)) (qm (qF (oH (qF (oH (SR.kSc (oE wq (ou 1) oD)) (oH (SR.kSc (wA uo (oE wq (ou 1) oD))) oU))) oU))) qU)
   (oA (oO (i:=2) (SR.kSc (oE rH oD (oE qI (oE uw (ou 0) oD) oD))))
   (oA (oO (i:=3) (qF oU))
   (oA (xO (oB (ou 2) oN) (yx (i:=3) (qF (oH (SR.kSc (oE wq (ou 1) (ou 4))) (oH (SR.kSc (wA uo (oE wq (ou 1) (RN (pP (oE GE (ou 4) oD)) (oE EL (ou 4) oD) (oE EL (ou 2) oD))))) oU)))))
   (oA (xO (oB (oE qI (oE uw (ou 0) oD) oD) oN) (oA (oO (i:=5) (SR.kSc (oE wq (ou 1) (oE rH (ou 2) (ou 4))))) (oA (oO (i:=6) (SR.kSc (oE qI (oE uw (ou 0) oD) (ou 2)))) (oA (oO (i:=7) (SR.kSc (oE qI (oE rH (oE rH (ou 6) oD) (oE qI (oE uw (ou 0) oD) (oE EL (ou 2) oD))) (ou 2)))) (oA (JI (Nk (Ju 3) (ou 6)) (oE qI (oE rH (oE uw (ou 0) oD) (ou 4)) (oE rH (qN rW (oB (oE wq (ou 3) (ou 6)) oN)) oD)) (ou 5)) (JI (Nk (Ju 3) (ou 7)) (oE qI (oE rH (oE uw (ou 0) oD) (ou 4)) (oE rH (qN rW (oB (oE wq (ou 3) (ou 7)) oN)) oD)) (wA uo (ou 5))))))))
   (qm (Aq 3))))))))⟩
abbrev Ax:Stmt:=B6 21
theorem KZ:pH ["_law_cell_here"] ["_law_cell_here"] (oP Ax):=sC
abbrev FQ(P w K mg base):=Fn P w K mg base 1 "_law_need" Ax ["_law_cell_here"] (ud K K48.yQ)
theorem Kp(D:Av K mg "_law_need" Ax ["_law_cell_here"] f fd) (B:Bt mg)     : FQ P w K mg base f fd :=
 B1 D KZ λ_ _ _ _ _ _ hr hu hu65=>⟨_,
   (ox (uA (pQ RM (oR qJ (pv 0) oC) oC (qD _)) (oG (qe oC)) qT)
   (oG (qe (oR rL (oR rL oC (oR qJ (oR sX (pv 0) oC) oC)) (oR qJ (oR sX (pv 0) oC) oC))))),
   (oA (uC (pP (oE RP (oE qI (ou 0) oD) oD)) (qm (SR.kSc oD)) qU)
   (qm (SR.kSc (oE rH (oE rH oD (oE qI (oE uw (ou 0) oD) oD)) (oE qI (oE uw (ou 0) oD) oD)))))⟩
abbrev zt:Stmt:=B6 22
theorem rh:pH ["_law_cells", "_law_names", "_law_turns", "_law_parts_here", "_law_left", "_law_cell_here", "_law_need_here", "_law_part_here", "_law_at", "_law_here", "_law_gap"] ["_law_cells", "_law_names"] (oP zt):=sC
abbrev Ec(P w K mg base):=Fn P w K mg base 2 "_law_glued" zt ["_law_cells", "_law_names"] (ud K K48.zu)
theorem HR(D:Av K mg "_law_glued" zt ["_law_cells", "_law_names"] f fd) (B:Bt mg)   (Mz:FQ P w K mg base u16 v16) (Oi:G8 P w K mg base u15 v15)  : Ec P w K mg base f fd :=
 B1 D rh λ_ _ _ _ _ _ hr hu hu65=>⟨_,
   (ox (oZ (i:=2) rh (qC (ot (qC oy) oy)))
   (ox (oZ (i:=3) rh (qC oy))
   (ox (oZ (i:=4) rh (zR vX (by rfl) B.list dC (ot (pv 1) oy)))
   (ox (rN PassesOwn.never rfl (qp (pv 0)) (rQ (i:=5) rh)
    (ox (oZ (i:=6) rh (qG Mz hr (ot (pv 5) oy))) (oG (uA (pQ VJ (pv 6) (oX qo (by rfl) B.len PySem.boot_len (ot (pv 4) oy)) (qD _)) (ox (oZ (i:=7) rh (qG Oi hr (ot (pv 5) (ot (sY uh (pv 4) vf (tK (pv 6))) oy)))) (ox (oZ (i:=4) rh (sY uh (pv 4) (tK (pv 6)) vf)) (ox (rZ (uT aE fh fj BP (pv 3) (ot (pv 7) oy))) (ox (oZ (i:=8) rh (oR qJ (oR sX (pv 5) oC) (oX qo (by rfl) B.len PySem.boot_len (ot (pv 2) oy)))) (ox (oZ (i:=9) rh (sq qB (pv 2) (pv 8) (λ_ _=>rfl))) (ox (oZ (i:=10) rh (oR qJ (oR sX (pv 5) oC) (oR rL (oX qo (by rfl) B.len PySem.boot_len (ot (pv 9) oy)) oC))) (ox (HQ (oR yn (oR yn (sY uh (pv 9) vf (tK (pv 10))) (sq qB (pv 7) oC (λ_ _=>rfl))) (sY uh (pv 9) (tK (pv 10)) vf)) (TK (pv 2) (pv 8) NJ)) (oG (rZ (uT aE fh fj BP (pv 2) (ot (sU (cl:=[]) (N:=["_law_turn"]) (fr:=[]) rfl rfl (by decide +kernel) rfl (by decide +kernel) rfl (tq.none (by decide +kernel)) (qp (sY uh (pv 7) (tK oC) vf)) (λ_ _ _ _=>vv) (λ_ _ _ _=>(zR vX (by rfl) B.list dC (ot (pv 0) oy)))) oy))))))))))) qT))))
   (oG (qe (FO (ot (pv 2) (ot (pv 3) oy))))))))),
   (oA (oO (i:=2) (qF (oH (qF oU) oU)))
   (oA (oO (i:=3) (qF oU))
   (oA (oO (i:=4) (Cp (qZ 1)))
   (oA (vN (oJ 0) (oA (oO (i:=6) (SR.kSc (vQ (oB (ou 5) oN)))) (uC (pP (oE Vc (ou 6) (qN rW (oB (ou 4) oN)))) (oA (oO (i:=7) (pU (oH (oJ 5) (oH (yJ (qZ 4) vc (tQ (ou 6))) oU)))) (oA (oO (i:=4) (yJ (qZ 4) (tQ (ou 6)) vc)) (oA (Im (i:=3) (CH 7)) (oA (oO (i:=8) (SR.kSc (oE qI (oE uw (ou 5) oD) (qN rW (oB (ou 2) oN))))) (oA (oO (i:=9) (El (qZ 2) (ou 8))) (oA (oO (i:=10) (SR.kSc (oE qI (oE uw (ou 5) oD) (oE rH (qN rW (oB (ou 9) oN)) oD)))) (oA (Ue (i:=2) (zk (SK.lOf (zk (SK.lOf (yJ (qZ 9) vc (tQ (ou 10)))) (SK.lOf (El (qZ 7) oD)))) (SK.lOf (yJ (qZ 9) (tQ (ou 10)) vc))) (ou 8)) (Im (i:=2) (SK.lOf (sZ (yJ (qZ 7) (tQ oD) vc) vz (Cp (qZ 0)))))))))))) qU)))
   (qm (E8 (oH (oJ 2) (oH (oJ 3) oU))))))))⟩
abbrev vB:Stmt:=B6 23
theorem se:pH ["_law_cell_here", "_law_many", "_law_total", "_law_names", "_law_k"] ["_law_cell_here", "_law_many"] (oP vB):=sC
abbrev zW(P w K mg base):=Fn P w K mg base 1 "_law_gap_names" vB ["_law_cell_here", "_law_many"] (ud K K44.vC)
theorem CY(D:Av K mg "_law_gap_names" vB ["_law_cell_here", "_law_many"] f fd) (B:Bt mg)     : zW P w K mg base f fd :=
 B1 D se λ_ _ _ _ _ _ hr hu hu65=>⟨_,
   (ox (oZ (i:=2) se oC)
   (ox (oZ (i:=3) se (qC oy))
   (ox (rN PassesOwn.never rfl (tP (by rfl) B.range (ot (pv 1) oy)) (rQ (i:=4) se)
    (ox (oZ (i:=2) se (oR rL (oR rL (pv 2) oC) (oR qJ (pv 0) (oR Fi oC oC)))) (ox (oZ (i:=0) se (oR MW (pv 0) (oR Fi oC oC))) (oG (rZ (uT aE bh bj rP (pv 3) (ot (pv 2) oy)))))))
   (oG (qe (pv 3)))))),
   (oA (oO (i:=2) (SR.kSc oD))
   (oA (oO (i:=3) (qF oU))
   (oA (xO (oB (ou 1) oN) (oA (oO (i:=2) (SR.kSc (oE rH (oE rH (ou 2) oD) (oE qI (ou 0) (oE Fe oD oD))))) (oA (oO (i:=0) (SR.kSc (oE Qo (ou 0) (oE Fe oD oD)))) (yx (i:=3) (oJ 2)))))
   (qm (Aq 3)))))⟩
abbrev zA:Stmt:=B6 24
theorem wz:pH ["_law_cell_here", "_law_things", "_law_left", "_law_found", "_law_k"] ["_law_cell_here", "_law_things"] (oP zA):=sC
abbrev DQ(P w K mg base):=Fn P w K mg base 1 "_law_dealt" zA ["_law_cell_here", "_law_things"] (ud K K44.zB)
theorem HS(D:Av K mg "_law_dealt" zA ["_law_cell_here", "_law_things"] f fd) (B:Bt mg)     : DQ P w K mg base f fd :=
 B1 D wz λ_ _ _ _ _ _ hr hu hu65=>⟨_,
   (ox (oZ (i:=2) wz (zR vX (by rfl) B.list dC (ot (pv 1) oy)))
   (ox (oZ (i:=3) wz (qC oy))
   (ox (rN PassesOwn.never rfl (tP (by rfl) B.range (ot (oX qo (by rfl) B.len PySem.boot_len (ot (pv 1) oy)) oy)) (rQ (i:=4) wz)
    (ox (rZ (uT aE bh bj rP (pv 3) (ot (uT aE gh gj Mv (pv 2) (ot (oR qJ (pv 0) (oX qo (by rfl) B.len PySem.boot_len (ot (pv 2) oy))) oy)) oy))) (oG (oZ (i:=0) wz (oR sX (pv 0) (oR rL (oX qo (by rfl) B.len PySem.boot_len (ot (pv 2) oy)) oC))))))
   (oG (qe (pv 3)))))),
   (oA (oO (i:=2) (Cp (qZ 1)))
   (oA (oO (i:=3) (qF oU))
   (oA (xO (oB (qN rW (oB (ou 1) oN)) oN) (oA (Qp (i:=3) (OJ (i:=2) (oE qI (ou 0) (qN rW (oB (ou 2) oN))))) (oO (i:=0) (SR.kSc (oE uw (ou 0) (oE rH (qN rW (oB (ou 2) oN)) oD))))))
   (qm (Aq 3)))))⟩
abbrev wY:Stmt:=B6 25
theorem qP:pH ["_law_cell_here", "_law_names", "_law_ends", "_law_name_here", "_law_follow", "_law_turns", "_law_met", "_law_end", "_law_turn", "_law_each"] ["_law_cell_here", "_law_names"] (oP wY):=sC
abbrev B4(P w K mg base):=Fn P w K mg base 2 "_law_any_map" wY ["_law_cell_here", "_law_names"] (ud K K44.wV)
theorem Fb(D:Av K mg "_law_any_map" wY ["_law_cell_here", "_law_names"] f fd) (B:Bt mg)   (Kz:DQ P w K mg base u19 v19)  : B4 P w K mg base f fd :=
 B1 D qP λ_ _ _ _ _ _ hr hu hu65=>⟨_,
   (ox (oZ (i:=2) qP (qC oy))
   (ox (rN PassesOwn.never rfl (qp (pv 1)) (rQ (i:=3) qP)
    (oG (rZ (uT aE fh fj BP (pv 2) (ot (qC (ot (pv 3) (ot (wH uu (pv 3)) oy))) oy)))))
   (ox (oZ (i:=4) qP (Wy rfl (by rfl) B.dict (by rfl) B.zip (ot (pv 2) (ot (qG Kz hr (ot (pv 0) (ot (pv 2) oy))) oy))))
   (ox (oZ (i:=5) qP (qC oy))
   (ox (oZ (i:=6) qP xG)
   (ox (rN PassesOwn.never rfl (qp (pv 2)) (rQ (i:=7) qP)
    (oG (uA (FA (zO (rY hr) (pv 7) (pv 6))) (ox (oZ (i:=8) qP (qC (ot (pv 7) oy))) (ox (CQ PassesOwn.never (pQ Et (rS (rY hr) (pv 4) (sq qB (pv 8) (wH uu oC) (λ_ _=>rfl)) (by first|rfl|exact trivial|(intro _ _;rfl))) (pv 7) (qD _)) (oG (rZ (uT aE bh bj rP (pv 8) (ot (rS (rY hr) (pv 4) (sq qB (pv 8) (wH uu oC) (λ_ _=>rfl)) (by first|rfl|exact trivial|(intro _ _;rfl))) oy))))) (ox (rN PassesOwn.never rfl (qp (pv 8)) (rQ (i:=9) qP)
    (oG (xZ (rY hr) (pv 6) (pv 9) O6 rfl))) (oG (rZ (uT aE bh bj rP (pv 5) (ot (pv 8) oy))))))) qT)))
   (oG (qe (pv 5))))))))),
   (oA (oO (i:=2) (qF oU))
   (oA (vN (oJ 1) (Im (i:=2) (SK.lOf (qF (oH (oJ 3) (oH (SR.kSc (wA uo (ou 3))) oU))))))
   (oA (oO (i:=4) (Vs (oB (ou 2) (oB (SK.rOf (pU (oH (oJ 0) (oH (oJ 2) oU)))) oN))))
   (oA (oO (i:=5) (qF oU))
   (oA (oO (i:=6) zG)
   (oA (vN (oJ 2) (uC (Ee (zQ (ou 7) (ou 6))) (oA (oO (i:=8) (qF (oH (oJ 7) oU))) (oA (CB 100000 (pP (oE Ei (sV (ou 4) (oE wq (ou 8) (wA uo oD))) (ou 7))) (yx (i:=8) (SR.kSc (sV (ou 4) (oE wq (ou 8) (wA uo oD)))))) (oA (vN (oJ 8) (ya (i:=6) (SR.kSc OG) (ou 9))) (yx (i:=5) (oJ 8))))) qU))
   (qm (Aq 5))))))))⟩
abbrev AR:Stmt:=B6 26
theorem uz:pH ["_law_script", "_law_one", "_law_two", "_law_bits", "_law_names", "_law_built", "_law_due"] ["_law_script"] (oP AR):=sC
abbrev Gy(P w K mg base):=Fn P w K mg base 3 "_law_some" AR ["_law_script"] (ud K K48.zr)
theorem Lu(D:Av K mg "_law_some" AR ["_law_script"] f fd) (B:Bt mg)   (uY:A5 P w K mg base u10 v10) (Ln:Ec P w K mg base u17 v17) (zo:CP P w K mg base u13 v13) (Nt:FY P w K mg base u11 v11)  : Gy P w K mg base f fd :=
 B1 D uz λ_ _ _ _ _ _ hr hu hu65=>⟨_,
   (ox (oZ (i:=1) uz (qG uY hr (ot (pv 0) (ot oC oy))))
   (ox (oZ (i:=2) uz (qG uY hr (ot (pv 0) (ot oC oy))))
   (ox (oZ (i:=3) uz (qG uY hr (ot (pv 0) (ot oC oy))))
   (ox (J1 (i:=4) (N:=["_law_k", "_law_one", "_law_two", "_law_bits"]) (fr:=[1,2,3]) rfl uz.nd rfl (by trivial) rfl (by decide +kernel) rfl (by decide +kernel) rfl (tq.of (by decide +kernel) rfl rfl (by exact⟨rfl,rfl,rfl,trivial⟩) (by repeat (first|exact trivial|refine⟨(by first|exact λ_=>⟨_,rfl⟩|exact λh=>(by rcases h with h|h <;> cases h)),?_⟩)) (by exact⟨⟨rfl,rfl,rfl⟩,⟨rfl,rfl,rfl⟩,⟨rfl,rfl,rfl⟩,trivial⟩)) (tP (by rfl) B.range (ot oC oy)) (λ_ _ _ _=>vv) (λ_ _ _ _=>(oR FC (qG Nt hr (ot (pv 1) (ot (pv 2) (ot (pv 0) oy)))) (oR Fz oC (oR FC oC (oR qJ (oR sX (pv 3) (oR rL (pv 0) oC)) oC))))))
   (ox (oZ (i:=5) uz (qG Ln hr (ot (sY uh (pv 0) (tK oC) (tK oC)) (ot (pv 4) oy))))
   (ox (oZ (i:=6) uz (qG zo hr (ot (sq IS (pv 5) oC (λ_ _=>rfl)) oy)))
   (ox (uA (pQ yR (oX qo (by rfl) B.len PySem.boot_len (ot (sq IS (pv 5) oC (λ_ _=>rfl)) oy)) oC (qD _)) (oG (oZ (i:=6) uz (qC (ot (qC oy) oy)))) qT)
   (oG (qe (FO (ot (qG zo hr (ot (sq IS (pv 5) oC (λ_ _=>rfl)) oy)) (ot (pv 6) oy)))))))))))),
   (oA (oO (i:=1) (SR.kSc (vQ (oB (ou 0) (oB oD oN)))))
   (oA (oO (i:=2) (SR.kSc (vQ (oB (ou 0) (oB oD oN)))))
   (oA (oO (i:=3) (SR.kSc (vQ (oB (ou 0) (oB oD oN)))))
   (oA (oO (i:=4) (BE (oB oD oN) vz (SR.kSc (oE E7 (vQ (oB (ou 1) (oB (ou 2) (oB (ou 0) oN)))) (oE EL oD (oE E7 oD (oE qI (oE uw (ou 3) (oE rH (ou 0) oD)) oD)))))))
   (oA (oO (i:=5) (pU (oH (yJ (qZ 0) (tQ oD) (tQ oD)) (oH (oJ 4) oU))))
   (oA (oO (i:=6) (pU (oH (NV (oJ 5) oD) oU)))
   (oA (uC (pP (oE yE (qN rW (oB (oE UY (ou 5) oD) oN)) oD)) (oO (i:=6) (qF (oH (qF oU) oU))) qU)
   (qm (E8 (oH (pU (oH (NV (oJ 5) oD) oU)) (oH (oJ 6) oU)))))))))))⟩
abbrev AW:Stmt:=B6 27
theorem wg:pH ["_law_turns", "_law_at", "_law_place", "_law_lump", "_law_first", "_law_ahead", "_law_end", "_law_far"] ["_law_turns", "_law_at", "_law_place"] (oP AW):=sC
abbrev GJ(P w K mg base):=Fn P w K mg base 1 "_law_past" AW ["_law_turns", "_law_at", "_law_place"] (ud K K48.AJ)
theorem Lv(D:Av K mg "_law_past" AW ["_law_turns", "_law_at", "_law_place"] f fd) (B:Bt mg)     : GJ P w K mg base f fd :=
 B1 D wg λ_ _ _ _ _ _ hr hu hu65=>⟨_,
   (ox (oZ (i:=3) wg xG)
   (ox (rN PassesOwn.never rfl (tP (by rfl) B.range (ot (oX qo (by rfl) B.len PySem.boot_len (ot (pv 0) oy)) oy)) (rQ (i:=4) wg)
    (oG (uA (PW.pt (FD (pQ Et (pv 4) (pv 2) (qD _)) (FG (FA (zO (rY hr) (pv 4) (pv 3)))))) (ox (xZ (rY hr) (pv 3) (pv 4) (pv 4) rfl) (ox (oZ (i:=5) wg (qC (ot (pv 4) oy))) (oG (CQ PassesOwn.never (pQ GP (oX qo (by rfl) B.len PySem.boot_len (ot (pv 5) oy)) oC (qD _)) (oG (rN PassesOwn.never rfl (qp (sq qB (pv 0) (Oo aE gh gj Pj (pv 5)) (λ_ _=>rfl))) (rQ (i:=6) wg)
    (ox (oZ (i:=7) wg (rS (rY hr) (pv 1) (wH uu (pv 6)) (by first|rfl|exact trivial|(intro _ _;rfl)))) (oG (uA (PW.pt (FD (pQ Et (pv 7) (pv 2) (qD _)) (FG (FA (zO (rY hr) (pv 7) (pv 3)))))) (ox (xZ (rY hr) (pv 3) (pv 7) (pv 4) rfl) (oG (rZ (uT aE bh bj rP (pv 5) (ot (pv 7) oy))))) qT))))))))) qT)))
   (oG (qe (pv 3))))),
   (oA (oO (i:=3) zG)
   (oA (xO (oB (qN rW (oB (ou 0) oN)) oN) (uC (FK (pP (oE Ei (ou 4) (ou 2))) (Ee (zQ (ou 4) (ou 3)))) (oA (ya (i:=3) (oJ 4) (ou 4)) (oA (oO (i:=5) (qF (oH (oJ 4) oU))) (CB 100000 (pP (oE GE (qN rW (oB (ou 5) oN)) oD)) (QC (T5 (i:=0) (Kd (i:=5))) (oA (oO (i:=7) (SR.kSc (sV (ou 1) (wA uo (ou 6))))) (uC (FK (pP (oE Ei (ou 7) (ou 2))) (Ee (zQ (ou 7) (ou 3)))) (oA (ya (i:=3) (oJ 4) (ou 7)) (yx (i:=5) (oJ 7))) qU)))))) qU))
   (qm (Aq 3))))⟩
abbrev zI:Stmt:=B6 28
theorem pX:pH ["_law_turns", "_law_at", "_law_part_here", "_law_place", "_law_turn", "_law_end", "_law_lump", "_law_one", "_law_other", "_law_old", "_law_new", "_law_found", "_law_number"] ["_law_turns"] (oP zI):=sC
abbrev Eg(P w K mg base):=Fn P w K mg base 2 "_law_parts" zI ["_law_turns"] (ud K K48.zH)
theorem IT(D:Av K mg "_law_parts" zI ["_law_turns"] f fd) (B:Bt mg)    (b_set:mg "set" = none) (Og:GJ P w K mg base u22 v22)  : Eg P w K mg base f fd :=
 B1 D pX λ_ _ _ _ _ _ hr hu hu65=>⟨_,
   (ox (oZ (i:=1) pX xG)
   (ox (oZ (i:=2) pX xG)
   (ox (rN PassesOwn.never rfl (Ff (by rfl) B.enum (ot (pv 0) oy)) (CG rfl (uc (rQ (i:=3) pX) (uc (rQ (i:=4) pX) Az)))
    (oG (rN PassesOwn.never rfl (qp (pv 4)) (rQ (i:=5) pX)
    (ox (xZ (rY hr) (pv 1) (pv 5) (pv 3) rfl) (oG (xZ (rY hr) (pv 2) (oX vg (by rfl) B.abs bP (ot (pv 5) oy)) (oX vg (by rfl) B.abs bP (ot (pv 5) oy)) rfl))))))
   (ox (rN PassesOwn.never rfl (Ff (by rfl) B.enum (ot (pv 0) oy)) (CG rfl (uc (rQ (i:=3) pX) (uc (rQ (i:=4) pX) Az)))
    (ox (oZ (i:=6) pX (qG Og hr (ot (pv 0) (ot (pv 1) (ot (pv 3) oy))))) (oG (rN PassesOwn.never rfl (qp (pv 4)) (rQ (i:=7) pX)
    (oG (rN PassesOwn.never rfl (qp (pv 4)) (rQ (i:=8) pX)
    (oG (uA (PW.pt (FD (pQ Et (rS (rY hr) (pv 1) (wH uu (pv 7)) (by first|rfl|exact trivial|(intro _ _;rfl))) (pv 3) (qD _)) (FD (pQ Et (rS (rY hr) (pv 1) (wH uu (pv 8)) (by first|rfl|exact trivial|(intro _ _;rfl))) (pv 3) (qD _)) (FG (pQ yR (rS (rY hr) (pv 6) (rS (rY hr) (pv 1) (wH uu (pv 7)) (by first|rfl|exact trivial|(intro _ _;rfl))) (by first|rfl|exact trivial|(intro _ _;rfl))) (rS (rY hr) (pv 6) (rS (rY hr) (pv 1) (wH uu (pv 8)) (by first|rfl|exact trivial|(intro _ _;rfl))) (by first|rfl|exact trivial|(intro _ _;rfl))) (qD _)))))) (ox (oZ (i:=9) pX (rS (rY hr) (pv 2) (oX vg (by rfl) B.abs bP (ot (pv 8) oy)) (by first|rfl|exact trivial|(intro _ _;rfl)))) (ox (oZ (i:=10) pX (rS (rY hr) (pv 2) (oX vg (by rfl) B.abs bP (ot (pv 7) oy)) (by first|rfl|exact trivial|(intro _ _;rfl)))) (oG (oZ (i:=2) pX (VQ rfl (by rfl) B.dict (ot (sU (N:=["_law_road", "_law_new", "_law_old", "_law_part_here"]) (fr:=[10,9,2]) rfl rfl (by decide +kernel) rfl (by decide +kernel) rfl (tq.of (by decide +kernel) rfl rfl (by exact⟨rfl,rfl,rfl,trivial⟩) (by repeat (first|exact trivial|refine⟨(by first|exact λ_=>⟨_,rfl⟩|exact λh=>(by rcases h with h|h <;> cases h)),?_⟩)) (by exact⟨⟨rfl,rfl,rfl⟩,⟨rfl,rfl,rfl⟩,⟨rfl,rfl,rfl⟩,trivial⟩)) (Xe.Rt (pv 2)) (λ_ _ _ _=>vv) (λ_ _ _ _=>(FO (ot (pv 0) (ot (Ho (pQ yR (rS (rY hr) (pv 3) (pv 0) (by first|rfl|exact trivial|(intro _ _;rfl))) (pv 2) (qD _)) (pv 1) (rS (rY hr) (pv 3) (pv 0) (by first|rfl|exact trivial|(intro _ _;rfl)))) oy))))) oy)))))) qT))))))))
   (ox (oZ (i:=11) pX (qC oy))
   (ox (rN PassesOwn.never rfl (qp (pv 0)) (rQ (i:=4) pX)
    (ox (rN PassesOwn.never rfl (qp (QD rfl (by rfl) B.sorted (by rfl) b_set (ot (sU (N:=["_law_end", "_law_part_here"]) (fr:=[2]) rfl rfl (by decide +kernel) rfl (by decide +kernel) rfl (tq.of (by decide +kernel) rfl rfl (by exact⟨rfl,trivial⟩) (by repeat (first|exact trivial|refine⟨(by first|exact λ_=>⟨_,rfl⟩|exact λh=>(by rcases h with h|h <;> cases h)),?_⟩)) (by exact⟨⟨rfl,rfl,rfl⟩,trivial⟩)) (qp (pv 4)) (λ_ _ _ _=>vv) (λ_ _ _ _=>(rS (rY hr) (pv 1) (oX vg (by rfl) B.abs bP (ot (pv 0) oy)) (by first|rfl|exact trivial|(intro _ _;rfl))))) oy))) (rQ (i:=12) pX)
    (oG (rZ (uT aE bh bj rP (pv 11) (ot (sU (N:=["_law_end", "_law_number", "_law_part_here"]) (fr:=[12,2]) rfl rfl (by decide +kernel) rfl (by decide +kernel) rfl (tq.of (by decide +kernel) rfl rfl (by exact⟨rfl,rfl,trivial⟩) (by repeat (first|exact trivial|refine⟨(by first|exact λ_=>⟨_,rfl⟩|exact λh=>(by rcases h with h|h <;> cases h)),?_⟩)) (by exact⟨⟨rfl,rfl,rfl⟩,⟨rfl,rfl,rfl⟩,trivial⟩)) (qp (pv 4)) (λ_ _ _ _=>EC (pQ yR (rS (rY hr) (pv 2) (oX vg (by rfl) B.abs bP (ot (pv 0) oy)) (by first|rfl|exact trivial|(intro _ _;rfl))) (pv 1) (qD _))) (λ_ _ _ _=>(pv 0))) oy))))) (oG (uA (pQ (IV hu) (pv 4) (qC oy) (qD _)) (oG (rZ (uT aE bh bj rP (pv 11) (ot (qC oy) oy)))) qT))))
   (oG (qe (pv 11))))))))),
   (oA (oO (i:=1) zG)
   (oA (oO (i:=2) zG)
   (oA (FP (oJ 0) (vN (oJ 4) (oA (ya (i:=1) (oJ 3) (ou 5)) (ya (i:=2) (SR.kSc (qN yA (oB (ou 5) oN))) (qN yA (oB (ou 5) oN))))))
   (oA (FP (oJ 0) (oA (oO (i:=6) (pU (oH (oJ 0) (oH (oJ 1) (oH (oJ 3) oU))))) (vN (oJ 4) (vN (oJ 4) (uC (FK (pP (oE Ei (sV (ou 1) (wA uo (ou 7))) (ou 3))) (FK (pP (oE Ei (sV (ou 1) (wA uo (ou 8))) (ou 3))) (pP (oE yE (sV (ou 6) (sV (ou 1) (wA uo (ou 7)))) (sV (ou 6) (sV (ou 1) (wA uo (ou 8)))))))) (oA (oO (i:=9) (SR.kSc (sV (ou 2) (qN yA (oB (ou 8) oN))))) (oA (oO (i:=10) (SR.kSc (sV (ou 2) (qN yA (oB (ou 7) oN))))) (Rh (i:=2) (Wa (O1 (i:=2) vz (E8 (oH (oJ 0) (oH (SR.kSc (RN (pP (oE yE (FZ (ou 3) (ou 0)) (ou 2))) (ou 1) (FZ (ou 3) (ou 0)))) oU)))))))) qU)))))
   (oA (oO (i:=11) (qF oU))
   (oA (vN (oJ 0) (oA (vN (QO (SL.q (SK.lOf (sZ (oJ 4) vz (SR.kSc (sV (ou 1) (qN yA (oB (ou 0) oN)))))))) (yx (i:=11) (sZ (oJ 4) (pP (oE yE (sV (ou 2) (qN yA (oB (ou 0) oN))) (ou 1))) (oJ 0)))) (uC (pP (oE Ic (ou 4) (SK.rOf (qF oU)))) (yx (i:=11) (qF oU)) qU)))
   (qm (Aq 11))))))))⟩
abbrev Cn:Stmt:=B6 29
theorem A9:pH ["_law_script", "_law_size", "_law_names", "_law_turns"] ["_law_script"] (oP Cn):=sC
abbrev Kg(P w K mg base):=Fn P w K mg base 3 "_law_any" Cn ["_law_script"] (ud K K48.Ck)
theorem Px(D:Av K mg "_law_any" Cn ["_law_script"] f fd) (B:Bt mg)   (uY:A5 P w K mg base u10 v10) (DG:zW P w K mg base u18 v18) (GO:B4 P w K mg base u20 v20) (zo:CP P w K mg base u13 v13) (LD:Eg P w K mg base u23 v23)  : Kg P w K mg base f fd :=
 B1 D A9 λ_ _ _ _ _ _ hr hu hu65=>⟨_,
   (ox (oZ (i:=1) A9 (qG uY hr (ot (pv 0) (ot oC oy))))
   (ox (oZ (i:=2) A9 (qG DG hr (ot (qG uY hr (ot (pv 0) (ot oC oy))) (ot (oR qJ (pv 1) oC) oy))))
   (ox (oZ (i:=3) A9 (oR yn (qG GO hr (ot (qG uY hr (ot (pv 0) (ot oC oy))) (ot (pv 2) oy))) (sU (cl:=[]) (N:=["_law_k"]) (fr:=[]) rfl rfl (by decide +kernel) rfl (by decide +kernel) rfl (tq.none (by decide +kernel)) (tP (by rfl) B.range (ot (oR qJ (oR sX (pv 1) oC) oC) oy)) (λ_ _ _ _=>vv) (λ_ _ _ _=>(qC oy)))))
   (oG (qe (FO (ot (qG zo hr (ot (pv 3) oy)) (ot (qG zo hr (ot (qG LD hr (ot (pv 3) oy)) oy)) oy)))))))),
   (oA (oO (i:=1) (SR.kSc (vQ (oB (ou 0) (oB oD oN)))))
   (oA (oO (i:=2) (pU (oH (SR.kSc (vQ (oB (ou 0) (oB oD oN)))) (oH (SR.kSc (oE qI (ou 1) oD)) oU))))
   (oA (oO (i:=3) (zk (SK.lOf (pU (oH (SR.kSc (vQ (oB (ou 0) (oB oD oN)))) (oH (oJ 2) oU)))) (SK.lOf (BE (oB (oE qI (oE uw (ou 1) oD) oD) oN) vz (qF oU)))))
   (qm (E8 (oH (pU (oH (oJ 3) oU)) (oH (pU (oH (pU (oH (oJ 3) oU)) oU)) oU)))))))⟩
abbrev zY:Stmt:=B6 30
theorem xo:pH ["_law_script", "_law_m", "_law_due", "_law_handed", "_law_fell", "_law_step", "_law_told"] ["_law_script"] (oP zY):=sC
abbrev Wi(P w K mg base):=Fn P w K mg base 5 "law" zY ["_law_script"] (ud K K48.JS)
theorem TL(D:Av K mg "law" zY ["_law_script"] f fd) (B:Bt mg)   (O8:Gy P w K mg base u21 v21) (O0:GV P w K mg base u14 v14) (Qv:Kg P w K mg base u24 v24) (G_doors:JO P w K mg base u7 v7) (G_fallen:Hc P w K mg base u9 v9) (uY:A5 P w K mg base u10 v10)  : Wi P w K mg base f fd :=
 B1 D xo λ_ _ _ _ _ _ hr hu hu65=>⟨_,
   (ox (HQ (qG O8 hr (ot (pv 0) oy)) (CG rfl (uc (rQ (i:=1) xo) (uc (rQ (i:=2) xo) Az))))
   (ox (uA (pQ yR (oR qJ (oX qo (by rfl) B.len PySem.boot_len (ot (pv 0) oy)) oC) oC (qD _)) (oG (HQ (qG Qv hr (ot (pv 0) oy)) (CG rfl (uc (rQ (i:=1) xo) (uc (rQ (i:=2) xo) Az))))) qT)
   (ox (oZ (i:=3) xo (qG O0 hr (ot (pv 1) oy)))
   (ox (oZ (i:=4) xo (pv 3))
   (ox (rN PassesOwn.never rfl (tP (by rfl) B.range (ot oC oy)) (rQ (i:=5) xo)
    (ox (oZ (i:=6) xo (qG G_doors hr (ot (pv 4) oy))) (ox (uA (PW.pt (Vn (UM (TB (oX Ny (by rfl) B.isi jB (ot (pv 6) (ot (Qn (v:=.ty "list") (by rfl) B.list dC rfl) oy))))) (Ud (pQ yR (oX qo (by rfl) B.len PySem.boot_len (ot (pv 6) oy)) oC (qD _))))) (oG Of) qT) (oG (oZ (i:=4) xo (qG G_fallen hr (ot (pv 4) (ot (sq qB (pv 6) (oR qJ (qG uY hr (ot (pv 0) (ot (oR rL (pv 5) oC) oy))) (oX qo (by rfl) B.len PySem.boot_len (ot (pv 6) oy))) (λ_ _=>rfl)) oy))))))))
   (oG (qe (Tg (JT (IV hu) (pv 3) (pv 1) (qD _)) (UA (JT (IV hu) (pv 4) (pv 2) (qD _))))))))))),
   (oA (JP (i:=1) (j:=2) (pU (oH (oJ 0) oU)))
   (oA (uC (pP (oE yE (oE qI (qN rW (oB (ou 0) oN)) oD) oD)) (JP (i:=1) (j:=2) (pU (oH (oJ 0) oU))) qU)
   (oA (oO (i:=3) (pU (oH (oJ 1) oU)))
   (oA (oO (i:=4) (oJ 3))
   (oA (xO (oB oD oN) (oA (oO (i:=6) (pU (oH (oJ 4) oU))) (oA (uC (V6 (UI (Ee (qN Uv (oB (ou 6) (oB V0 oN))))) (pP (oE yE (qN rW (oB (ou 6) oN)) oD))) NX qU) (oO (i:=4) (pU (oH (oJ 4) (oH (SR.kSc (oE wq (ou 6) (oE qI (vQ (oB (ou 0) (oB (oE rH (ou 5) oD) oN))) (qN rW (oB (ou 6) oN))))) oU)))))))
   (qm (SR.kSc (TJ (oE Ic (ou 3) (ou 1)) (oE Ic (ou 4) (ou 2))))))))))⟩
end
end K48
namespace K48
open PySem L2 Mr
structure Cl (R:List (List Int)) (S:Int->Prop):Prop where
 row:∀t∈R,∀a∈t,∀b∈t,S a->S b
 neg:∀a,S a->S (-a)
def Gp(R:List (List Int)) (x y:Int):Prop:=∀S,Cl R S->S x->S y
theorem Gp.refl(R:List (List Int)) (x:Int):Gp R x x:=λ_ _ h=>h
theorem Gp.trans{R:List (List Int)}{x y z:Int}(h:Gp R x y) (k:Gp R y z):Gp R x z:=λS c s=>k S c (h S c s)
theorem Cl.not{R:List (List Int)}{S:Int->Prop}(h:Cl R S):Cl R λa=>¬ S a:=⟨λt ht a ha b hb n s=>n (h.row t ht b hb a ha s),λa n s=>n (by have:=h.neg _ s;rwa [bJ]at this)⟩
theorem Gp.symm{R:List (List Int)}{x y:Int}(h:Gp R x y):Gp R y x:=λS c s=>cB λn=>h _ c.not n s
theorem Gp.cl(R:List (List Int)) (x:Int):Cl R (Gp R x):=⟨λt ht a ha b hb h S c s=>c.row t ht a ha b hb (h S c s),λa h S c s=>c.neg a (h S c s)⟩
theorem Gp.of_sub{R R':List (List Int)}(h:∀S,Cl R' S->Cl R S) {x y:Int}(g:Gp R x y):Gp R' x y:=λS c s=>g S (h S c) s
theorem Fc{R R':List (List Int)}(p:R.Perm R') {S:Int->Prop}(c:Cl R S):Cl R' S:=⟨λt ht=>c.row t (p.mem_iff.mpr ht),c.neg⟩
theorem qQ{R R':List (List Int)}(p:R.Perm R') {x y:Int}:Gp R x y↔Gp R' x y:=⟨Gp.of_sub λS c=>Fc p.symm c,Gp.of_sub λS c=>Fc p c⟩
theorem ID{f:List Int->List Int}(hf:∀r,(f r).Perm r) (R:List (List Int)) {x y:Int}:Gp (R.map f) x y↔Gp R x y:=by
 have key:∀S,Cl (R.map f) S↔Cl R S:=λS=>⟨λc=>⟨λt ht a ha b hb=>c.row (f t) (mMq.mpr ⟨t,ht,rfl⟩) a ((hf t).mem_iff.mpr ha) b ((hf t).mem_iff.mpr hb),c.neg⟩,λc=>⟨λt ht a ha b hb=>by
  obtain⟨u,hu,rfl⟩:=mMq.mp ht;exact c.row u hu a ((hf u).mem_iff.mp ha) b ((hf u).mem_iff.mp hb),c.neg⟩⟩
 exact⟨λg S c s=>g S ((key S).mpr c) s,λg S c s=>g S ((key S).mp c) s⟩
section
variable {r A B t:List Int}{R T:List (List Int)}{S0:Int->Prop}{x y:Int}
structure PM (r A B:List Int) (R:List (List Int)) (S0:Int->Prop):Prop where
 cl:Cl R S0
 a:∀x∈A,x∈r/\S0 x
 b:∀x∈B,x∈r/\¬ S0 x
 all:∀x∈r,x∈A∨x∈B
theorem PM.swap(h:PM r A B R S0):PM r B A R λa=>¬ S0 a:=⟨h.cl.not,h.b,λx hx=>⟨(h.a x hx).1,λn=>n (h.a x hx).2⟩,λx hx=>(h.all x hx).symm⟩
theorem PM.at(h:PM r A B R S0) (hx:S0 x) (hy:S0 y):Gp R x y↔Gp (B::R) x y:=by
 refine⟨λg S c s=>?_,λg S c s=>?_⟩
 .exact g S ⟨λt ht=>c.row t (mCo _ ht),c.neg⟩ s
 .have:=g (λa=>S0 a/\S a) ⟨λt ht a ha b hb q=>?_,λa q=>⟨h.cl.neg a q.1,c.neg a q.2⟩⟩ ⟨hx,s⟩
  .exact this.2
  .rcases ag.mp ht with e|e
   .rw [e]at ha;exact absurd q.1 (h.b a ha).2
   .exact ⟨h.cl.row t e a ha b hb q.1,c.row t e a ha b hb q.2⟩
theorem PM.other(h:PM r A B (t::T) S0) (hx:x∈t) (hy:y∈t) (s0:S0 x):Gp (r::T) x y↔Gp (A::B::T) x y:=by
 refine⟨λg S' c s=>?_,λg S c s=>?_⟩
 .have key:=g (λa=>(S0 a/\S' a)∨(¬ S0 a/\∃z∈A,S' z)) ⟨λu hu a ha b hb q=>?_,λa q=>?_⟩ (.inl ⟨s0,s⟩)
  .rcases key with q|q
   .exact q.2
   .exact absurd (h.cl.row t (aj ..) x hx y hy s0) q.1
  .rcases ag.mp hu with e|e
   .rw [e]at ha hb;have onA:∀z∈A,∀w∈A,S' z->S' w:=c.row A (aj ..);have ex:∃z∈A,S' z:=by
     rcases q with q|q
     .rcases h.all a ha with m|m
      .exact ⟨a,m,q.2⟩
      .exact absurd q.1 (h.b a m).2
     .exact q.2
    rcases h.all b hb with m|m
    .obtain ⟨z,hz,sz⟩:=ex;exact .inl ⟨(h.a b m).2,onA z hz b m sz⟩
    .exact .inr ⟨(h.b b m).2,ex⟩
   .rcases q with q|q
    .exact .inl ⟨h.cl.row u (mCo _ e) a ha b hb q.1,c.row u (mCo _ (mCo _ e)) a ha b hb q.2⟩
    .exact .inr ⟨λn=>q.1 (h.cl.row u (mCo _ e) b hb a ha n),q.2⟩
  .rcases q with q|q
   .exact .inl ⟨h.cl.neg a q.1,c.neg a q.2⟩
   .exact .inr ⟨h.cl.not.neg a q.1,q.2⟩
 .refine g S ⟨λu hu a ha b hb q=>?_,c.neg⟩ s
  rcases ag.mp hu with e|e
  .rw [e]at ha hb;exact c.row r (aj ..) a (h.a a ha).1 b (h.a b hb).1 q
  .rcases ag.mp e with e|e
   .rw [e]at ha hb;exact c.row r (aj ..) a (h.b a ha).1 b (h.b b hb).1 q
   .exact c.row u (mCo _ e) a ha b hb q
end
structure Fu (R:List (List Int)) (r:List Int) (Z:List (List Int)):Prop where
 fil:∀z∈Z,∃p:Int->Bool,z=r.filter p
 pm:Z.flatten.Perm r
 ne:r≠[]->∀z∈Z,z≠[]
 bare:r=[]->Z=[[]]
 iff:∀z∈Z,∀x∈z,∀y∈r,y∈z↔Gp R x y
section
variable {r:List Int}{R R' Z Z' T:List (List Int)}{x y:Int}
theorem Fu.sub(h:Fu R r Z) {z:List Int}(hz:z∈Z):∀x∈z,x∈r:=λx hx=>h.pm.mem_iff.mp (mFq.mpr ⟨z,hz,hx⟩)
theorem Fu.congr(h:Fu R r Z) (e:∀x∈r,∀y∈r,Gp R x y↔Gp R' x y):Fu R' r Z:=⟨h.fil,h.pm,h.ne,h.bare,λz hz x hx y hy=>(h.iff z hz x hx y hy).trans (e x (h.sub hz x hx) y hy)⟩
theorem Kw{p q:Int->Bool}(h:∀x∈r,x∈r.filter p↔x∈r.filter q):r.filter p=r.filter q:=fO λx hx=>by
 have:=h x hx;rw[aw,aw]at this;rw[cH];exact⟨λe=>(this.mp ⟨hx,e⟩).2,λe=>(this.mpr ⟨hx,e⟩).2⟩
theorem JV:∀{L:List (List Int)},L.flatten.Nodup->(∀l∈L,l≠[])->L.Nodup
 | [],_,_=>bp
 |l::L,h,n=>by
  rw[fCq,nAq]at h;refine aA.mpr ⟨λm=>?_,JV h.2.1 λk hk=>n k (mCo _ hk)⟩
  obtain⟨x,hx⟩:=bC _ (n l (aj ..));exact h.2.2 x hx x (mFq.mpr ⟨l,m,hx⟩) rfl
theorem Uc{x y:Int}:Gp ([]::T) x y↔Gp T x y:=⟨Gp.of_sub λS c=>⟨λt ht=>by
 rcases ag.mp ht with e|e
 .rw [e];intro a ha;cases ha
 .exact c.row t e,c.neg⟩,Gp.of_sub λS c=>⟨λt ht=>c.row t (mCo _ ht),c.neg⟩⟩
theorem MJ{z:List Int}{Z1:List (List Int)}(hn:r.Nodup) (h:Fu R r (z::Z1)) (hr:r≠[]):∃x0∈z,PM r z (r.filter λa=>!decide (a∈z)) R (Gp R x0):=by
 obtain⟨x0,hx0⟩:=bC _ (h.ne hr z (aj ..));refine⟨x0,hx0,Gp.cl R x0,λx hx=>⟨h.sub (aj ..) x hx,(h.iff z (aj ..) x0 hx0 x (h.sub (aj ..) x hx)).mp hx⟩,λx hx=>?_,λx hx=>?_⟩
 .obtain ⟨h1,h2⟩:=aw.mp hx;exact⟨h1,λg=>by simp[(h.iff z (aj ..) x0 hx0 x h1).mpr g]at h2⟩
 .by_cases m:x∈z
  .exact .inl m
  .exact .inr (aw.mpr ⟨hx,by simp[m]⟩)
theorem Ni{z:List Int}{Z1:List (List Int)}(hn:r.Nodup) (h:Fu R r (z::Z1)) (hr:r≠[]) (h1:Z1≠[]):Fu (z::R) (r.filter λa=>!decide (a∈z)) Z1:=by
 obtain⟨x0,hx0,tw⟩:=MJ hn h hr;have nd:=h.pm.nodup_iff.mpr hn;rw[fCq,nAq]at nd;have out:∀z1∈Z1,∀x∈z1,x∈r/\x∉z:=λz1 hz1 x hx=>⟨h.sub (mCo _ hz1) x hx,λm=>nd.2.2 x m x (mFq.mpr ⟨z1,hz1,hx⟩) rfl⟩
 have neZ:∀z1∈Z1,z1≠[]:=λz1 hz1=>h.ne hr z1 (mCo _ hz1)
 have rne:(r.filter λa=>!decide (a∈z))≠[]:=by
  obtain⟨z1,hz1⟩:=bC _ h1;obtain⟨x,hx⟩:=bC _ (neZ z1 hz1);obtain⟨o1,o2⟩:=out z1 hz1 x hx;exact bU (aw.mpr ⟨o1,by simp[o2]⟩)
 refine⟨λz1 hz1=>?_,?_,λ_=>neZ,λe=>absurd e rne,λz1 hz1 x hx y hy=>?_⟩
 .obtain ⟨p,e⟩:=h.fil z1 (mCo _ hz1);refine⟨p,?_⟩;rw[fw,e];refine fO λx hx=>?_
  by_cases px:p x=true
  .have:x∈z1:=by rw[e];exact aw.mpr ⟨hx,px⟩
   simp[px,(out z1 hz1 x this).2]
  .simp [px]
 .refine (cP nd.2.1 (hn.sublist ef)).mpr λx=>⟨λm=>?_,λm=>?_⟩
  .obtain ⟨z1,hz1,hx⟩:=mFq.mp m;obtain⟨o1,o2⟩:=out z1 hz1 x hx;exact aw.mpr ⟨o1,by simp[o2]⟩
  .obtain ⟨m1,m2⟩:=aw.mp m;have:=h.pm.mem_iff.mpr m1;rw[fCq]at this;rcases mAq.mp this with q|q
   .simp [q]at m2
   .exact q
 .obtain ⟨m1,m2⟩:=aw.mp hy;rw[h.iff z1 (mCo _ hz1) x hx y m1];obtain⟨o1,o2⟩:=out z1 hz1 x hx;have nx:¬ Gp R x0 x:=λg=>o2 ((h.iff z (aj ..) x0 hx0 x o1).mpr g)
  have ny:¬ Gp R x0 y:=λg=>by simp[(h.iff z (aj ..) x0 hx0 y m1).mpr g]at m2
  exact tw.swap.at nx ny
theorem Am:∀{Z:List (List Int)}{r t:List Int}{T:List (List Int)},r.Nodup->r≠[]->Fu (t::T) r Z->∀x∈t,∀y∈t,Gp (r::T) x y↔Gp (Z++T) x y
 | [],r,t,T,hn,hr,h=>by
  have:=h.pm;exact absurd this.symm.eq_nil hr
 |z::Z1,r,t,T,hn,hr,h=>λx hx y hy=>by
  obtain⟨x0,hx0,tw⟩:=MJ hn h hr;have step:Gp (r::T) x y↔Gp (z::(r.filter λa=>!decide (a∈z))::T) x y:=by
   by_cases c:Gp (t::T) x0 x
   .exact tw.other hx hy c
   .exact (tw.swap.other hx hy c).trans (qQ (aW.swap ..))
  rw[step]
  by_cases h1:Z1=[]
  .subst h1;have e:(r.filter λa=>!decide (a∈z))=[]:=List.eq_nil_iff_forall_not_mem.mpr λa ha=>by
    obtain⟨m1,m2⟩:=aw.mp ha;have:=h.pm.mem_iff.mpr m1;rw[cx]at this;simp[this]at m2
   rw[e,qQ (aW.swap ..),Uc];rfl
  .have rc:=Ni hn h hr h1;have rne:(r.filter λa=>!decide (a∈z))≠[]:=λe=>h1 (by
    have:=rc.pm;rw[e]at this;have hf:=this.eq_nil;cases Z1 with
    |nil=>rfl
    |cons z1 Z2 =>
     have n1:=h.ne hr z1 (by simp)
     rw[fCq]at hf;exact absurd (iz.mp hf).1 n1)
   have rc':Fu (t::z::T) (r.filter λa=>!decide (a∈z)) Z1:=rc.congr λa _ b _=>qQ (aW.swap ..)
   have ih:=Am (T:=z::T) (hn.sublist ef) rne rc' x hx y hy;rw[qQ (aW.swap ..),ih];exact qQ cS
end
theorem Ik(p:Int->Bool) (t:List Int) (i:Nat):∃j,(HC t i).filter p=HC (t.filter p) j:=by
 refine⟨((t.take i).filter p).length,?_⟩;have e:t.filter p=(t.take i).filter p++(t.drop i).filter p:=by rw[←bV,aM]
 unfold HC;rw[bV,e,jD,jE]
theorem GF{t:List Int}(hn:t.Nodup) (p:Int->Bool):good ((good t).filter p)=good (t.filter p):=by
 obtain⟨j,e⟩:=Ik p t (qi t t.length);show good ((HC t (qi t t.length)).filter p)=_;rw[e,Hu (hn.sublist ef)]
structure rB (M G:List (List Int)):Prop where
 pm:G.flatten.Perm M.flatten
 bare:G.count []=M.count []
 fil:∀z∈G,z≠[]->∃r∈M,∃p:Int->Bool,z=good (r.filter p)
 iff:∀r∈M,∀x∈r,∀y∈r,(∃z∈G,x∈z/\y∈z)↔Gp (M.erase r) x y
section
variable {M N G G':List (List Int)}
theorem Cm(hn:M.flatten.Nodup) {r t:List Int}(hr:r∈M) (ht:t∈M) {x:Int}(hx:x∈r) (hx':x∈t):r=t:=by
 obtain⟨i,hi⟩:=aH.mp hr
 induction M generalizing i with
 |nil=>cases hr
 |cons m M ih =>
  rw[fCq,nAq]at hn;rcases ag.mp hr with e|e
  .rcases ag.mp ht with e'|e'
   .rw [e,e']
   .exact absurd rfl (hn.2.2 x (e ▸ hx) x (mFq.mpr ⟨t,e',hx'⟩))
  .rcases ag.mp ht with e'|e'
   .exact absurd rfl (hn.2.2 x (e' ▸ hx') x (mFq.mpr ⟨r,e,hx⟩))
   .obtain ⟨j,hj⟩:=aH.mp e;exact ih hn.2.1 e e' j hj
theorem rB.mem(hn:M.flatten.Nodup) (h:rB M G) (h':rB M G') {z:List Int}(hz:z∈G) (ne:z≠[]):z∈G':=by
 obtain⟨x,hx⟩:=bC _ ne;have xM:x∈M.flatten:=h.pm.mem_iff.mp (mFq.mpr ⟨z,hz,hx⟩);obtain⟨z',hz',hx'⟩:=mFq.mp (h'.pm.mem_iff.mpr xM);obtain⟨r,hr,p,e⟩:=h.fil z hz ne;obtain⟨r',hr',p',e'⟩:=h'.fil z' hz' (bU hx');have m1:∀y,y∈z↔y∈r.filter p:=λy=>by rw[e];exact(pE _).mem_iff
 have m2:∀y,y∈z'↔y∈r'.filter p':=λy=>by rw[e'];exact(pE _).mem_iff
 have xr:=(aw.mp ((m1 x).mp hx)).1;have xr':=(aw.mp ((m2 x).mp hx')).1;have:=Cm hn hr hr' xr xr';subst this;have gn:G.flatten.Nodup:=h.pm.nodup_iff.mpr hn;have gn':G'.flatten.Nodup:=h'.pm.nodup_iff.mpr hn;have in1:∀y∈r,y∈z↔Gp (M.erase r) x y:=λy hy=>by
  rw[←h.iff r hr x xr y hy];exact⟨λm=>⟨z,hz,hx,m⟩,λ⟨w,hw,a,b⟩=>by rw[Cm gn hz hw hx a];exact b⟩
 have in2:∀y∈r,y∈z'↔Gp (M.erase r) x y:=λy hy=>by
  rw[←h'.iff r hr x xr y hy];exact⟨λm=>⟨z',hz',hx',m⟩,λ⟨w,hw,a,b⟩=>by rw[Cm gn' hz' hw hx' a];exact b⟩
 have:z=z':=by
  rw[e,e'];refine congrArg good (Kw λy hy=>?_)
  rw[←m1,←m2,in1 y hy,in2 y hy]
 rw[this];exact hz'
theorem P4{A B:List (List Int)}(a:A.flatten.Nodup) (b:B.flatten.Nodup) (h:∀z,z≠[]->(z∈A↔z∈B)) (c:A.count []=B.count []):A.Perm B:=by
 refine dv.mpr λz=>?_
 by_cases hz:z=[]
 .rw [hz];exact c
 .have one:∀{L:List (List Int)},L.flatten.Nodup->L.count z<=1:=λ{L} hL=>by
   have:(L.filter λw=>!decide (w=[])).Nodup:=JV (hL.sublist (by
    have:∀L:List (List Int),(L.filter λw=>!decide (w=[])).flatten=L.flatten:=λL=>by
     induction L with
     |nil=>rfl
     |cons w L ih =>
      by_cases e:w=[]
      .rw [fF (by simp[e]),ih,e];rfl
      .rw [eB (by simp[e]),fCq,fCq,ih]
    rw[this];exact cD.refl _)) λw hw=>by
    have:=(aw.mp hw).2;simpa using this
   have c1:=List.nodup_iff_count.mp this z;rw[List.count_filter (by simp[hz])]at c1
   exact c1
  have o1:=one a;have o2:=one b
  by_cases m:z∈A
  .have:=je.mpr m;have:=je.mpr ((h z hz).mp m);lia
  .rw [cF.mpr m,cF.mpr λk=>m ((h z hz).mpr k)]
theorem rB.uniq(hn:M.flatten.Nodup) (h:rB M G) (h':rB M G'):G.Perm G' :=
 P4 (h.pm.nodup_iff.mpr hn) (h'.pm.nodup_iff.mpr hn) (λz ne=>⟨λm=>h.mem hn h' m ne,λm=>h'.mem hn h m ne⟩) (h.bare.trans h'.bare.symm)
theorem rB.perm(h:rB M G) (p:M.Perm N):rB N G:=⟨h.pm.trans p.flatten,h.bare.trans (p.count_eq _),λz hz ne=>by
 obtain⟨r,hr,q⟩:=h.fil z hz ne;exact⟨r,p.mem_iff.mp hr,q⟩,λr hr x hx y hy=>(h.iff r (p.mem_iff.mpr hr) x hx y hy).trans (qQ (p.erase r))⟩
theorem erase_map(hn:M.flatten.Nodup) {r:List Int}(hr:r∈M) (ne:r≠[]):((M.map good).erase (good r)).Perm ((M.erase r).map good):=by
 have p:=(dP hr).map good;rw[ao]at p;have q:=p.erase (good r);rw[cG]at q;exact q
theorem rB.good(hn:M.flatten.Nodup) (h:rB M G):rB (M.map good) G:=by
 refine⟨h.pm.trans (qX pE M).symm,?_,λz hz ne=>?_,λr hr x hx y hy=>?_⟩
 .rw [h.bare];have:∀L:List (List Int),(L.map Mr.good).count []=L.count []:=λL=>by
   induction L with
   |nil=>rfl
   |cons w L ih =>
    by_cases e:w=[]
    .rw [e,ao,AQ,bT,bT,ih]
    .have e':Mr.good w≠[]:=λq=>e (by
      have:=congrArg bD q;rw[xg]at this;exact aS.mp this)
     rw[ao,bc e',bc e,ih]
  rw[this]
 .obtain ⟨r,hr,p,e⟩:=h.fil z hz ne;exact⟨Mr.good r,mMq.mpr ⟨r,hr,rfl⟩,p,by rw[GF (hn.sublist (aD hr))];exact e⟩
 .obtain ⟨u,hu,rfl⟩:=mMq.mp hr;have xu:=(pE u).mem_iff.mp hx;have yu:=(pE u).mem_iff.mp hy;rw[h.iff u hu x xu y yu,qQ (erase_map hn hu (bU xu)),ID pE]
theorem rB.end(hn:M.flatten.Nodup) (h:∀r∈M,∀x∈r,∀y∈r,Gp (M.erase r) x y):rB M (M.map Mr.good):=by
 have f:rB M (M.map Mr.good):=by
  refine⟨qX pE M,?_,λz hz ne=>?_,λr hr x hx y hy=>?_⟩
  .have:∀L:List (List Int),(L.map Mr.good).count []=L.count []:=λL=>by
    induction L with
    |nil=>rfl
    |cons w L ih =>
     by_cases e:w=[]
     .rw [e,ao,AQ,bT,bT,ih]
     .have e':Mr.good w≠[]:=λq=>e (by
       have:=congrArg bD q;rw[xg]at this;exact aS.mp this)
      rw[ao,bc e',bc e,ih]
   exact this M
  .obtain ⟨u,hu,rfl⟩:=mMq.mp hz;exact⟨u,hu,λ_=>true,by rw[fe.mpr λ_ _=>rfl]⟩
  .exact ⟨λ_=>h r hr x hx y hy,λ_=>⟨Mr.good r,mMq.mpr ⟨r,hr,rfl⟩,(pE r).mem_iff.mpr hx,(pE r).mem_iff.mpr hy⟩⟩
 exact f
theorem rB.fall{r:List Int}{R Z:List (List Int)}(hn:(r::R).flatten.Nodup) (hr:r≠[]) (c:Fu R r Z) (h:rB (r::R) G):rB (Z++R) G:=by
 have hn':=hn;rw[fCq,nAq]at hn';have rn:=hn'.1;have pf:(Z++R).flatten.Perm (r::R).flatten:=by
  rw[fAq,fCq];exact c.pm.append_right _
 have nz:[]∉Z:=λm=>c.ne hr [] m rfl
 have er:(r::R).erase r=R:=cG ..;refine⟨h.pm.trans pf.symm,?_,λw hw ne=>?_,λt ht x hx y hy=>?_⟩
 .rw [h.bare,cAq,cF.mpr nz,bc hr,bF]
 .obtain ⟨u,hu,p,e⟩:=h.fil w hw ne;rcases ag.mp hu with q|q
  .subst q;have mw:∀y,y∈w↔y∈u.filter p:=λy=>by rw[e];exact(pE _).mem_iff
   obtain⟨x,hx⟩:=bC _ ne;have xu:=(aw.mp ((mw x).mp hx)).1;obtain⟨z,hz,xz⟩:=mFq.mp (c.pm.mem_iff.mpr xu);obtain⟨q,ez⟩:=c.fil z hz;refine⟨z,az _ hz,p,?_⟩;rw[e,ez,fw];refine congrArg Mr.good (fO λy hy=>?_)
   by_cases py:p y=true
   .have yw:=(mw y).mpr (aw.mpr ⟨hy,py⟩);have g:=(h.iff u (aj ..) x xu y hy).mp ⟨w,hw,hx,yw⟩;rw[er]at g;have yz:=(c.iff z hz x xz y hy).mpr g;rw[ez]at yz;simp[py,(aw.mp yz).2]
   .simp [py]
  .exact ⟨u,ar _ q,p,e⟩
 .rcases mAq.mp ht with q|q
  .have xr:=c.sub q x hx;have yr:=c.sub q y hy;have g:=(c.iff t q x hx y yr).mp hy;refine⟨λ_=>?_,λ_=>(h.iff r (aj ..) x xr y yr).mpr (by rw[er];exact g)⟩
   refine Gp.of_sub (λS k=>⟨λu hu=>k.row u ?_,k.neg⟩) g
   rw[fV _ q];exact ar _ hu
  .have tne:t≠[]:=bU hx;have tr:t≠r:=λe=>by
    rw[e]at hx;exact hn'.2.2 x hx x (mFq.mpr ⟨t,q,e ▸ hx⟩) rfl
   have tz:t∉Z:=λm=>hn'.2.2 x (c.sub m x hx) x (mFq.mpr ⟨t,q,hx⟩) rfl
   have pR:=dP q;have c':Fu (t::R.erase t) r Z:=c.congr λa _ b _=>qQ pR
   rw[h.iff t (mCo _ q) x hx y hy,dQ (by simpa using λe:r=t=>tr e.symm),fG _ tz]
   exact Am rn hr c' x hx y hy
end
end K48
namespace K13
open PySem L2 Mr Z Xe Zl
def oM(rs:List (List Int)):AV:=.ow (rs.map λr=>.sh (dI r))
end K13
namespace K12
open PySem L2 Mr Z Xe Zl
abbrev aP(part:List (List Int)):AV:=.ow (part.map aI)
theorem Nr{α β:Type}(f:α->β) (l:List α) (i:Nat) (a:α):(l.map f).set i (f a)=(l.set i a).map f:=by rw[jS]
structure Wd where
 P0:List (List (List Int))
 last:List (List Int)
 t0:List Nat
 h:Nat
 left:List Int
 used:Nat
abbrev cN(ks:List Nat):List Int:=ks.map λn:Nat=>(n:Int)
def st(v0 v1:Option AV) (w:Wd) (v6 v7 v8 v9:Option AV):AS:=[v0,v1,some (.ow ((w.P0++[w.last]).map aP)),some (aI (cN (w.t0++[w.h]))),some (aI w.left),some (.sh (.int (w.used:Int))),v6,v7,v8,v9]
theorem D5(a:Int):∀{l:List Int}{j:Nat},j<l.length->(l.eraseIdx j).count a+[l.getD j 0].count a=l.count a
 | [],_,h=>by simp at h
 |x::l,0,_=>by
  rw[List.eraseIdx_cons_zero,show x::l=[x]++l from rfl,cAq]
  show l.count a+[x].count a=_;lia
 |x::l,j+1,h=>by
  have ih:=D5 a (l:=l) (j:=j) (by simpa using h)
  rw[du,show x::l.eraseIdx j=[x]++l.eraseIdx j from rfl,show (x::l).getD (j+1) 0=l.getD j 0 from rfl,show x::l=[x]++l from rfl,cAq,cAq]
  lia
theorem QG{l:List (List Int)}{h:Nat}{r:List Int}(e:l[h]?=some r):r.length<=l.flatten.length:=cD.length_le (aD (mGq e))
def LB(st sh a b k:Int):Int:=st*((a*k+b) % 67+1)+sh
theorem Kf{st sh a b:Int}(h1:1<=st) (h2:1<=a) (h3:a<=66) {j k:Nat}(hj:j<67) (hk:k<67) (h:LB st sh a b j=LB st sh a b k):j=k:=by
 unfold LB at h;have e1:st*((a*j+b) % 67+1)=st*((a*k+b) % 67+1):=by lia
 have e2:=Int.eq_of_mul_eq_mul_left (by lia) e1
 have e3:((a*j+b)-(a*k+b)) % 67=0:=Int.emod_eq_emod_iff_emod_sub_eq_zero.mp (by lia)
 have e4:(a*((j:Int)-k)) % 67=0:=by
  rw[←e3];congr 1;rw[Int.mul_sub];lia
 obtain⟨tn,rfl⟩:∃tn:Nat,a=(tn:Int)+1:=⟨(a-1).toNat,by lia⟩
 rcases gO j k with q|q|q
 .exfalso;refine Mr.JX ⟨tn,by lia⟩ ⟨k-j,by lia⟩ (by show 0<k-j;lia) ?_
  show (tn+1)*(k-j) % 67=0;have e5:(((tn:Int)+1)*((k:Int)-j)) % 67=0:=by
   have:((tn:Int)+1)*((k:Int)-j) = -(((tn:Int)+1)*((j:Int)-k)):=by
    rw[←Int.mul_neg];congr 1;lia
   rw[this];lia
  have e6:(((tn+1)*(k-j) % 67:Nat):Int)=0:=by
   rw[←e5];push_cast [bA q];rfl
  lia
 .exact q
 .exfalso;refine Mr.JX ⟨tn,by lia⟩ ⟨j-k,by lia⟩ (by show 0<j-k;lia) ?_
  show (tn+1)*(j-k) % 67=0;have e6:(((tn+1)*(j-k) % 67:Nat):Int)=0:=by
   rw[←e4];push_cast [bA q];rfl
  lia
theorem CC:∀{l:List Int},l.Nodup->(∀x∈l,1<=x)->(l.flatMap λx=>[x, -x]).Nodup
 | [],_,_=>bp
 |x::l,hn,hp=>by
  have hn':=aA.mp hn;have px:=hp x (aj ..);rw[dO,nAq];refine⟨?_,CC hn'.2 λy hy=>hp y (mCo _ hy),λa ha b hb e=>?_⟩
  .rw [aA];refine⟨?_,by simp⟩
   rw[mSq];lia
  .subst e;obtain⟨y,hy,q⟩:=cw.mp hb;have py:=hp y (mCo _ hy);simp at ha q;have:y=x:=by lia
   exact hn'.1 (this ▸ hy)
end K12
namespace K51
open PySem L2 Mr Z Xe Zl
theorem QJ{rs:List (List Int)}(hl:rs.length<=500000):zi [dM rs]=some (.ow (rs.map aI)):=by
 have key:=si (te:=B5 (uI 0)) (cap:=[]) (λd=>match d with|.list ds=>.ow (ds.map .sh)|_=>.sh .non) (ds:=rs.map dI) (by
  intro d hd;obtain⟨r,_,rfl⟩:=mMq.mp hd;refine⟨[some (.sh (dI r))],?_⟩
  simp_arith [dI])
 have h1:rs.length<=rG:=by show _<=16777216;lia
 have e:(rs.map dI).map (λd=>match d with|D.list ds=>AV.ow (ds.map .sh)|_=>.sh .non)=rs.map aI:=by
  rw[mPq];refine mCq λr _=>?_
  show AV.ow ((r.map D.int).map .sh)=aI r;rw[mPq];rfl
 rw[e]at key
 simp_arith [zi,En,dM,key,h1]
def kd(ks:List Nat):List (oS×D):=ks.map λk:Nat=>((aG (k:Int):oS),D.bl true)
def wd(ws:List Nat):List AV:=ws.map λk:Nat=>AV.sh (.int (k:Int))
theorem Nq(ks:List Nat) (t:Nat):(kd ks).any (λkv=>decide (kv.1=(aG (t:Int):oS)))=decide (t∈ks):=by
 induction ks with
 |nil=>simp[kd]
 |cons k ks ih =>
  unfold kd at ih ⊢;rw[ao,dN,ih]
  by_cases h:t=k
  .subst h;simp
  .have h':¬ (aG (k:Int):oS)=aG (t:Int):=λq=>h (by have:=aG.inj q;lia)
   simp[h',h]
theorem UE(ks:List Nat) (t:Nat):(getD (kd ks) (aG (t:Int))).isSome=decide (t∈ks):=by
 unfold getD;rw[eK,←Nq,cH,gW,cR]
theorem UP{ks:List Nat}{t:Nat}(h:t∉ks):wK (kd ks) (aG (t:Int)) (.bl true)=kd (ks++[t]):=by
 unfold wK;rw[Nq,decide_eq_false h,pD (by simp)]
 simp[kd]
theorem Ib{kvs:List (oS×D)}{ks ws:List Nat}{e:Int}{t:Nat}{v0 v1 v5 v7:Option AV}(hg:getD kvs (aG (-e))=some (.int (t:Int))) (hk:ks.length<500000) (hw:ws.length<500000) :
  tR [v0,v1,some (.owd kvs),some (.owd (kd ks)),some (.ow (wd ws)),v5,some (.sh (.int e)),v7]=some (.nx [v0,v1,some (.owd kvs),some (.owd (kd (if t∈ks then ks else ks++[t]))),some (.ow (wd (if t∈ks then ws else ws++[t]))),v5,some (.sh (.int e)),some (.sh (.int (t:Int)))]):=by
 have l1:(kd ks).length<rG:=by unfold kd;rw[lMq];show _<16777216;lia
 have l2:(wd ws).length<rG:=by unfold wd;rw[lMq];show _<16777216;lia
 have hg2:=UE ks t
 by_cases h:t∈ks
 .rw [decide_eq_true h]at hg2
  simp_arith [tR,hg,hg2,h]
 .rw [decide_eq_false h]at hg2;have hp:=UP h;have hw2:wd ws++[.sh (.int (t:Int))]=wd (ws++[t]):=by simp[wd]
  simp_arith [tR,hg,hg2,h,hp,l1,l2,hw2]
def see(pl:Int->Nat) (x:List Nat×List Nat) (e:Int):List Nat×List Nat:=if pl (-e)∈x.1 then x else (x.1++[pl (-e)],x.2++[pl (-e)])
theorem see_len(pl:Int->Nat):∀(r:List Int) (x:List Nat×List Nat),(r.foldl (see pl) x).1.length<=x.1.length+r.length/\(r.foldl (see pl) x).2.length<=x.2.length+r.length
 | [],x=>⟨ai _,ai _⟩
 |e::r,x=>by
  obtain⟨h1,h2⟩:=see_len pl r (see pl x e);have h3:(see pl x e).1.length<=x.1.length+1/\(see pl x e).2.length<=x.2.length+1:=by
   unfold see;split
   .exact ⟨cu _,cu _⟩
   .simp
  rw[cj,lCq];lia
theorem Ku{kvs:List (oS×D)}{ks ws:List Nat}{r:List Int}{pl:Int->Nat}{v0 v1 v5 v6 v7:Option AV}(hg:∀e∈r,getD kvs (aG (-e))=some (.int (pl (-e):Int))) (hk:ks.length+r.length<500000) (hw:ws.length+r.length<500000) :
  ∃v6' v7',su 6 tR (r.map D.int) [v0,v1,some (.owd kvs),some (.owd (kd ks)),some (.ow (wd ws)),v5,v6,v7]=some (.nx [v0,v1,some (.owd kvs),some (.owd (kd (r.foldl (see pl) (ks,ws)).1)),some (.ow (wd (r.foldl (see pl) (ks,ws)).2)),v5,v6',v7']):=by
 have key:=vF (x:=6) (body:=tR) (λi S=>∃v6' v7',S=[v0,v1,some (.owd kvs),some (.owd (kd ((r.take i).foldl (see pl) (ks,ws)).1)),some (.ow (wd ((r.take i).foldl (see pl) (ks,ws)).2)),v5,v6',v7']) (ds:=r.map D.int) (S:=[v0,v1,some (.owd kvs),some (.owd (kd ks)),some (.ow (wd ws)),v5,v6,v7])
  ⟨v6,v7,rfl⟩ (by
  rintro i d S hd ⟨v6',v7',rfl⟩;rw[gMq]at hd;obtain⟨e,he,rfl⟩:=oMq.mp hd;have hi:i<r.length:=(gSq.mp he).1;have hm:e∈r:=mGq he;obtain⟨n1,n2⟩:=see_len pl (r.take i) (ks,ws);rw[lTq]at n1 n2;have n1':((r.take i).foldl (see pl) (ks,ws)).1.length<=ks.length+min i r.length:=n1;have n2':((r.take i).foldl (see pl) (ks,ws)).2.length<=ws.length+min i r.length:=n2;have step:=Ib (v0:=v0) (v1:=v1) (v5:=v5) (v7:=v7') (hg e hm) (ks:=((r.take i).foldl (see pl) (ks,ws)).1) (ws:=((r.take i).foldl (see pl) (ks,ws)).2) (by lia) (by lia)
  have et:(r.take (i+1)).foldl (see pl) (ks,ws)=see pl ((r.take i).foldl (see pl) (ks,ws)) e:=by
   have:r[i]'hi=e:=by rw[gEg hi]at he;exact aJ.inj he
   rw[List.take_succ_eq_append_getElem hi,gS,this];rfl
  refine⟨_,step,some (.sh (.int e)),some (.sh (.int (pl (-e):Int))),?_⟩;rw[et];unfold see;split <;> rfl)
 obtain⟨S',e,v6',v7',rfl⟩:=key;rw[lMq,bw]at e;exact⟨v6',v7',e⟩
theorem WS:∀(N:Nat) (l:List Nat),l.Nodup->(∀x∈l,x<N)->l.length<=N
 |0,l,_,h=>by
  cases l with
  |nil=>exact ai _
  |cons x l=>exact absurd (h x (aj ..)) (cK _)
 |N+1,l,hn,h=>by
  have h2:=WS N (l.erase N) (hn.erase N) (λx hx=>by
   have:=(hn.mem_erase_iff).mp hx;have:=h x this.2;lia)
  rw[List.length_erase]at h2;split at h2 <;> lia
def plc(rs:List (List Int)) (e:Int):Nat:=rs.findIdx λr=>decide (e∈r)
theorem same_place{rs:List (List Int)}(hn:rs.flatten.Nodup) {i j:Nat}{r s:List Int}{e:Int}(hi:rs[i]?=some r) (hj:rs[j]?=some s) (h1:e∈r) (h2:e∈s):i=j:=by
 have a:=yj 0 hn hi h1;have b:=yj 0 hn hj h2;rw[a]at b;have:=D.int.inj (aJ.inj b);lia
theorem plc_eq{rs:List (List Int)}(hn:rs.flatten.Nodup) {i:Nat}{r:List Int}{e:Int}(hi:rs[i]?=some r) (h1:e∈r):plc rs e=i:=by
 have hl:rs.findIdx (λr=>decide (e∈r))<rs.length:=fX ⟨r,mGq hi,decide_eq_true h1⟩
 have h2:=iP (xs:=rs) (p:=λr=>decide (e∈r)) (w:=hl)
 exact same_place hn (gEg hl) hi (of_decide_eq_true h2) h1
structure Mp (rs:List (List Int)):Prop where
 hn:rs.flatten.Nodup
 hl:rs.flatten.length<=1000
 hr:rs.length<=1000
 hneg:∀e∈rs.flatten, -e∈rs.flatten
theorem Mp.at{rs:List (List Int)}(h:Mp rs) {e:Int}(he:e∈rs.flatten):∃r,rs[plc rs e]?=some r/\e∈r:=by
 obtain⟨r,h1,h2⟩:=mFq.mp he;obtain⟨i,h3⟩:=aH.mp h1;exact⟨r,by rw[plc_eq h.hn h3 h2];exact h3,h2⟩
theorem Mp.other{rs:List (List Int)}(h:Mp rs) {k:Nat}{r:List Int}{e:Int}(hk:rs[k]?=some r) (he:e∈r):-e∈rs.flatten:=h.hneg e (mFq.mpr ⟨r,mGq hk,he⟩)
theorem Mp.kv{rs:List (List Int)}(h:Mp rs) {e:Int}(he:e∈rs.flatten):getD (pB 0 rs) (aG e)=some (.int (plc rs e:Int)):=by
 obtain⟨r,h1,h2⟩:=h.at he;have:=yj 0 h.hn h1 h2
 rwa [bF]at this
theorem Mp.lt{rs:List (List Int)}(h:Mp rs) {e:Int}(he:e∈rs.flatten):plc rs e<rs.length:=by
 obtain⟨r,h1,_⟩:=h.at he;exact(gSq.mp h1).1
theorem Mp.row{rs:List (List Int)}(h:Mp rs) {k:Nat}{r:List Int}(hk:rs[k]?=some r):r.length<=1000:=by
 have:=cD.length_le (aD (mGq hk));have:=h.hl;lia
inductive Cf (rs:List (List Int)) (s:Nat):Nat->Prop
 |base:Cf rs s s
 |step {k:Nat}{r:List Int}{e:Int}:Cf rs s k->rs[k]?=some r->e∈r->Cf rs s (plc rs (-e))
theorem C6(pl:Int->Nat):∀(r:List Int) (ks ws:List Nat),∃a,r.foldl (see pl) (ks,ws)=(ks++a,ws++a)/\(∀k∈a,∃e∈r,k=pl (-e))/\(∀e∈r,pl (-e)∈ks++a)/\(ks.Nodup->(ks++a).Nodup)
 | [],ks,ws=>⟨[],by simp,by simp,by simp,by simp⟩
 |e::r,ks,ws=>by
  rw[cj]
  by_cases h:pl (-e)∈ks
  .have e1:see pl (ks,ws) e=(ks,ws):=by unfold see;rw[pe h]
   rw[e1];obtain⟨a,h1,h2,h3,h4⟩:=C6 pl r ks ws;refine⟨a,h1,λk hk=>?_,λx hx=>?_,h4⟩
   .obtain ⟨x,hx,q⟩:=h2 k hk;exact⟨x,mCo _ hx,q⟩
   .rcases ag.mp hx with rfl|hx
    .exact mAq.mpr (.inl h)
    .exact h3 x hx
  .have e1:see pl (ks,ws) e=(ks++[pl (-e)],ws++[pl (-e)]):=by unfold see;rw[pD h]
   rw[e1];obtain⟨a,h1,h2,h3,h4⟩:=C6 pl r (ks++[pl (-e)]) (ws++[pl (-e)]);refine⟨pl (-e)::a,by rw[h1,aq,aq];rfl,λk hk=>?_,λx hx=>?_,λhn=>?_⟩
   .rcases ag.mp hk with rfl|hk
    .exact ⟨e,aj ..,rfl⟩
    .obtain ⟨x,hx,q⟩:=h2 k hk;exact⟨x,mCo _ hx,q⟩
   .rcases ag.mp hx with rfl|hx
    .exact mAq.mpr (.inr (aj ..))
    .have:=h3 x hx
     rwa [aq]at this
   .have:=h4 (by
     rw[nAq];exact⟨hn,by simp,λx hx y hy q=>h (by rw[mSq.mp hy]at q;rw[←q];exact hx)⟩)
    rwa [aq]at this
structure Inv (rs:List (List Int)) (s:Nat) (ks ws:List Nat):Prop where
 nd:ks.Nodup
 lt:∀k∈ks,k<rs.length
 st:s∈ks
 rc:∀k∈ks,Cf rs s k
 sub:∀w∈ws,w∈ks
 cl:∀k∈ks,k∉ws->∀r e,rs[k]?=some r->e∈r->plc rs (-e)∈ks
 few:2*(rs.length-ks.length)+ws.length<=2*rs.length+1
theorem Inv.go{rs:List (List Int)}(hm:Mp rs) {s h:Nat}{ks ws:List Nat}{r:List Int}(hi:Inv rs s ks (ws++[h])) (hr:rs[h]?=some r):∃a,r.foldl (see (plc rs)) (ks,ws)=(ks++a,ws++a)/\Inv rs s (ks++a) (ws++a)/\2*(rs.length-(ks++a).length)+(ws++a).length<2*(rs.length-ks.length)+(ws++[h]).length:=by
 obtain⟨a,h1,h2,h3,h4⟩:=C6 (plc rs) r ks ws;have hh:h∈ks:=hi.sub h (by simp)
 have nd:=h4 hi.nd;have lt:∀k∈ks++a,k<rs.length:=by
  intro k hk;rcases mAq.mp hk with q|q
  .exact hi.lt k q
  .obtain ⟨e,he,rfl⟩:=h2 k q;exact hm.lt (hm.other hr he)
 have pl:=WS _ _ nd lt;have p0:=hi.few;rw[lAq]at pl;rw[lAq,lSq]at p0;have key:2*(rs.length-(ks++a).length)+(ws++a).length<2*(rs.length-ks.length)+(ws++[h]).length:=by
  rw[lAq,lAq,lAq,lSq];lia
 refine⟨a,h1,⟨nd,lt,mAq.mpr (.inl hi.st),λk hk=>?_,λw hw=>?_,λk hk hw=>?_,?_⟩,key⟩
 .rcases mAq.mp hk with q|q
  .exact hi.rc k q
  .obtain ⟨e,he,rfl⟩:=h2 k q;exact .step (hi.rc h hh) hr he
 .rcases mAq.mp hw with q|q
  .exact mAq.mpr (.inl (hi.sub w (mAq.mpr (.inl q))))
  .exact mAq.mpr (.inr q)
 .intro r' e hr' he;have k1:k∈ks:=(mAq.mp hk).resolve_right λq=>hw (mAq.mpr (.inr q))
  by_cases q:k=h
  .subst q;rw[hr]at hr';cases hr';exact h3 e he
  .exact mAq.mpr (.inl (hi.cl k k1 (λz=>by
    rcases mAq.mp z with z|z
    .exact hw (mAq.mpr (.inl z))
    .exact q (mSq.mp z)) r' e hr' he))
 .rw [lAq,lAq]at key ⊢;rw[lAq,lSq]at key;lia
def mu(N:Nat):AS->Nat
 | [_,_,_,some (.owd kv),some (.ow w),_,_,_]=>2*(N-kv.length)+w.length
 |_=>0
theorem Iw{rs:List (List Int)}(hm:Mp rs) {s:Nat}(hs:s<rs.length):∃S',tU (vT (pW OV (xv uN (oI (oz 4) pA)) (rC (.int 0)))) vV 100000 [some (.sh (dM rs)),some (.sh (.int (s:Int))),some (.owd (pB 0 rs)),some (.owd (kd [s])),some (.ow (wd [s])),none,none,none]=some (.nx S') /\
  ∃ks v5 v6 v7,S'=[some (.sh (dM rs)),some (.sh (.int (s:Int))),some (.owd (pB 0 rs)),some (.owd (kd ks)),some (.ow (wd [])),v5,v6,v7]/\Inv rs s ks []:=by
 have h1000:=hm.hr;refine Cs (c:=vT (pW OV (xv uN (oI (oz 4) pA)) (rC (.int 0)))) (body:=vV) (λS=>∃ks ws v5 v6 v7,S=[some (.sh (dM rs)),some (.sh (.int (s:Int))),some (.owd (pB 0 rs)),some (.owd (kd ks)),some (.ow (wd ws)),v5,v6,v7]/\Inv rs s ks ws) (mu rs.length) (λS'=>∃ks v5 v6 v7,S'=[some (.sh (dM rs)),some (.sh (.int (s:Int))),some (.owd (pB 0 rs)),some (.owd (kd ks)),some (.ow (wd [])),v5,v6,v7]/\Inv rs s ks []) ?_ 100000 _ ⟨[s],[s],none,none,none,rfl,?_⟩ ?_
 .rintro S ⟨ks,ws,v5,v6,v7,rfl,hi⟩;rcases iI ws with rfl|⟨ws,h,rfl⟩
  .refine ⟨false,_,?_,λq=>(nomatch q),λ_=>⟨ks,v5,v6,v7,rfl,hi⟩⟩
   simp_arith [wd]
   rfl
  .rw [iJ]at hi ⊢;have hlt:h<rs.length:=hi.lt h (hi.sub h (by simp))
   have hr:rs[h]?=some rs[h]:=gEg hlt;obtain⟨a,e1,hi2,mlt⟩:=hi.go hm hr;have few:=hi.few;have kl:=WS _ _ hi.nd hi.lt;have rl:=hm.row hr;rw[lAq,lSq]at few;obtain⟨v6',v7',e2⟩:=Ku (kvs:=pB 0 rs) (ks:=ks) (ws:=ws) (r:=rs[h]) (pl:=plc rs) (v0:=some (.sh (dM rs))) (v1:=some (.sh (.int (s:Int)))) (v5:=some (.sh (.int (h:Int)))) (v6:=v6) (v7:=v7) (λe he=>hm.kv (hm.other hr he)) (by lia) (by lia)
   rw[e1]at e2;have hw:wd (ws++[h])=wd ws++[.sh (.int (h:Int))]:=by simp[wd]
   have wl:(wd ws).length=ws.length:=by simp[wd]
   have c1:(0:Int)<((wd ws++[AV.sh (.int (h:Int))]).length:Int):=by
    rw[lAq,lSq];lia
   have p1:(wd ws++[AV.sh (.int (h:Int))])[(wd ws++[AV.sh (.int (h:Int))]).length-1]?=some (.sh (.int (h:Int))):=by
    rw[lAq,lSq,gYq (by lia)]
    simp
   have p2:(wd ws++[AV.sh (.int (h:Int))]).dropLast=wd ws:=iQ;have at1:atI (rs.map dI) (h:Int)=some (dI rs[h]):=tO (by rw[gMq,hr];rfl)
   refine⟨true,[some (.sh (dM rs)),some (.sh (.int (s:Int))),some (.owd (pB 0 rs)),some (.owd (kd ks)),some (.ow (wd ws++[.sh (.int (h:Int))])),v5,v6,v7],?_,λ_=>⟨[some (.sh (dM rs)),some (.sh (.int (s:Int))),some (.owd (pB 0 rs)),some (.owd (kd (ks++a))),some (.ow (wd (ws++a))),some (.sh (.int (h:Int))),v6',v7'],?_,⟨_,_,_,_,_,rfl,hi2⟩,?_⟩,λq=>(nomatch q)⟩
   .simp_arith [hw,c1]
   .simp_arith [vV,p1,p2,dM,at1,e2]
   .show 2*(rs.length-(kd (ks++a)).length)+(wd (ws++a)).length<2*(rs.length-(kd ks).length)+(wd (ws++[h])).length;unfold kd wd;rw[lMq,lMq,lMq,lMq];exact mlt
 .refine ⟨by simp,?_,by simp,?_,λw h=>h,?_,?_⟩
  .intro k hk;rw[mSq.mp hk];exact hs
  .intro k hk;rw[mSq.mp hk];exact .base
  .intro k hk hn;exact absurd hk hn
  .simp only [lSq];lia
 .show 2*(rs.length-(kd [s]).length)+(wd [s]).length<100000;simp only[kd,wd,lMq,lSq];lia
theorem Io{rs:List (List Int)}(hm:Mp rs) {s:Nat}(hs:s<rs.length):∃ks,Inv rs s ks []/\xH [dM rs,.int (s:Int)]=some (aI (qz (ks.map λk:Nat=>(k:Int)))):=by
 obtain⟨S',e,ks,v5,v6,v7,rfl,hi⟩:=Iw hm hs;have hl:=hm.hl;have pa:=AH hm.hn (by lia)
 have e1:[((aG (s:Int):oS),D.bl true)]=kd [s]:=rfl;have e2:[AV.sh (.int (s:Int))]=wd [s]:=rfl;have e3:Aa (kd ks)=some (ks.map λk:Nat=>(k:Int)):=DS (λk:Nat=>(k:Int)) (λ_=>D.bl true) ks
 have l1:(wd [s]).length<=rG:=by show 1<=16777216;decide
 refine⟨ks,hi,?_⟩
 simp_arith [xH,Dv,pa,e1,e2,e,e3,l1]
theorem QF(ks:List Nat):∃ps:List Nat,ps.Perm ks/\ps.Pairwise (·<=·)/\qz (ks.map λk:Nat=>(k:Int))=ps.map λk:Nat=>(k:Int):=by
 have hp:=pK (ks.map λk:Nat=>(k:Int))
 have hs:=vG (ks.map λk:Nat=>(k:Int))
 have hc:(qz (ks.map λk:Nat=>(k:Int)))=((qz (ks.map λk:Nat=>(k:Int))).map iK).map λk:Nat=>(k:Int):=by
  rw[mPq]
  conv=>lhs;rw[←eM (qz (ks.map λk:Nat=>(k:Int)))]
  refine mCq λz hz=>?_
  obtain⟨k,_,rfl⟩:=mMq.mp (hp.mem_iff.mp hz);rfl
 refine⟨(qz (ks.map λk:Nat=>(k:Int))).map iK,?_,?_,hc⟩
 .have:=hp.map iK;rw[mPq]at this;have e:ks.map (iK∘λk:Nat=>(k:Int))=ks:=by
   conv=>rhs;rw[←eM ks]
   refine mCq λk _=>?_
   show iK (k:Int)=k;exact br k
  rwa [e]at this
 .rw [bz];refine cg.imp (λh=>?_) hs
  lia
structure Pc (rs:List (List Int)) (s:Nat) (ps:List Nat):Prop where
 nd:ps.Nodup
 so:ps.Pairwise (·<=·)
 lt:∀k∈ps,k<rs.length
 iff:∀k,k∈ps↔Cf rs s k
theorem Ji{rs:List (List Int)}(hm:Mp rs) {s:Nat}(hs:s<rs.length):∃ps,Pc rs s ps/\xH [dM rs,.int (s:Int)]=some (aI (ps.map λk:Nat=>(k:Int))):=by
 obtain⟨ks,hi,e⟩:=Io hm hs;obtain⟨ps,h1,h2,h3⟩:=QF ks;rw[h3]at e;refine⟨ps,⟨h1.symm.nodup hi.nd,h2,λk hk=>hi.lt k (h1.mem_iff.mp hk),λk=>⟨λhk=>hi.rc k (h1.mem_iff.mp hk),λhk=>h1.mem_iff.mpr ?_⟩⟩,e⟩
 induction hk with
 |base=>exact hi.st
 |step _ a b c=>exact hi.cl _ c (dX) _ _ a b
theorem Cf.trans{rs:List (List Int)}{a b c:Nat}(h:Cf rs a b) (h2:Cf rs b c):Cf rs a c:=by
 induction h2 with
 |base=>exact h
 |step _ p q r=>exact .step r p q
theorem Cf.symm{rs:List (List Int)}(hm:Mp rs) {a b:Nat}(h:Cf rs a b):Cf rs b a:=by
 induction h with
 |base=>exact .base
 | @step k r e _ p q ih =>
  obtain⟨r',h1,h2⟩:=hm.at (hm.other p q);have:=Cf.step (s:=plc rs (-e)) .base h1 h2;rw[bJ,plc_eq hm.hn p q]at this;exact this.trans ih
end K51
namespace K31
open PySem L2 Mr Z Xe Zl K12
theorem JF(one two:Int):∃st sh a b:Int,1<=st/\st<=10 ^ 40/\0<=sh/\sh<10 ^ 40/\1<=a/\a<=66/\∀k:Nat,wB [.int one,.int two,.int (k:Int)]=some (.sh (.int (LB st sh a b k))):=by
 have a1:0<=two % 66:=aR _ (by decide)
 have a2:two % 66<66:=aO _ (by decide)
 have s1:0<=one / 3 % 10 ^ 40:=aR _ (by decide)
 have s2:one / 3 % 10 ^ 40<10 ^ 40:=aO _ (by decide)
 have s3:0<=two / 66 % 10 ^ 40:=aR _ (by decide)
 have s4:two / 66 % 10 ^ 40<10 ^ 40:=aO _ (by decide)
 have m3:=λi:Int=>rK (i:=i) (j:=3) (by decide)
 have m66:=λi:Int=>rK (i:=i) (j:=66) (by decide)
 have m67:=λi:Int=>rK (i:=i) (j:=67) (by decide)
 have m40:=λi:Int=>rK (i:=i) (j:=10 ^ 40) (by decide)
 have d3:=λi:Int=>uv (i:=i) (j:=3) (by decide) (by decide)
 have d66:=λi:Int=>uv (i:=i) (j:=66) (by decide) (by decide)
 have c1:=λk:Nat=>RL (i:=1+two % 66) (j:=(k:Int)) (by lia) (by lia)
 by_cases h0:0<one % 3
 .refine ⟨1+one / 3 % 10 ^ 40,two / 66 % 10 ^ 40,1+two % 66,one,by lia,by lia,s3,s4,by lia,by lia,λk=>?_⟩
  have b1:0<=((1+two % 66)*(k:Int)+one) % 67:=aR _ (by decide)
  have b2:((1+two % 66)*(k:Int)+one) % 67<67:=aO _ (by decide)
  have c2:=OO (i:=1+one / 3 % 10 ^ 40) (j:=((1+two % 66)*(k:Int)+one) % 67+1) (by lia) (by lia)
  simp_arith [wB,BQ,h0,m3,m66,m67,m40,d3,d66,c1,c2,X9,LB]
 .refine ⟨1,0,1+two % 66,one,by decide,by decide,by decide,by decide,by lia,by lia,λk=>?_⟩
  have b1:0<=((1+two % 66)*(k:Int)+one) % 67:=aR _ (by decide)
  have b2:((1+two % 66)*(k:Int)+one) % 67<67:=aO _ (by decide)
  have c2:=OO (i:=1) (j:=((1+two % 66)*(k:Int)+one) % 67+1) (by lia) (by lia)
  simp_arith [wB,BQ,h0,m3,m66,m67,c1,c2,LB]
theorem NN{T:List (List Int)}{h:Nat}{r:List Int}(hr:T[h]?=some r):qS (.ow (T.map aI)) [h]=some (r.map λn=>.sh (.int n)):=by
 rw[Gw,gMq,hr];rfl
theorem T7{T:List (List Int)}{h:Nat}{r r':List Int}(hr:T[h]?=some r):putAt (.ow (T.map aI)) [h] (r'.map λn=>.sh (.int n)) = .ow ((T.set h r').map aI):=by
 rw[Iq (a:=aI r) (by rw[gMq,hr];rfl)]
 show AV.ow ((T.map aI).set h (aI r'))=_;rw[Nr]
structure Wd where
 T:List (List Int)
 t0:List Nat
 h:Nat
 loose:List Int
 left:List Int
def sg(c x:Int):Int:=x*(1-2*(c / 4 % 2))
def st(v0 v1:Option AV) (wild:Bool) (w:Wd) (v7 v8 v9 v10:Option AV):AS:=[v0,v1,some (.sh (.bl wild)),some (.ow (w.T.map aI)),some (aI (cN (w.t0++[w.h]))),some (aI w.loose),some (aI w.left),v7,v8,v9,v10]
end K31
namespace K31
open PySem L2 Mr Z Xe Zl
structure Nm (nm:List Int):Prop where
 len:nm.length<=100
 nd:nm.Nodup
 lo:∀x∈nm,1<=x
end K31
namespace K31
open PySem L2 Mr Z Xe Zl
open K12 (LB Kf)
def Si(st sh a b:Int) (n:Nat):List Int:=(bq n).map λk:Nat=>LB st sh a b k
theorem Ri{st sh a b:Int}(h1:1<=st) (h2:0<=sh) (k:Nat):1<=LB st sh a b k:=by
 have b1:0<=(a*(k:Int)+b) % 67:=aR _ (by decide)
 have l1:1*1<=st*((a*(k:Int)+b) % 67+1):=Int.mul_le_mul h1 (by lia) (by decide) (by lia)
 show 1<=st*((a*(k:Int)+b) % 67+1)+sh;lia
theorem OB{st sh a b:Int}{n:Nat}(hn:n<=67) (h1:1<=st) (h2:0<=sh) (h3:1<=a) (h4:a<=66):Nm (Si st sh a b n):=by
 refine⟨by unfold Si;rw[lMq,bf];lia,?_,λx h=>?_⟩
 .unfold Si;rw[aT,bz];refine cg.imp_of_mem (λ{x y} hx hy hne e=>hne (Kf h1 h3 h4 (by have:=cC.mp hx;lia) (by have:=cC.mp hy;lia) e)) (aT.mp List.nodup_range)
 .obtain ⟨k,_,rfl⟩:=mMq.mp h;exact Ri h1 h2 k
end K31
namespace K41
open PySem L2 Mr Z Xe Zl
def thn(g t:List Int):List Int:=t.filter λe=>!decide (e∈g)
theorem QI(g t:List Int) (ht:t.length<=1000):K23.xW [dI t,.list (g.map D.int)]=some (aI (thn g t)):=by
 have h:qL (vT (pW (Lr true) (oz 0) (oz 1))) (pG 0) [some (.sh (.list (g.map D.int)))] (t.map D.int)=some ((thn g t).map λn=>.sh (.int n)):=by
  rw[Z.vJ (λd=>match d with|.int e=>!decide (e∈g)|_=>false) (λd=>.sh d)]
  .rw [gu,mPq];rfl
  .intro d hd;obtain⟨e,_,rfl⟩:=mMq.mp hd;have h:=Pb true e g;rw[pe rfl]at h;refine⟨[some (.sh (.int e)),some (.sh (.list (g.map D.int)))],?_,λ_=>⟨[some (.sh (.int e)),some (.sh (.list (g.map D.int)))],?_⟩⟩
   .simp_arith [h]
   .simp_arith []
 have hl2:t.length<=rG:=rO (by lia)
 simp_arith [K23.xW,K23.Dg,dI,h,hl2]
def Cw(g:List Int) (M:List (List Int)):List (List Int):=M.map (thn g)
theorem QA(g:List Int) {rs:List (List Int)}(hr:∀r∈rs,r.length<=1000):qL sJ (qM K23.xW (oV (pG 0) (oV (pG 1) qj))) [some (.sh (.list (g.map D.int)))] (rs.map dI)=some ((Cw g rs).map aI):=by
 rw[Z.si λd=>aI (thn g (Dj d))]
 .rw [FS λr=>aI (thn g r)]
  unfold Cw;rw[mPq];rfl
 .intro d hd;obtain⟨r,hr',rfl⟩:=O5 hd;refine⟨[some (.sh (dI r)),some (.sh (.list (g.map D.int)))],?_⟩
  simp_arith [QI g r (hr r hr'),wO]
theorem NU(R:List Int):qL sJ (kSc (DF xw (oz 0))) [] (R.map D.int)=some ((R.map λz=>-z).map λn=>.sh (.int n)):=by
 rw[Z.si (λd=>match d with|.int i=>AV.sh (.int (-i))|_=>.sh .non)]
 .rw [mPq,mPq];rfl
 .intro d hd;obtain⟨e,_,rfl⟩:=mMq.mp hd;refine⟨[some (.sh (.int e))],?_⟩
  simp_arith []
variable {M:List (List Int)}
theorem IK(hm:Mp M) (R:List Int) (hR:R.length<=1000):K43.um [dM M,.list (R.map D.int)]=some (.ow ((Cw (R++R.map λz=>-z) M).map aI)):=by
 have nc:=NU R;have wc:=QA (R++R.map λz=>-z) (rs:=M) λr hr=>by have:=Fw hr;have:=hm.hl;lia
 have l1:M.length<=rG:=rO (by have:=hm.hr;lia)
 have l2:R.length<=rG:=rO (by lia)
 have l3:R.length+R.length<=rG:=rO (by lia)
 have q:R.map D.int++(R.map λz=>-z).map D.int=(R++R.map λz=>-z).map D.int:=by rw[mBq]
 simp_arith [K43.um,K43.xS,nc,q,wc,l1,l2,l3]
theorem L7(g:List Int) (M:List (List Int)):(Cw g M).flatten=thn g M.flatten:=by
 unfold Cw thn
 induction M with
 |nil=>rfl
 |cons r M ih=>rw[ao,fCq,fCq,ih,bV]
theorem EB(hm:Mp M) {g:List Int}(hg:∀e, -e∈g->e∈g):Mp (Cw g M):=by
 have e:=L7 g M;refine⟨?_,?_,by unfold Cw;rw[lMq];exact hm.hr,λz hz=>?_⟩
 .rw [e];exact hm.hn.filter _
 .rw [e];exact bQ (dF _ _) hm.hl
 .rw [e]at hz ⊢;obtain⟨h1,h2⟩:=aw.mp hz;refine aw.mpr ⟨hm.hneg z h1,?_⟩;simp only[gQ,decide_eq_false_iff_not]at h2 ⊢;exact λh=>h2 (hg z h)
def Iz:AV->Option (List (oS×List Int))
 | .owl k=>some k
 | .owd []=>some []
 |_=>none
theorem N1(S:AS) (i:Nat):vo S i=S[i]?.join.bind Iz:=by
 unfold vo;cases S[i]?.join with
 |none=>rfl
 |some a =>
  cases a with
  |owd k=>cases k <;> rfl
  |_=>rfl
theorem GT(k:List (oS×List Int)):Iz (.owl k)=some k:=rfl
def yM(kvs:List (oS×List Int)):List (List Int):=kvs.map λx=>x.2
theorem GZ{k:oS}{m:Int}:∀{kvs:List (oS×List Int)},(∃x∈kvs,x.1=k)->(yM (vM kvs k m)).flatten.Perm (m::(yM kvs).flatten)/\∀x∈vM kvs k m,x∈kvs∨∃l,x.2=l++[m]
 | [],h=>by obtain⟨x,hx,_⟩:=h;cases hx
 |y::r,h=>by
  by_cases c:y.1=k
  .rw [vM,pe c];refine⟨?_,λx hx=>?_⟩
   .show ((y.2++[m])++(yM r).flatten).Perm (m::(y.2++(yM r).flatten));rw[aq];exact cS
   .rcases ag.mp hx with rfl|hx
    .exact .inr ⟨_,rfl⟩
    .exact .inl (mCo _ hx)
  .rw [vM,pD c];obtain⟨x,hx,e⟩:=h;have hx':x∈r:=by
    rcases ag.mp hx with rfl|hx
    .exact absurd e c
    .exact hx
   obtain⟨i1,i2⟩:=GZ (k:=k) (m:=m) ⟨x,hx',e⟩;refine⟨?_,λx hx=>?_⟩
   .show (y.2++(yM (vM r k m)).flatten).Perm (m::(y.2++(yM r).flatten));exact(aW.append_left _ i1).trans cS
   .rcases ag.mp hx with rfl|hx
    .exact .inl (aj ..)
    .exact (i2 x hx).imp (mCo _) id
theorem EG{k:oS}{m:Int}{l:List Int}:∀{kvs:List (oS×List Int)},(∀x∈kvs,x.1≠k)->vM (kvs++[(k,l)]) k m=kvs++[(k,l++[m])]
 | [],_=>by simp[vM]
 |y::r,h=>by
  rw[dU,vM,pD (h y (aj ..)),EG λx hx=>h x (mCo _ hx)]
  rfl
theorem PB{kvs:List (oS×List Int)}(k:oS) (m:Int) (ne:∀x∈kvs,x.2≠[]):(yM (vM (Fh kvs k) k m)).flatten.Perm (m::(yM kvs).flatten)/\(∀x∈vM (Fh kvs k) k m,x.2≠[])/\∀x∈Fh kvs k,x∈kvs∨x.2=[]:=by
 unfold Fh
 by_cases c:(kvs.any λx=>decide (x.1=k))=true
 .rw [pe c];obtain⟨x,hx,e⟩:=cR.mp c;obtain⟨i1,i2⟩:=GZ (m:=m) ⟨x,hx,of_decide_eq_true e⟩;refine⟨i1,λx hx=>?_,λx hx=>.inl hx⟩
  rcases i2 x hx with z|⟨l,z⟩
  .exact ne x z
  .rw [z];simp
 .rw [pD c];have nk:∀x∈kvs,x.1≠k:=λx hx e=>c (cR.mpr ⟨x,hx,decide_eq_true e⟩)
  rw[EG nk];refine⟨?_,λx hx=>?_,λx hx=>?_⟩
  .unfold yM;rw[mBq,fAq];show ((yM kvs).flatten++([]++[m])).Perm (m::(yM kvs).flatten);exact bb
  .rcases mAq.mp hx with z|z
   .exact ne x z
   .rw [mSq.mp z];simp
  .rcases mAq.mp hx with z|z
   .exact .inl z
   .rw [mSq.mp z];exact .inr rfl
theorem Ay:∀{kvs:List (oS×List Int)},(∀x∈kvs,x.2≠[])->kvs.length<=(yM kvs).flatten.length
 | [],_=>ai _
 |y::r,h=>by
  have i:=Ay λx hx=>h x (mCo _ hx)
  have:0<y.2.length:=cz.mpr (h y (aj ..));show r.length+1<=(y.2++(yM r).flatten).length;rw[lAq];lia
theorem Ph{kvs:List (oS×List Int)}{x:oS×List Int}(h:x∈kvs):x.2.length<=(yM kvs).flatten.length:=Fw (mMq.mpr ⟨x,h,rfl⟩)
end K41
namespace K41
open PySem L2 Mr Z Xe Zl
open K51 (Cf Pc)
def ab(i:Int):Int:=if i<0 then -i else i
theorem Ey(i:Int):(if i<0 then -i else i)=ab i:=rfl
def kp(M:List (List Int)) (p:Nat) (e:Int):Bool:=decide (plc M (-e)≠p) || decide (0<e)
theorem J8{k:oS}{m:Int}:∀{kvs:List (oS×List Int)},(vM kvs k m).map (·.1)=kvs.map (·.1)/\∀x∈vM kvs k m,x∈kvs∨(x.1=k/\∃l,x.2=l++[m]/\(k,l)∈kvs)
 | []=>⟨rfl,λx h=>.inl h⟩
 |y::r=>by
  by_cases c:y.1=k
  .rw [vM,pe c];refine⟨rfl,λx hx=>?_⟩
   rcases ag.mp hx with rfl|hx
   .refine .inr ⟨c,y.2,rfl,?_⟩;rw[←c];exact aj ..
   .exact .inl (mCo _ hx)
  .rw [vM,pD c];obtain⟨i1,i2⟩:=J8 (k:=k) (m:=m) (kvs:=r);refine⟨by rw[ao,i1];rfl,λx hx=>?_⟩
   rcases ag.mp hx with rfl|hx
   .exact .inl (aj ..)
   .rcases i2 x hx with z|⟨z,l,z1,z2⟩
    .exact .inl (mCo _ z)
    .exact .inr ⟨z,l,z1,mCo _ z2⟩
theorem QS{kvs:List (oS×List Int)}(k:oS) (m:Int) (nk:(kvs.map (·.1)).Nodup):((vM (Fh kvs k) k m).map (·.1)).Nodup/\∀x∈vM (Fh kvs k) k m,x∈kvs∨(x.1=k/\∃l,x.2=l++[m]/\(l=[]∨(k,l)∈kvs)):=by
 obtain⟨i1,i2⟩:=J8 (k:=k) (m:=m) (kvs:=Fh kvs k);rw[i1];unfold Fh at i2 ⊢
 by_cases c:(kvs.any λx=>decide (x.1=k))=true
 .rw [pe c]at i2 ⊢;exact⟨nk,λx hx=>(i2 x hx).imp id λ⟨a,l,b,d⟩=>⟨a,l,b,.inr d⟩⟩
 .rw [pD c]at i2 ⊢;have nk2:∀x∈kvs,x.1≠k:=λx hx e=>c (cR.mpr ⟨x,hx,decide_eq_true e⟩)
  refine⟨?_,λx hx=>?_⟩
  .rw [mBq];refine nAq.mpr ⟨nk,by simp,λa ha b hb q=>?_⟩
   obtain⟨x,hx,rfl⟩:=mMq.mp ha;rw[ao,bX]at hb;exact nk2 x hx (q.trans (mSq.mp hb))
  .rw [EG nk2]at hx;rcases mAq.mp hx with z|z
   .exact .inl z
   .rw [mSq.mp z];exact .inr ⟨rfl,[],rfl,.inl rfl⟩
structure Hd (P:List (List Int)) (s h:Nat):Prop where
 rc:Cf P s h
 le:∀k,Cf P s k->h<=k
structure Gi (M P:List (List Int)) (p:Nat) (r:List Int) (L:List Int) (kvs:List (oS×List Int)):Prop where
 per:(L++(yM kvs).flatten).Perm ((r.filter (kp M p)).map ab)
 ne:∀x∈kvs,x.2≠[]
 lo:∀e∈L,e∈r/\0<e/\plc M (-e)=p
 nk:(kvs.map (·.1)).Nodup
 ky:∀x∈kvs,∃h:Nat,x.1 = .inl (h:Int)/\∀z∈x.2,∃e∈r,ab e=z/\plc M (-e)≠p/\Hd P (plc M (-e)) h
section
variable {M P:List (List Int)}{p:Nat}{r r' L:List Int}{kvs:List (oS×List Int)}
theorem Gi.len(h:Gi M P p r L kvs):L.length+(yM kvs).flatten.length<=r.length:=by
 have:=h.per.length_eq;rw[lAq,lMq]at this;have:=dF (kp M p) r;lia
theorem Gi.hang(h:Gi M P p r L kvs) {e:Int}(hk:plc M (-e)≠p) {k:Nat}(hd:Hd P (plc M (-e)) k):Gi M P p (r++[e]) L (vM (Fh kvs (.inl (k:Int))) (.inl (k:Int)) (ab e)):=by
 obtain⟨q1,q2,_⟩:=PB (.inl (k:Int)) (ab e) h.ne;obtain⟨q3,q4⟩:=QS (.inl (k:Int)) (ab e) h.nk;refine⟨?_,q2,λe he=>⟨az _ (h.lo e he).1,(h.lo e he).2⟩,q3,λx hx=>?_⟩
 rotate_left
 .rcases q4 x hx with z|⟨z,l,z1,z2⟩
  .obtain ⟨g,g1,g2⟩:=h.ky x z;exact⟨g,g1,λy hy=>(g2 y hy).imp λa b=>⟨az _ b.1,b.2⟩⟩
  .refine ⟨k,z,λy hy=>?_⟩
   rw[z1]at hy;rcases mAq.mp hy with w|w
   .rcases z2 with z2|z2
    .rw [z2]at w;cases w
    .obtain ⟨g,g1,g2⟩:=h.ky _ z2;have:k=g:=by have:=aG.inj g1;lia
     subst this;exact(g2 y w).imp λa b=>⟨az _ b.1,b.2⟩
   .rw [mSq.mp w];exact⟨e,ar _ (mSq.mpr rfl),rfl,hk,hd⟩
 have:kp M p e=true:=by unfold kp;rw[decide_eq_true hk];rfl
 rw[bV,eB this,iA,mBq];refine(aW.append_left L q1).trans ?_;refine cS.trans ?_;refine((aW.cons _ h.per)).trans ?_;exact(bb (l₁:=[ab e]))
theorem Gi.loop(h:Gi M P p r L kvs) {e:Int}(hk:plc M (-e)=p) (hp:0<e):Gi M P p (r++[e]) (L++[e]) kvs:=by
 refine⟨?_,h.ne,λy hy=>?_,h.nk,λx hx=>?_⟩
 rotate_left
 .rcases mAq.mp hy with w|w
  .exact ⟨az _ (h.lo y w).1,(h.lo y w).2⟩
  .rw [mSq.mp w];exact⟨ar _ (mSq.mpr rfl),hp,hk⟩
 .obtain ⟨g,g1,g2⟩:=h.ky x hx;exact⟨g,g1,λy hy=>(g2 y hy).imp λa b=>⟨az _ b.1,b.2⟩⟩
 have:kp M p e=true:=by unfold kp;rw[decide_eq_true hp,jT]
 rw[bV,eB this,iA,mBq];have ea:ab e=e:=pD (by lia)
 rw[aq];refine cS.trans ?_;refine((aW.cons _ h.per)).trans ?_;show (e::_).Perm (_++[ab e]);rw[ea];exact(bb (l₁:=[e]))
theorem Gi.none(h:Gi M P p r L kvs) {e:Int}(hk:plc M (-e)=p) (hp:¬ 0<e):Gi M P p (r++[e]) L kvs:=by
 refine⟨?_,h.ne,λy hy=>⟨az _ (h.lo y hy).1,(h.lo y hy).2⟩,h.nk,λx hx=>?_⟩
 rotate_left
 .obtain ⟨g,g1,g2⟩:=h.ky x hx;exact⟨g,g1,λy hy=>(g2 y hy).imp λa b=>⟨az _ b.1,b.2⟩⟩
 have:¬ kp M p e=true:=by unfold kp;rw[decide_eq_false hp,jP];simp[hk]
 rw[bV,fF this,iA,aNq];exact h.per
end
variable {M:List (List Int)}{p:Nat}{r:List Int}
def gst(M:List (List Int)) (p:Nat) (a3:AV) (L:List Int) (b:AV) (v6 v7:Option AV):AS:=[some (.sh (dM M)),some (.sh (.int (p:Int))),some (.owd (pB 0 M)),some a3,some (.ow ((L.map λe=>[e]).map aI)),some b,v6,v7]
theorem AZ(a b:Nat):N2 (.int (a:Int)) (.int (b:Int))=some (.bl (!decide (a=b))):=by
 rw[Jo];congr 3;exact decide_eq_decide.mpr Int.ofNat_inj
theorem Tq(hm:Mp M) (hr:M[p]?=some r) {P:List (List Int)}(hp:Mp P) (hP:P.length=M.length) {i:Nat}{e:Int}(he:r[i]?=some e) {a3 b:AV}{L:List Int}{kvs:List (oS×List Int)}{v6 v7:Option AV}(h3:oK a3=dM P) (hb:Iz b=some kvs) (hi:Gi M P p (r.take i) L kvs) :
  ∃a3' b' L' kvs' v6' v7',tE (gst M p a3 L b (some (.sh (.int e))) v7)=some (.nx (gst M p a3' L' b' v6' v7'))/\oK a3'=dM P/\Iz b'=some kvs'/\Gi M P p (r.take (i+1)) L' kvs':=by
 have her:e∈r:=mGq he;have heM:e∈M.flatten:=mFq.mpr ⟨r,mGq hr,her⟩;have g:=hm.kv (hm.hneg e heM);have et:r.take (i+1)=r.take i++[e]:=by rw[bZ,he];rfl
 rw[et];have rl:=hm.row hr;have gl:=hi.len;have tl:(r.take i).length<=r.length:=by rw[lTq];lia
 have dn:=AZ (plc M (-e)) p
 by_cases c:plc M (-e)=p
 .rw [decide_eq_true c]at dn
  by_cases c2:0<e
  .refine ⟨a3,b,L++[e],kvs,some (.sh (.int e)),some (.sh (.int (plc M (-e):Int))),?_,h3,hb,hi.loop c c2⟩;have l1:L.length<rG:=aN (show L.length<2000 by lia) (by decide)
   have q:(L.map λe=>[e]).map aI++[.ow [.sh (.int e)]]=((L++[e]).map λe=>[e]).map aI:=by rw[mBq,mBq];rfl
   simp_arith [tE,gst,g,dn,c2,l1,q]
  .refine ⟨a3,b,L,kvs,some (.sh (.int e)),some (.sh (.int (plc M (-e):Int))),?_,h3,hb,hi.none c c2⟩
   simp_arith [tE,gst,g,dn,c2]
 .rw [decide_eq_false c]at dn;have hlt:=hm.lt (hm.hneg e heM);obtain⟨ps,pc,re⟩:=K51.Ji (rs:=P) ⟨hp.hn,hp.hl,hp.hr,hp.hneg⟩ (s:=plc M (-e)) (by rw[hP];exact hlt)
  have hne:ps≠[]:=λz=>by
   have:=(pc.iff (plc M (-e))).mpr .base;rw[z]at this;cases this
  obtain⟨h,ps',rfl⟩:∃h ps',ps=h::ps':=by
   cases ps with
   |nil=>exact absurd rfl hne
   |cons h ps'=>exact⟨h,ps',rfl⟩
  have hd:Hd P (plc M (-e)) h:=⟨(pc.iff h).mp (aj ..),λk hk=>by
   rcases ag.mp ((pc.iff k).mpr hk) with z|z
   .lia
   .exact (gJ.mp pc.so).1 k z⟩
  have ix:∀l:List D,atI (D.int (h:Int)::l) 0=some (.int (h:Int)):=λl=>tO (j:=0) rfl
  obtain⟨_,_,q3⟩:=PB (kvs:=kvs) (aG (h:Int)) (ab e) hi.ne;refine⟨.sh (dM P),.owl (vM (Fh kvs (.inl (h:Int))) (.inl (h:Int)) (ab e)),L,_,some (.sh (.int e)),some (.sh (.int (plc M (-e):Int))),?_,sr _,GT _,hi.hang c hd⟩;have l1:kvs.length<rG:=aN (show kvs.length<2000 by have:=Ay hi.ne;lia) (by decide)
  have l2:∀l∈Fh kvs (.inl (h:Int)),l.2.length<rG:=λl hl=>aN (show l.2.length<2000 by
   rcases q3 l hl with z|z
   .have:=Ph z;lia
   .rw [z];decide) (by decide)
  simp_arith [tE,gst,g,dn,Vi,N1,hb,h3,re,ix,l1,GT,Ey]
  rw[vA l2]
theorem UH(hm:Mp M) (hr:M[p]?=some r) {P:List (List Int)}(hp:Mp P) (hP:P.length=M.length) {a3 b:AV}(h3:oK a3=dM P) (hb:Iz b=some []) :
  ∃a3' b' L kvs v6 v7,su 6 tE (r.map D.int) (gst M p a3 [] b none none)=some (.nx (gst M p a3' L b' v6 v7))/\Iz b'=some kvs/\Gi M P p r L kvs:=by
 have key:=vF (x:=6) (body:=tE) (λi S=>∃a3 b L kvs v6 v7,S=gst M p a3 L b v6 v7/\oK a3=dM P/\Iz b=some kvs/\Gi M P p (r.take i) L kvs) (ds:=r.map D.int) (S:=gst M p a3 [] b none none) ⟨a3,b,[],[],none,none,rfl,h3,hb,by rw[fI];exact⟨.refl _,λx h=>(by cases h),λx h=>(by cases h),bp,λx h=>(by cases h)⟩⟩ (by
  rintro i d S hd ⟨a3,b,L,kvs,v6,v7,rfl,h3,hb,hi⟩;rw[gMq]at hd;obtain⟨e,he,rfl⟩:=oMq.mp hd;obtain⟨a3',b',L',kvs',v6',v7',e1,e2,e3,e4⟩:=Tq hm hr hp hP he (v6:=v6) (v7:=v7) h3 hb hi;exact⟨_,e1,a3',b',L',kvs',v6',v7',rfl,e2,e3,e4⟩)
 obtain⟨S',e,a3',b',L,kvs,v6,v7,rfl,_,e3,e4⟩:=key;rw[lMq,bw]at e4;exact⟨a3',b',L,kvs,v6,v7,e,e3,e4⟩
theorem M7(l:List Int):qL sJ (kSc (xv zU (oI (oz 0) pA))) [] (l.map D.int)=some ((l.map ab).map λn=>.sh (.int n)):=by
 rw[Z.si (λd=>match d with|.int i=>AV.sh (.int (ab i))|_=>.sh .non)]
 .rw [mPq,mPq];rfl
 .intro d hd;obtain⟨e,_,rfl⟩:=mMq.mp hd;refine⟨[some (.sh (.int e))],?_⟩
  simp_arith [Ey]
theorem Mj(kvs:List (oS×List Int)):qL sJ (CD (uI 0)) [] (kvs.map λx=>D.list (x.2.map D.int))=some ((kvs.map λx=>qz x.2).map aI):=by
 have h:=Z.si (te:=CD (uI 0)) (cap:=[]) (λd=>aI (qz (Dj d))) (ds:=(kvs.map λx=>dI x.2)) (by
  intro d hd;obtain⟨x,_,rfl⟩:=mMq.mp hd;refine⟨[some (.sh (dI x.2))],?_⟩
  simp_arith [wO,dI])
 rw[mPq]at h ⊢;refine h.trans (congrArg some (mCq λx _=>?_))
 show aI (qz (Dj (dI x.2)))=aI (qz x.2);rw[wO]
theorem C7(hm:Mp M) (hr:M[p]?=some r):∃L kvs,tI [dM M,.int (p:Int)]=some (.ow ((qY ((L.map λe=>[e])++kvs.map λx=>qz x.2)).map aI))/\Gi M (Cw ((r.map ab)++(r.map ab).map λz=>-z) M) p r L kvs:=by
 have hl:=hm.hl;have rl:=hm.row hr;have pa:=AH (rs:=M) hm.hn (by lia)
 have ac:=M7 r;have wo:=IK hm (r.map ab) (by rw[lMq];exact rl)
 have hP:=EB hm (g:=(r.map ab)++(r.map ab).map λz=>-z) (λe h=>by
  rcases mAq.mp h with z|z
  .exact ar _ (mMq.mpr ⟨-e,z,by lia⟩)
  .obtain ⟨y,hy,hz⟩:=mMq.mp z;have:y=e:=by lia
   exact az _ (this ▸ hy))
 have lP:(Cw ((r.map ab)++(r.map ab).map λz=>-z) M).length=M.length:=lMq ..
 generalize Cw ((r.map ab)++(r.map ab).map λz=>-z) M=P at wo hP lP
 have sP:(P.map aI).map oK=P.map dI:=by rw[mPq];exact mCq λr _=>qO r
 obtain⟨a3,b,L,kvs,v6,v7,e1,hb,gi⟩:=UH hm hr hP lP (a3:=.ow (P.map aI)) (b:=.owd []) (by rw[tG,sP]) rfl
 refine⟨L,kvs,?_,gi⟩;have gl:=gi.len;have kl:=Ay gi.ne;have at1:atI (M.map dI) (p:Int)=some (dI r):=tO (by rw[gMq,hr];rfl)
 have sc:=Mj kvs;have l1:r.length<=rG:=rO (by lia)
 have l2:kvs.length<=rG:=rO (by lia)
 have l3:L.length+kvs.length<=rG:=rO (by lia)
 have q:(L.map λe=>[e]).map aI++(kvs.map λx=>qz x.2).map aI=((L.map λe=>[e])++kvs.map λx=>qz x.2).map aI:=by rw[mBq]
 unfold gst at e1;simp only[bX]at e1
 simp_arith [tI,D4,pa,dM,dI,at1,ac,l1,wo,e1,Tp,Vx,N1,hb,sc,l2,l3,q,true_and]
end K41
namespace K41
open PySem L2 Mr Z Xe Zl K31
theorem RA{a b:List Int}(h:a.Perm b):qz a=qz b:=zL ((pK a).trans h) (vG a)
structure Gd (r:List Int) (G:List (List Int)):Prop where
 so:qY (G.map qz)=G
 ne:[]∉G
 fl:qz G.flatten=qz (Ms.dd (r.map ab))
 le:G.length<=1000
 lf:G.flatten.length<=1000
theorem CN{x y:Int}(h:ab x=ab y):x=y∨x = -y:=by
 unfold ab at h;split at h <;> split at h <;> lia
theorem Fd(x:Int):ab (-x)=ab x:=by
 unfold ab;split <;> split <;> lia
theorem Nl(L:List Int):(L.map λe=>[e]).flatten=L:=by
 induction L with
 |nil=>rfl
 |cons x L ih=>rw[ao,fCq,ih];rfl
theorem Mk(kvs:List (oS×List Int)):(kvs.map λx=>qz x.2).flatten.Perm (yM kvs).flatten:=by
 induction kvs with
 |nil=>exact .refl _
 |cons x r ih =>
  show (qz x.2++(r.map λx=>qz x.2).flatten).Perm (x.2++(yM r).flatten)
  exact(pK x.2).append ih
variable {M:List (List Int)}{p:Nat}{r:List Int}
theorem K5(hm:Mp M) (h0:∀e∈M.flatten,e≠0) (hr:M[p]?=some r):∃G,tI [dM M,.int (p:Int)]=some (.ow (G.map aI))/\Gd r G:=by
 obtain⟨L,kvs,e,gi⟩:=C7 hm hr;refine⟨_,e,?_⟩;have rl:=hm.row hr;have gl:=gi.len;have kl:=Ay gi.ne;have hX:∀x∈(L.map λe=>[e])++kvs.map λx=>qz x.2,qz x=x/\x≠[]:=λx hx=>by
  rcases mAq.mp hx with z|z
  .obtain ⟨y,_,rfl⟩:=mMq.mp z;exact⟨gH.mp (pK [y]),by simp⟩
  .obtain ⟨y,hy,rfl⟩:=mMq.mp z;refine⟨(zL (.refl _) (vG _)).symm,λz=>gi.ne y hy ?_⟩
   have:=(pK y.2).length_eq;rw[z]at this;exact aS.mp this.symm
 have hf:((L.map λe=>[e])++kvs.map λx=>qz x.2).flatten.Perm ((r.filter (kp M p)).map ab):=by
  rw[fAq,Nl];exact(aW.append_left L (Mk kvs)).trans gi.per
 have lX:((L.map λe=>[e])++kvs.map λx=>qz x.2).length=L.length+kvs.length:=by rw[lAq,lMq,lMq]
 generalize (L.map λe=>[e])++kvs.map (λx=>qz x.2)=X at hX hf lX
 have hp:=rm X;have hf2:=(sW hp).trans hf;have hin:∀{e:Int},e∈r->plc M e=p:=λh=>plc_eq hm.hn hr h
 have hM:∀{e:Int},e∈r->e∈M.flatten:=λh=>mFq.mpr ⟨r,mGq hr,h⟩
 refine⟨?_,λh=>(hX [] (hp.mem_iff.mp h)).2 rfl,?_,by rw[hp.length_eq,lX];lia,?_⟩
 .have:(qY X).map qz=qY X:=by
   conv=>rhs;rw[←eM (qY X)]
   exact mCq λx hx=>(hX x (hp.mem_iff.mp hx)).1
  rw[this];exact LM hp
 .refine RA (hf2.trans ?_);refine(cP ?_ (Ms.Hr _)).mpr λx=>?_
  .rw [aT,bz];have nd:(r.filter (kp M p)).Nodup:=(hm.hn.sublist (aD (mGq hr))).filter _;refine cg.imp_of_mem (λ{a b} ha hb hab h=>?_) nd
   obtain⟨a1,a2⟩:=aw.mp ha;obtain⟨b1,b2⟩:=aw.mp hb;rcases CN h with z|z
   .exact hab z
   .have e1:plc M (-a)=p:=by rw[show -a=b by lia];exact hin b1
    have e2:plc M (-b)=p:=by rw[show -b=a by lia];exact hin a1
    unfold kp at a2 b2;simp only[e1,e2,ne_eq,not_true,decide_false,jL,decide_eq_true_eq]at a2 b2;lia
  .rw [Ms.Br];constructor
   .intro h;obtain⟨e,he,rfl⟩:=mMq.mp h;exact mMq.mpr ⟨e,(aw.mp he).1,rfl⟩
   .intro h;obtain⟨e,he,rfl⟩:=mMq.mp h
    by_cases c:kp M p e=true
    .exact mMq.mpr ⟨e,aw.mpr ⟨he,c⟩,rfl⟩
    .unfold kp at c;simp only[jx,decide_eq_true_eq,not_or,ne_eq,Decidable.not_not]at c;have hz:=h0 e (hM he);obtain⟨r',h1,h2⟩:=hm.at (hm.hneg e (hM he));rw[c.1,hr]at h1;cases h1;refine mMq.mpr ⟨-e,aw.mpr ⟨h2,?_⟩,Fd e⟩;unfold kp;rw[decide_eq_true (show 0 < -e by lia),jT]
 .rw [hf2.length_eq,lMq];have:=dF (kp M p) r;lia
def IZ(n:Nat) (g:Nat->List (List Int)):List Int:=((bq n).filter λk=>decide (2<=(g k).length)).map λk:Nat=>(k:Int)
theorem doors_ok{g:Nat->List (List Int)}(hl:M.length<=1000) (hg:∀k,k<M.length->tI [dM M,.int (k:Int)]=some (.ow ((g k).map aI))):Bk [dM M]=some (aI (IZ M.length g)):=by
 have key:qL (vT (pW WZ (xv uN (oI (rOf (qM K41.tI (oV (pG 1) (oV (pG 0) qj)))) pA)) (rC (.int 2)))) (pG 0) [some (.sh (dM M))] (pZ 0 M.length)=some ((IZ M.length g).map λn=>.sh (.int n)):=by
  rw[Z.vJ (λd=>match d with|.int e=>decide (2<=(g e.toNat).length)|_=>false) (λd=>.sh d)]
  .unfold pZ IZ;rw[gu,mPq,mPq];congr 1;have e1:∀k:Nat,((λd=>match d with|D.int e=>decide (2<=(g e.toNat).length)|_=>false)∘λk:Nat=>D.int (0+(k:Int))) k=decide (2<=(g k).length):=λk=>by
    show decide (2<=(g (0+(k:Int)).toNat).length)=_;rw[show (0+(k:Int)).toNat=k by lia]
   rw[fO λk _=>e1 k]
   refine mCq λk _=>?_
   show AV.sh (D.int (0+(k:Int)))=AV.sh (D.int (k:Int));rw[gB]
  .intro d hd;unfold pZ at hd;obtain⟨k,hk,rfl⟩:=mMq.mp hd;have hk':=cC.mp hk;rw[gB];have e:=hg k hk';have sg:((g k).map aI).map oK=(g k).map dI:=by rw[mPq];exact mCq λr _=>qO r
   have d2:decide ((2:Int)<=((g k).length:Int))=decide (2<=(g k).length):=decide_eq_decide.mpr (by lia)
   refine⟨[some (.sh (.int (k:Int))),some (.sh (dM M))],?_,λ_=>⟨[some (.sh (.int (k:Int))),some (.sh (dM M))],?_⟩⟩
   .simp_arith [e,sg,d2]
    rfl
   .simp_arith []
 have rg:=vS (n:=M.length) (by lia)
 have l1:(pZ 0 M.length).length<=rG:=by rw[qd];exact rO (by lia)
 simp_arith [Bk,GU,dM,rg,l1,key]
theorem Ry(n:Nat) (g:Nat->List (List Int)):(IZ n g).length<=n:=by
 unfold IZ;rw[lMq];exact bQ (dF _ _) (by rw[bf];exact ai _)
end K41
namespace K45
open PySem L2 Mr Z Xe Zl K31
def zS(r:List Int) (z:Nat) (e:Int):List Int:=r.take z++e::r.drop z
theorem Ej(r:List Int) (z:Nat) (e:Int):(zS r z e).Perm (e::r):=by
 unfold zS;refine cS.trans ?_;rw[aM]
theorem Be{e:Int}:∀{T:List (List Int)}{a:Nat}{r:List Int}(z:Nat),T[a]?=some r->(T.set a (zS r z e)).flatten.Perm (e::T.flatten)
 | [],_,_,_,h=>by simp at h
 |t::T,0,r,z,h=>by
  simp only[ik,aJ.injEq]at h;subst h;rw[eC,fCq,fCq];exact(Ej t z e).append_right _
 |t::T,a+1,r,z,h=>by
  rw[eD,fCq,fCq];refine(aW.append_left t (Be z (by simpa using h))).trans ?_
  exact cS
theorem HJ{T:List (List Int)}{a:Nat}{r:List Int}{e:Int}(z:Nat) (h:T[a]?=some r) (k:Nat) (y:Int):y∈(T.set a (zS r z e)).getD k []↔y∈T.getD k []∨(y=e/\k=a):=by
 have ha:=(gSq.mp h).1;rw[gDq,gDq]
 by_cases c:a=k
 .subst c;rw[aZ ha,h];show y∈zS r z e↔y∈r∨_;rw[(Ej r z e).mem_iff,ag];exact⟨λq=>q.elim (λq=>.inr ⟨q,rfl⟩) .inl,λq=>q.elim .inr λq=>.inl q.1⟩
 .rw [aX c];exact⟨.inl,λq=>q.elim id λq=>absurd q.2.symm c⟩
def pm(xs:List Int):List Int:=xs.flatMap λx=>[x, -x]
theorem Rz(x:Int) (xs:List Int):pm (x::xs)=x :: -x::pm xs:=rfl
theorem pm_len:∀xs:List Int,(pm xs).length=2*xs.length
 | []=>rfl
 |x::xs=>by rw[Rz,lCq,lCq,pm_len xs,lCq];lia
end K45
namespace K45
open PySem L2 Mr Z Xe Zl K31 K41
open K51 (Cf Pc)
def md(U:List Int) (f:Int->Int):List (oS×D):=U.map λz=>(.inl z,.int (f z))
theorem MM{U:List Int}{f g:Int->Int}(h:∀z∈U,f z=g z):md U f=md U g:=mCq λz hz=>by rw[h z hz]
theorem Pq(U:List Int) (f:Int->Int) (z:Int):(md U f).any (λkv=>decide (kv.1=(aG z:oS)))=decide (z∈U):=by
 unfold md;rw[jg,cH,cR,decide_eq_true_iff];constructor
 .rintro ⟨x,hx,h⟩;have:(aG x:oS) = .inl z:=of_decide_eq_true h;cases this;exact hx
 .exact λh=>⟨z,h,decide_eq_true rfl⟩
theorem uL{U:List Int}{f:Int->Int}{z:Int}(h:z∈U):Z.getD (md U f) (.inl z)=some (.int (f z)):=by
 unfold Z.getD md
 induction U with
 |nil=>cases h
 |cons x U ih =>
  rw[ao,cJ]
  by_cases c:x=z
  .subst c;rw[decide_eq_true rfl];rfl
  .have:¬ (aG x:oS) = .inl z:=λq=>c (aG.inj q)
   rw[decide_eq_false this];exact ih ((ag.mp h).resolve_left λq=>c q.symm)
theorem Tv{U:List Int}{f:Int->Int}{z v:Int}(h:z∈U):wK (md U f) (.inl z) (.int v)=md U λy=>if y=z then v else f y:=by
 unfold wK;rw[Pq,decide_eq_true h,pe rfl];unfold md;rw[mPq];refine mCq λy _=>?_
 show (if (aG y:oS) = .inl z then ((aG y:oS),D.int v) else (aG y,D.int (f y)))=(aG y,D.int (if y=z then v else f y))
 by_cases c:y=z
 .rw [pe (by rw[c]),pe c]
 .rw [pD λq=>c (aG.inj q),pD c]
theorem Se(U:List Int) (z:Int):wK (md U λy=>y) (.inl z) (.int z)=md (Ms.xE U z) λy=>y:=by
 unfold Ms.xE
 by_cases h:z∈U
 .rw [pe h,Tv h];refine MM λy _=>?_
  show (if y=z then z else y)=y
  split
  .rename_i c;exact c.symm
  .rfl
 .rw [pD h];unfold wK;rw[Pq,decide_eq_false h,pD (by simp)]
  unfold md;rw[mBq];rfl
def gr(r:List Int):List Int:=(r.map ab)++(r.map ab).map λz=>-z
theorem Jv(e:Int):ab e=e∨ab e = -e:=by unfold ab;split;exact .inr rfl;exact .inl rfl
theorem Bv{r:List Int}{e:Int}:e∈gr r↔e∈r∨-e∈r:=by
 unfold gr;constructor
 .intro h;rcases mAq.mp h with z|z
  .obtain ⟨x,hx,rfl⟩:=mMq.mp z;rcases Jv x with q|q <;> rw[q]
   .exact .inl hx
   .rw [bJ];exact .inr hx
  .obtain ⟨y,hy,rfl⟩:=mMq.mp z;obtain⟨x,hx,rfl⟩:=mMq.mp hy;rcases Jv x with q|q <;> rw[q]
   .rw [bJ];exact .inr hx
   .rw [bJ];exact .inl hx
 .intro h;have key:∀{x:Int},x∈r->x∈(r.map ab)++(r.map ab).map λz=>-z:=λ{x} hx=>by
   rcases Jv x with q|q
   .exact az _ (mMq.mpr ⟨x,hx,q⟩)
   .exact ar _ (mMq.mpr ⟨-x,mMq.mpr ⟨x,hx,q⟩,bJ x⟩)
  have key2:∀{x:Int},x∈r->-x∈(r.map ab)++(r.map ab).map λz=>-z:=λ{x} hx=>by
   rcases Jv x with q|q
   .exact ar _ (mMq.mpr ⟨x,mMq.mpr ⟨x,hx,q⟩,rfl⟩)
   .exact az _ (mMq.mpr ⟨x,hx,q⟩)
  rcases h with h|h
  .exact key h
  .have:=key2 h
   rwa [bJ]at this
theorem BN{r:List Int}{e:Int}(h:-e∈gr r):e∈gr r:=by
 rcases Bv.mp h with z|z
 .exact Bv.mpr (.inr z)
 .rw [bJ]at z;exact Bv.mpr (.inl z)
def Ob(M:List (List Int)) (z:Int) (a:Nat):Prop:=∃e row,M[a]?=some row/\e∈row/\ab e=z
variable {M:List (List Int)}{p:Nat}{r:List Int}
theorem xV(hm:Mp M) {a b:Nat}{s t:List Int}{e:Int}(h1:M[a]?=some s) (h2:M[b]?=some t) (h3:e∈s) (h4:e∈t):a=b:=by
 rw[←plc_eq hm.hn h1 h3,←plc_eq hm.hn h2 h4]
theorem FI{g:List Int}{k:Nat}{row:List Int}(h:M[k]?=some row):(Cw g M)[k]?=some (thn g row):=by
 unfold Cw;rw[gMq,h];rfl
theorem Np{g:List Int}{k:Nat}{row:List Int}(h:(Cw g M)[k]?=some row):∃s,M[k]?=some s/\row=thn g s:=by
 unfold Cw at h;rw[gMq]at h;obtain⟨s,hs,e⟩:=oMq.mp h;exact⟨s,hs,e.symm⟩
theorem Bm{g t:List Int}{e:Int}:e∈thn g t↔e∈t/\e∉g:=by
 unfold K41.thn;rw[aw,gQ,decide_eq_false_iff_not]
theorem Ob.two(hm:Mp M) (hr:M[p]?=some r) {z:Int}{a b:Nat}(h1:Ob M z a) (h2:Ob M z b) (ha:a≠p) (hb:b≠p):Cf (Cw (gr r) M) a b:=by
 have mp:=EB hm (g:=gr r) λe h=>BN h
 obtain⟨e,s,hs,he,q⟩:=h1;obtain⟨e',s',hs',he',q'⟩:=h2;rcases CN (q.trans q'.symm) with z|z
 .subst z;rw[xV hm hs hs' he he'];exact .base
 .have eq:e' = -e:=by lia
  subst eq;have ng:e∉gr r:=λh=>by
   rcases Bv.mp h with z|z
   .exact ha (xV hm hs hr he z)
   .exact hb (xV hm hs' hr he' z)
  have ng':-e∉gr r:=λh=>ng (BN h)
  have st:=Cf.step (rs:=Cw (gr r) M) (s:=a) .base (FI hs) (Bm.mpr ⟨he,ng⟩);have:K51.plc (Cw (gr r) M) (-e)=b:=plc_eq mp.hn (FI hs') (Bm.mpr ⟨he',ng'⟩);rw[this]at st;exact st
def Lk(M:List (List Int)) (r:List Int) (p:Nat) (z z':Int):Prop:=∃a b,a≠p/\b≠p/\Ob M z a/\Ob M z' b/\Cf (Cw (gr r) M) a b
theorem Yp(h:Mp M):K51.Mp M:=⟨h.hn,h.hl,h.hr,h.hneg⟩
structure UR (E:Int->Int->Prop) (U:List Int) (X:List (List Int)):Prop where
 so:∀x∈X,qz x=x
 ne:∀x∈X,x≠[]
 fl:X.flatten.Perm U
 eq:∀x∈X,∀z∈x,∀z'∈x,E z z'
 on:∀x∈X,∀y∈X,∀z∈x,∀z'∈y,E z z'->x=y
theorem flat_one{z:Int}:∀{X:List (List Int)},X.flatten.Nodup->∀{x y:List Int},x∈X->y∈X->z∈x->z∈y->x=y
 | [],_,_,_,h,_,_,_=>by cases h
 |w::X,h,x,y,hx,hy,zx,zy=>by
  rw[fCq]at h;obtain⟨_,h2,h3⟩:=nAq.mp h;rcases ag.mp hx with e1|hx'
  .rcases ag.mp hy with e2|hy'
   .rw [e1,e2]
   .rw [e1]at zx;exact absurd rfl (h3 z zx z (mFq.mpr ⟨y,hy',zy⟩))
  .rcases ag.mp hy with e2|hy'
   .rw [e2]at zy;exact absurd rfl (h3 z zy z (mFq.mpr ⟨x,hx',zx⟩))
   .exact flat_one h2 hx' hy' zx zy
theorem JY:∀{kvs:List (oS×List Int)},(kvs.map (·.1)).Nodup->∀{x y:oS×List Int},x∈kvs->y∈kvs->x.1=y.1->x=y
 | [],_,_,_,h,_,_=>by cases h
 |w::kvs,h,x,y,hx,hy,e=>by
  rw[ao]at h;obtain⟨h1,h2⟩:=aA.mp h;rcases ag.mp hx with e1|hx'
  .rcases ag.mp hy with e2|hy'
   .rw [e1,e2]
   .rw [e1]at e;exact absurd (mMq.mpr ⟨y,hy',e.symm⟩) h1
  .rcases ag.mp hy with e2|hy'
   .rw [e2]at e;exact absurd (mMq.mpr ⟨x,hx',e⟩) h1
   .exact JY h2 hx' hy' e
theorem NR{G H:List (List Int)}(h:AV.ow (G.map aI) = .ow (H.map aI)):G=H:=by
 have h2:=congrArg oK h;rw[tG,tG]at h2;have s:∀X:List (List Int),(X.map aI).map oK=X.map dI:=λX=>by rw[mPq];exact mCq λr _=>qO r
 rw[s,s]at h2;have h3:G.map dI=H.map dI:=D.list.inj h2;have h4:=congrArg (List.map Dj) h3;rw[mPq,mPq]at h4;have u:∀X:List (List Int),X.map (Dj∘dI)=X:=λX=>by
  conv=>rhs;rw[←eM X]
  exact mCq λr _=>wO r
 rwa [u,u]at h4
variable {M:List (List Int)}{p:Nat}{r:List Int}
theorem Au(hm:Mp M) (h0:∀e∈M.flatten,e≠0) (hr:M[p]?=some r):∃X,tI [dM M,.int (p:Int)]=some (.ow ((qY X).map aI))/\UR (λz z'=>z=z'∨Lk M r p z z') (Ms.dd (r.map ab)) X:=by
 obtain⟨L,kvs,e,gi⟩:=C7 hm hr;refine⟨_,e,?_⟩;have flp:((L.map λe=>[e])++kvs.map λx=>qz x.2).flatten.Perm (Ms.dd (r.map ab)):=by
  obtain⟨G,eG,gd⟩:=K5 hm h0 hr;have:=NR (aJ.inj (e.symm.trans eG));have fl:=gd.fl;rw[←this]at fl;refine(sW (rm _)).symm.trans ?_;refine(pK _).symm.trans ?_;rw[fl];exact pK _
 have mp:=EB hm (g:=gr r) λe h=>BN h
 have gi':Gi M (Cw (gr r) M) p r L kvs:=gi
 clear gi
 have hin:∀{e:Int},e∈r->plc M e=p:=λh=>plc_eq hm.hn hr h
 have hM:∀{e:Int},e∈r->e∈M.flatten:=λh=>mFq.mpr ⟨r,mGq hr,h⟩
 have far:∀{e:Int},e∈r->Ob M (ab e) (plc M (-e)):=λ{e} he=>by
  obtain⟨s,hs,h2⟩:=hm.at (hm.hneg e (hM he));exact⟨-e,s,hs,h2,Fd e⟩
 have only:∀{e:Int}{a:Nat},e∈r->Ob M (ab e) a->a≠p->a=plc M (-e):=λ{e a} he ⟨e',s,hs,he',q⟩ ha=>by
  rcases CN q with z|z
  .subst z;exact absurd (xV hm hs hr he' he) ha
  .subst z;exact(plc_eq hm.hn hs he').symm
 refine⟨λx hx=>?_,λx hx=>?_,?_,λx hx z hz z' hz'=>?_,λx hx y hy z hz z' hz' q=>?_⟩
 .rcases mAq.mp hx with z|z
  .obtain ⟨y,_,rfl⟩:=mMq.mp z;exact gH.mp (pK [y])
  .obtain ⟨y,hy,rfl⟩:=mMq.mp z;exact(zL (.refl _) (vG _)).symm
 .rcases mAq.mp hx with z|z
  .obtain ⟨y,_,rfl⟩:=mMq.mp z;simp
  .obtain ⟨y,hy,rfl⟩:=mMq.mp z;intro q;have:=(pK y.2).length_eq;rw[q]at this;exact gi'.ne y hy (aS.mp this.symm)
 .exact flp
 .rcases mAq.mp hx with w|w
  .obtain ⟨y,_,rfl⟩:=mMq.mp w;rw[mSq.mp hz,mSq.mp hz'];exact .inl rfl
  .obtain ⟨y,hy,rfl⟩:=mMq.mp w;obtain⟨h,_,hk⟩:=gi'.ky y hy;obtain⟨e1,r1,rfl,p1,d1⟩:=hk z ((pK y.2).mem_iff.mp hz);obtain⟨e2,r2,rfl,p2,d2⟩:=hk z' ((pK y.2).mem_iff.mp hz');exact .inr ⟨_,_,p1,p2,far r1,far r2,d1.rc.trans (d2.rc.symm (Yp mp))⟩
 .-- one key
  have place:∀{x:List Int}{z:Int}{a:Nat},x∈(L.map λe=>[e])++kvs.map (λx=>qz x.2)->z∈x->Ob M z a->a≠p->∃y∈kvs,x=qz y.2/\∃h:Nat,y.1 = .inl (h:Int)/\Hd (Cw (gr r) M) a h:=λ{x z a} hx hz ta ha=>by
   rcases mAq.mp hx with w|w
   .obtain ⟨y,hy,rfl⟩:=mMq.mp w;obtain⟨l1,l2,l3⟩:=gi'.lo y hy;rw[mSq.mp hz,←show ab y=y from pD (by lia)]at ta
    rw[only l1 ta ha]at ha;exact absurd l3 ha
   .obtain ⟨y,hy,rfl⟩:=mMq.mp w;obtain⟨h,hk1,hk⟩:=gi'.ky y hy;obtain⟨e1,r1,rfl,p1,d1⟩:=hk z ((pK y.2).mem_iff.mp hz);refine⟨y,hy,rfl,h,hk1,?_⟩;rw[only r1 ta ha];exact d1
  rcases q with q|⟨a,b,ha,hb,ta,tb,rc⟩
  .subst q;exact flat_one (flp.nodup_iff.mpr (Ms.Hr _)) hx hy hz hz'
  .obtain ⟨y1,i1,rfl,h1,k1,d1⟩:=place hx hz ta ha;obtain⟨y2,i2,rfl,h2,k2,d2⟩:=place hy hz' tb hb;have hh:h1=h2:=Nat.le_antisymm (d1.le _ (rc.trans d2.rc)) (d2.le _ ((rc.symm (Yp mp)).trans d1.rc));rw[JY gi'.nk i1 i2 (by rw[k1,k2,hh])]
end K45
namespace K48
open PySem L2 Mr Z Zl
open K41 (ab CN Fd Cw)
open K45 (Lk Ob gr Bv BN FI Np Bm xV UR)
open K51 (Cf)
section
variable {M:List (List Int)}{p:Nat}{r:List Int}
theorem Sn(hr:M[p]?=some r) {t:List Int}:t∈M.eraseIdx p↔∃k,k≠p/\M[k]?=some t:=by
 rw[bS]
theorem U8(hm:Mp M) (hr:M[p]?=some r) {e f:Int}(he:e∈r) (hf:f∈r):(ab e=ab f∨Lk M r p (ab e) (ab f))↔Gp (M.eraseIdx p) e f:=by
 refine⟨λh S c s=>?_,λg=>?_⟩
 .have like:∀{a b:Int},ab a=ab b->S a->S b:=λ{a b} q sa=>by
   rcases CN q with z|z
   .rw [←z];exact sa
   .have:b = -a:=by lia
    rw[this];exact c.neg a sa
  rcases h with h|⟨a,b,ha,hb,⟨e1,s1,m1,n1,q1⟩,⟨f1,s2,m2,n2,q2⟩,rc⟩
  .exact like h s
  .have row:∀{k:Nat}{t:List Int},k≠p->M[k]?=some t->∀x∈t,S x->∀y∈t,S y:=λ{k t} hk ht x hx sx y hy=>c.row t ((Sn hr).mpr ⟨k,hk,ht⟩) x hx y hy sx
   have all:∀k,Cf (Cw (gr r) M) a k->k≠p/\∀t,M[k]?=some t->∀y∈t,S y:=λk hk=>by
    induction hk with
    |base =>
     refine⟨ha,λt ht y hy=>?_⟩
     rw[m1]at ht;cases ht;exact row ha m1 e1 n1 (like q1.symm s) y hy
    | @step k t x _ h1 h2 ih =>
     obtain⟨s',hs',rfl⟩:=Np h1;obtain⟨x1,x2⟩:=Bm.mp h2;have sx:=ih.2 s' hs' x x1;have mp:=K41.EB hm (g:=gr r) λe h=>BN h
     have hx':x∈M.flatten:=mFq.mpr ⟨s',mGq hs',x1⟩;obtain⟨t',ht',hxt⟩:=hm.at (hm.hneg x hx');have ng:-x∉gr r:=λh=>x2 (BN h)
     have pl:K51.plc (Cw (gr r) M) (-x)=plc M (-x):=plc_eq mp.hn (FI ht') (Bm.mpr ⟨hxt,ng⟩);rw[pl];have np:plc M (-x)≠p:=λq=>by
      rw[q,hr]at ht';cases ht';exact ng (Bv.mpr (.inl hxt))
     refine⟨np,λt ht y hy=>?_⟩
     rw[ht']at ht;cases ht;exact row np ht' (-x) hxt (c.neg x sx) y hy
   exact like q2 ((all b rc).2 s2 m2 f1 n2)
 .refine g (λy=>ab e=ab y∨Lk M r p (ab e) (ab y)) ⟨λt ht a ha b hb q=>?_,λa q=>by rw[Fd];exact q⟩ (.inl rfl)
  obtain⟨k,hk,hkt⟩:=(Sn hr).mp ht;have tb:Ob M (ab b) k:=⟨b,t,hkt,hb,rfl⟩;have ta:Ob M (ab a) k:=⟨a,t,hkt,ha,rfl⟩;rcases q with q|⟨a0,b0,h1,h2,h3,h4,h5⟩
  .exact .inr ⟨k,k,hk,hk,by rw[q];exact ta,tb,.base⟩
  .exact .inr ⟨a0,k,h1,hk,h3,tb,h5.trans (h4.two hm hr ta h2 hk)⟩
def Dw(r y:List Int):List Int:=r.filter λe=>decide (ab e∈y)
theorem IR(hm:Mp M) (hr:M[p]?=some r) (ne:r≠[]) {X:List (List Int)}(fam:UR (λz z'=>z=z'∨Lk M r p z z') (Ms.dd (r.map ab)) X):Fu (M.eraseIdx p) r (X.map (Dw r)):=by
 have mU:∀z,z∈Ms.dd (r.map ab)↔z∈r.map ab:=λz=>Ms.Br
 have at1:∀e∈r,∃y∈X,ab e∈y:=λe he=>mFq.mp (fam.fl.mem_iff.mpr ((mU _).mpr (mMq.mpr ⟨e,he,rfl⟩)))
 have mp:∀{y:List Int}{e:Int},e∈Dw r y↔e∈r/\ab e∈y:=λ{y e}=>by
  unfold Dw;rw[aw,decide_eq_true_iff]
 have xn:X.flatten.Nodup:=fam.fl.nodup_iff.mpr (Ms.Hr _);have rn:r.Nodup:=hm.hn.sublist (aD (mGq hr));refine⟨λz hz=>?_,?_,λ_ z hz=>?_,λq=>absurd q ne,λz hz x hx w hw=>?_⟩
 .obtain ⟨y,hy,rfl⟩:=mMq.mp hz;exact⟨_,rfl⟩
 .have fn:(X.map (Dw r)).flatten.Nodup:=by
   rw[aT,gk];refine⟨λz hz=>?_,?_⟩
   .obtain ⟨y,hy,rfl⟩:=mMq.mp hz;exact aT.mp (rn.sublist ef)
   .rw [bz];rw[aT,gk]at xn;exact xn.2.imp λh a ha b hb e=>h _ (mp.mp ha).2 _ (mp.mp hb).2 (by rw[e])
  refine(cP fn rn).mpr λe=>⟨λm=>?_,λm=>?_⟩
  .obtain ⟨z,hz,hx⟩:=mFq.mp m;obtain⟨y,hy,rfl⟩:=mMq.mp hz;exact(mp.mp hx).1
  .obtain ⟨y,hy,q⟩:=at1 e m;exact mFq.mpr ⟨Dw r y,mMq.mpr ⟨y,hy,rfl⟩,mp.mpr ⟨m,q⟩⟩
 .obtain ⟨y,hy,rfl⟩:=mMq.mp hz;obtain⟨z0,h0⟩:=bC _ (fam.ne y hy);obtain⟨e,he,q⟩:=mMq.mp ((mU z0).mp (fam.fl.mem_iff.mp (mFq.mpr ⟨y,hy,h0⟩)));exact bU (mp.mpr ⟨he,by rw[q];exact h0⟩)
 .obtain ⟨y,hy,rfl⟩:=mMq.mp hz;obtain⟨xr,xy⟩:=mp.mp hx;rw[←U8 hm hr xr hw];refine⟨λm=>fam.eq y hy _ xy _ (mp.mp m).2,λq=>?_⟩
  obtain⟨y',hy',wy⟩:=at1 w hw;have:=fam.on y hy y' hy' _ xy _ wy q;exact mp.mpr ⟨hw,by rw[this];exact wy⟩
end
end K48
namespace K48
open PySem L2 Mr
def Dr(M:List (List Int)) (r:List Int):Prop:=¬ ∀x∈r,∀y∈r,Gp (M.erase r) x y
def R9(M:List (List Int)) (r:List Int):Bool:=@decide (Dr M r) (eh _)
def dn(M:List (List Int)):Nat:=M.countP (R9 M)
theorem uV{M:List (List Int)}{r:List Int}:R9 M r=true↔Dr M r:=by
 unfold R9;exact @decide_eq_true_iff _ (eh _)
section
variable {M N R Z:List (List Int)}{r t:List Int}
theorem ET(p:M.Perm N):dn M=dn N:=by
 unfold dn;rw[p.countP_eq];refine gX λr hr=>?_
 rw[uV,uV];have:∀x y,Gp (M.erase r) x y↔Gp (N.erase r) x y:=λx y=>qQ (p.erase r)
 unfold Dr;simp only[this]
theorem Q6(hn:M.flatten.Nodup):dn (M.map Mr.good)=dn M:=by
 unfold dn;rw[List.countP_map];refine gX λr hr=>?_
 show R9 (M.map Mr.good) (Mr.good r)=true↔_;rw[uV,uV];unfold Dr;refine not_congr ⟨λh x hx y hy=>?_,λh x hx y hy=>?_⟩
 .have:=h x ((pE r).mem_iff.mpr hx) y ((pE r).mem_iff.mpr hy)
  rwa [qQ (erase_map hn hr (bU hx)),ID pE]at this
 .have xr:=(pE r).mem_iff.mp hx;rw[qQ (erase_map hn hr (bU xr)),ID pE];exact h x xr y ((pE r).mem_iff.mp hy)
theorem Da(hn:(r::R).flatten.Nodup) (hr:r≠[]) (c:Fu R r Z) (q:t∈R) {x y:Int}(hx:x∈t) (hy:y∈t):Gp ((r::R).erase t) x y↔Gp ((Z++R).erase t) x y:=by
 have hn':=hn;rw[fCq,nAq]at hn';have tr:t≠r:=λe=>by
  rw[e]at hx;exact hn'.2.2 x hx x (mFq.mpr ⟨t,q,e ▸ hx⟩) rfl
 have tz:t∉Z:=λm=>hn'.2.2 x (c.sub m x hx) x (mFq.mpr ⟨t,q,hx⟩) rfl
 have c':Fu (t::R.erase t) r Z:=c.congr λa _ b _=>qQ (dP q)
 rw[dQ (by simpa using λe:r=t=>tr e.symm),fG _ tz]
 exact Am hn'.1 hr c' x hx y hy
theorem Rk(c:Fu R r Z) {z:List Int}(hz:z∈Z):∀x∈z,∀y∈z,Gp ((Z++R).erase z) x y:=λx hx y hy=>by
 refine Gp.of_sub (λS k=>⟨λu hu=>k.row u ?_,k.neg⟩) ((c.iff z hz x hx y (c.sub hz y hy)).mp hy)
 rw[fV _ hz];exact ar _ hu
theorem RG(hn:(r::R).flatten.Nodup) (hr:r≠[]) (c:Fu R r Z) (hd:Dr (r::R) r):dn (Z++R)+1=dn (r::R):=by
 unfold dn;rw[List.countP_append,ju];have z0:Z.countP (R9 (Z++R))=0:=gI.mpr λz hz=>by
  rw[uV];exact λn=>n (Rk c hz)
 have r1:R9 (r::R) r=true:=uV.mpr hd;have rr:R.countP (R9 (Z++R))=R.countP (R9 (r::R)):=gX λt ht=>by
  rw[uV,uV];unfold Dr;exact not_congr ⟨λh x hx y hy=>(Da hn hr c ht hx hy).mpr (h x hx y hy),λh x hx y hy=>(Da hn hr c ht hx hy).mp (h x hx y hy)⟩
 rw[z0,rr,r1];simp
theorem VW:2*dn M<=M.flatten.length:=by
 have key:∀(L:List (List Int)) (p:List Int->Bool),(∀r∈L,p r=true->2<=r.length)->2*L.countP p<=L.flatten.length:=λL p=>by
  induction L with
  |nil=>intro _;exact ai _
  |cons r L ih =>
   intro h;have i:=ih λt ht=>h t (mCo _ ht)
   rw[ju,fCq,lAq];split
   .have:=h r (aj ..) (by assumption)
    lia
   .lia
 refine key M _ λr hr q=>?_
 have d:=uV.mp q
 match r,d with
 | [],d=>exact absurd (λx hx=>by cases hx) d
 | [a],d=>exact absurd (λx hx y hy=>by rw[mSq.mp hx,mSq.mp hy];exact Gp.refl _ _) d
 |a::b::l,_=>simp
theorem Rm(h:dn M=0):∀r∈M,∀x∈r,∀y∈r,Gp (M.erase r) x y:=λr hr=>cB λn=>(gI.mp h r hr) (uV.mpr n)
theorem last{G:List (List Int)}(hn:M.flatten.Nodup) (h:rB M G) (d:dn M=0):qY (M.map Mr.good)=qY G:=by
 have:=(rB.end hn (Rm d)).uniq hn h;exact FN ((rm _).trans this) (yB _)
end
end K48
namespace K48
open PySem L2 Mr Z Zl
open K41 (ab Ey IZ)
open K45 (Lk UR Au)
theorem NY(t y:List Int):qL (vT (pW (Lr false) (xv zU (oI (oz 0) pA)) (oz 1))) (pG 0) [some (.sh (.list (y.map D.int)))] (t.map D.int)=some ((Dw t y).map λn=>.sh (.int n)):=by
 rw[Z.vJ (λd=>match d with|.int e=>decide (ab e∈y)|_=>false) (λd=>.sh d)]
 .rw [gu,mPq];rfl
 .intro d hd;obtain⟨e,he,rfl⟩:=mMq.mp hd;have hin:=Pb false (ab e) y;rw[pD (by simp)]at hin
  refine⟨[some (.sh (.int e)),some (.sh (.list (y.map D.int)))],?_,λ_=>⟨_,rfl⟩⟩
  simp_arith [Ey,hin]
theorem QK{t y:List Int}(hl:t.length<=1000):vh [dI t,dI y]=some (aI (Dw t y)):=by
 have cf:=NY t y;have l1:t.length<=rG:=rO (by lia)
 simp_arith [vh,zX,dI,cf,l1]
theorem GS:∀{X:List (List Int)},(∀x∈X,x≠[])->X.length<=X.flatten.length
 | [],_=>ai _
 |x::X,h=>by
  have i:=GS λy hy=>h y (mCo _ hy)
  have:=cz.mpr (h x (aj ..));rw[fCq,lAq,lCq];lia
theorem E4:∀M:List (List Int),M.length<=M.count []+M.flatten.length
 | []=>ai _
 | []::M=>by
  have:=E4 M;rw[bT,lCq,fCq,eF];lia
 | (a::r)::M=>by
  have:=E4 M;rw[bc (by simp),lCq,fCq,lAq,lCq]
  lia
structure Ok (M:List (List Int)):Prop where
 mp:Mp M
 nz:∀e∈M.flatten,e≠0
 lf:M.flatten.length<=60
 lm:M.count []<=10
section
variable {M G:List (List Int)}{p:Nat}{r:List Int}
theorem Ok.len(h:Ok M):M.length<=70:=by
 have:=E4 M;have:=h.lf;have:=h.lm;lia
theorem uP:∀{M:List (List Int)}{p:Nat},M[p]?=some r->M.Perm (r::M.eraseIdx p)
 | [],p,h=>by cases h
 |m::M,0,h=>by cases h;exact .refl _
 |m::M,p+1,h=>((uP (M:=M) (p:=p) (by simpa using h)).cons m).trans (.swap ..)
theorem Fm(hr:M[p]?=some r):(M.eraseIdx p).Perm (M.erase r):=by
 have:=(uP hr).erase r;rw[cG]at this;exact this.symm
structure Gs (M:List (List Int)) (g:Nat->List (List Int)):Prop where
 run:∀(k:Nat) (r:List Int),M[k]?=some r->K41.tI [dM M,.int (k:Int)]=some (.ow ((qY (g k)).map aI))
 fam:∀(k:Nat) (r:List Int),M[k]?=some r->UR (λz z'=>z=z'∨Lk M r k z z') (Ms.dd (r.map ab)) (g k)
theorem Vy(h:Ok M):∃g,Gs M g:=by
 have key:∀k:Nat,∃X:List (List Int),∀r:List Int,M[k]?=some r->K41.tI [dM M,.int (k:Int)]=some (.ow ((qY X).map aI))/\UR (λz z'=>z=z'∨Lk M r k z z') (Ms.dd (r.map ab)) X:=λk=>by
  cases hk:M[k]? with
  |none=>exact⟨[],λr hr=>by cases hr⟩
  |some r =>
   obtain⟨X,e,f⟩:=Au h.mp h.nz hk;exact⟨X,λr' hr'=>by cases hr';exact⟨e,f⟩⟩
 obtain⟨g,hg⟩:=Classical.skolem.mp key;exact⟨g,λk r hr=>(hg k r hr).1,λk r hr=>(hg k r hr).2⟩
theorem Gs.cls{g:Nat->List (List Int)}(h:Ok M) (k:Gs M g) (hr:M[p]?=some r) (ne:r≠[]):Fu (M.eraseIdx p) r ((g p).map (Dw r)):=IR h.mp hr ne (k.fam p r hr)
theorem Gs.len{g:Nat->List (List Int)}(k:Gs M g) (hr:M[p]?=some r):(g p).length<=r.length:=by
 have a1:=GS (k.fam p r hr).ne;have a2:=(k.fam p r hr).fl.length_eq;have a3:=Ms.Ai (r.map ab);rw[lMq]at a3;lia
theorem Gs.door{g:Nat->List (List Int)}(h:Ok M) (k:Gs M g) (hr:M[p]?=some r):2<=(g p).length↔Dr M r:=by
 by_cases ne:r=[]
 .have l0:=k.len hr;rw[ne]at l0;refine⟨λq=>?_,λd=>absurd (λx hx=>by rw[ne]at hx;cases hx) d⟩
  rw[dh]at l0;lia
 .have c:=k.cls h hr ne;have c':Fu (M.erase r) r ((g p).map (Dw r)):=c.congr λa _ b _=>qQ (Fm hr)
  have rn:r.Nodup:=h.mp.hn.sublist (aD (mGq hr));have ln:((g p).map (Dw r)).length=(g p).length:=lMq ..;rw[←ln];generalize (g p).map (Dw r)=Zs at c';have nd:=c'.pm.nodup_iff.mpr rn;refine⟨λq d=>?_,λd=>cB λq=>d λx hx y hy=>?_⟩
  .obtain ⟨z1,z2,Z2,rfl⟩:∃z1 z2 Z2,Zs=z1::z2::Z2:=by
    match Zs,q with
    |a::b::l,_=>exact⟨a,b,l,rfl⟩
   obtain⟨x,hx⟩:=bC _ (c'.ne ne z1 (by simp))
   obtain⟨y,hy⟩:=bC _ (c'.ne ne z2 (by simp))
   have yr:=c'.sub (z:=z2) (by simp) y hy
   have:=(c'.iff z1 (by simp) x hx y yr).mpr (d x (c'.sub (z:=z1) (by simp) x hx) y yr)
   rw[fCq,nAq]at nd;exact nd.2.2 y this y (mFq.mpr ⟨z2,by simp,hy⟩) rfl
  .obtain ⟨z,hz,xz⟩:=mFq.mp (c'.pm.mem_iff.mpr hx);obtain⟨z',hz',yz⟩:=mFq.mp (c'.pm.mem_iff.mpr hy);have:z=z':=by
    match Zs,q,hz,hz' with
    | [a],_,h1,h2=>rw[mSq.mp h1,mSq.mp h2]
    |a::b::l,q,_,_=>exact absurd (by simp) q
   subst this;exact(c'.iff z hz x xz y hy).mp yz
theorem doors_ok{g:Nat->List (List Int)}(h:Ok M) (k:Gs M g):K41.Bk [dM M]=some (aI (IZ M.length λi=>qY (g i))):=by
 have:=h.len;exact K41.doors_ok (by lia) λi hi=>k.run i _ (gEg hi)
end
end K48
namespace K48
open PySem L2 Mr
section
variable {M N R M0 G G':List (List Int)}{x y:Int}{S0:Int->Prop}
theorem Ux(h:∀t∈R,t∈M) (g:Gp R x y):Gp M x y:=Gp.of_sub (λS c=>⟨λt ht=>c.row t (h t ht),c.neg⟩) g
theorem OS(c0:Cl M0 S0) (hN:∀t∈N,∀a∈t,¬ S0 a) (hx:S0 x):Gp (M0++N) x y↔Gp M0 x y:=by
 refine⟨λg S c s=>(g (λa=>S0 a/\S a) ⟨λt ht a ha b hb q=>?_,λa q=>⟨c0.neg a q.1,c.neg a q.2⟩⟩ ⟨hx,s⟩).2,Ux λt ht=>az _ ht⟩
 rcases mAq.mp ht with e|e
 .exact ⟨c0.row t e a ha b hb q.1,c.row t e a ha b hb q.2⟩
 .exact absurd q.1 (hN t e a ha)
theorem JJ(h:∀t∈M0,t∈M) (ng:∀x∈M.flatten, -x∈M.flatten):Cl M0 λx=>x∈M.flatten:=⟨λt ht a ha b hb _=>mFq.mpr ⟨t,h t ht,hb⟩,ng⟩
theorem rB.app(hn:(M++N).flatten.Nodup) (nM:∀x∈M.flatten, -x∈M.flatten) (nN:∀x∈N.flatten, -x∈N.flatten) (h:rB M G) (k:rB N G'):rB (M++N) (G++G'):=by
 rw[fAq,nAq]at hn;have dj:∀x∈M.flatten,x∉N.flatten:=λx hx hy=>hn.2.2 x hx x hy rfl
 refine⟨by rw[fAq,fAq];exact h.pm.append k.pm,by rw[cAq,cAq,h.bare,k.bare],λz hz ne=>?_,λr hr x hx y hy=>?_⟩
 .rcases mAq.mp hz with e|e
  .obtain ⟨r,hr,q⟩:=h.fil z e ne;exact⟨r,az _ hr,q⟩
  .obtain ⟨r,hr,q⟩:=k.fil z e ne;exact⟨r,ar _ hr,q⟩
 .rcases mAq.mp hr with e|e
  .have xM:x∈M.flatten:=mFq.mpr ⟨r,e,hx⟩;rw[fV _ e,OS (JJ (M:=M) (λt ht=>iL ht) nM) (λt ht a ha q=>dj a q (mFq.mpr ⟨t,ht,ha⟩)) xM,←h.iff r e x hx y hy]
   exact⟨λ⟨z,hz,a,b⟩=>⟨z,(mAq.mp hz).elim id λq=>absurd (k.pm.mem_iff.mp (mFq.mpr ⟨z,q,a⟩)) (dj x xM),a,b⟩,λ⟨z,hz,a,b⟩=>⟨z,az _ hz,a,b⟩⟩
  .have xN:x∈N.flatten:=mFq.mpr ⟨r,e,hx⟩;have rM:r∉M:=λq=>dj x (mFq.mpr ⟨r,q,hx⟩) xN
   rw[fG _ rM,qQ bb,OS (JJ (M:=N) (λt ht=>iL ht) nN) (λt ht a ha q=>dj a (mFq.mpr ⟨t,ht,ha⟩) q) xN,←k.iff r e x hx y hy]
   exact⟨λ⟨z,hz,a,b⟩=>⟨z,(mAq.mp hz).elim (λq=>absurd xN (dj x (h.pm.mem_iff.mp (mFq.mpr ⟨z,q,a⟩)))) id,a,b⟩,λ⟨z,hz,a,b⟩=>⟨z,ar _ hz,a,b⟩⟩
theorem rB.rise{r A B:List Int}(hn:(r::R).flatten.Nodup) (pm:(A++B).Perm r) (tw:PM r A B R S0) (fA:∃p:Int->Bool,A=r.filter p) (fB:∃p:Int->Bool,B=r.filter p) (nA:A≠[]) (nB:B≠[]) (h:rB (A::B::R) G):rB (r::R) G:=by
 have pf:(A::B::R).flatten.Perm (r::R).flatten:=by
  rw[fCq,fCq,fCq,←aq];exact pm.append_right _
 have n2:=pf.nodup_iff.mpr hn;have rne:r≠[]:=λe=>nA (by rw[e]at pm;exact(iz.mp pm.eq_nil).1)
 rw[fCq,nAq]at hn;have one:∀z∈G,∀x∈z,∀y∈z,∃u∈A::B::R,x∈u/\y∈u:=λz hz x hx y hy=>by
  obtain⟨u,hu,p,e⟩:=h.fil z hz (bU hx);rw[e]at hx hy;exact⟨u,hu,(aw.mp ((pE _).mem_iff.mp hx)).1,(aw.mp ((pE _).mem_iff.mp hy)).1⟩
 have mA:A∈A::B::R:=aj;have mB:B∈A::B::R:=mCo _ aj;have xx:∀z∈A,z∉B:=λz a b=>(tw.b z b).2 (tw.a z a).2
 have mix:∀x∈A,∀y∈B,¬ ∃z∈G,x∈z/\y∈z:=λx hx y hy ⟨z,hz,a,b⟩=>by
  obtain⟨u,hu,a,b⟩:=one z hz x a y b;have e:=Cm n2 mA hu hx a;exact xx y (e ▸ b) hy
 refine⟨h.pm.trans pf,?_,λz hz ne=>?_,λt ht x hx y hy=>?_⟩
 .rw [h.bare,bc nA,bc nB,bc rne]
 .obtain ⟨u,hu,p,e⟩:=h.fil z hz ne;rcases ag.mp hu with q|q
  .obtain ⟨p',e'⟩:=fA;exact⟨r,aj,λa=>p a && p' a,by rw[e,q,e',fw]⟩
  .rcases ag.mp q with q|q
   .obtain ⟨p',e'⟩:=fB;exact⟨r,aj,λa=>p a && p' a,by rw[e,q,e',fw]⟩
   .exact ⟨u,mCo _ q,p,e⟩
 .rcases ag.mp ht with q|q
  .subst q;rw[cG];rcases tw.all x hx with a|a <;> rcases tw.all y hy with b|b
   .rw [h.iff A mA x a y b,cG];exact(tw.at (tw.a x a).2 (tw.a y b).2).symm
   .exact ⟨λq=>absurd q (mix x a y b),λg=>absurd (g _ tw.cl (tw.a x a).2) (tw.b y b).2⟩
   .exact ⟨λ⟨z,hz,c,d⟩=>absurd ⟨z,hz,d,c⟩ (mix y b x a),λg=>absurd (g.symm _ tw.cl (tw.a y b).2) (tw.b x a).2⟩
   .rw [h.iff B mB x a y b,qQ ((aW.swap B A R).erase B),cG];exact(tw.swap.at (tw.b x a).2 (tw.b y b).2).symm
  .have xR:x∈R.flatten:=mFq.mpr ⟨t,q,hx⟩;have xr:x∉r:=λe=>hn.2.2 x e x xR rfl
   have t1:r≠t:=λe=>xr (e ▸ hx)
   have t2:A≠t:=λe=>xr (tw.a x (e ▸ hx)).1
   have t3:B≠t:=λe=>xr (tw.b x (e ▸ hx)).1
   have pR:=dP q;have tw':PM r A B (t::R.erase t) S0:=⟨Fc pR tw.cl,tw.a,tw.b,tw.all⟩;rw[h.iff t (mCo _ (mCo _ q)) x hx y hy,dQ (by simpa using t2),dQ (by simpa using t3),dQ (by simpa using t1)]
   by_cases s:S0 x
   .exact (tw'.other hx hy s).symm
   .rw [tw'.swap.other hx hy s];exact qQ (aW.swap ..)
theorem W4{T A1:List (List Int)}{p:Nat}{h a0:List Int}(g:Nat) (hp:T[p]?=some h) (hne:h≠[]) (ane:a0≠[]) (hn:(T++a0::A1).flatten.Nodup) (nT:∀x∈T.flatten, -x∈T.flatten) (nA:∀x∈(a0::A1).flatten, -x∈(a0::A1).flatten) (fT:rB T G) (fA:rB (a0::A1) G'):rB (T.set p (h.take g++a0++h.drop g)++A1) (G++G'):=by
 have pT:T.Perm (h::T.eraseIdx p):=uP hp;have p1:(T++a0::A1).Perm (h::a0::(T.eraseIdx p++A1)):=(pT.append_right _).trans (cS.cons h);have f1:=(rB.app hn nT nA fT fA).perm p1;have pr:(h++a0).Perm (h.take g++a0++h.drop g):=by
  conv=>lhs;rw[←aM g h]
  rw[aq,aq];exact aW.append_left _ bb
 have p2:(T.set p (h.take g++a0++h.drop g)++A1).Perm ((h.take g++a0++h.drop g)::(T.eraseIdx p++A1)):=by
  have hl:=(gSq.mp hp).1;have e:(T.set p (h.take g++a0++h.drop g))[p]?=some (h.take g++a0++h.drop g):=aZ hl;have:=uP e;rw[iR]at this;exact this.append_right _
 have n1:=p1.flatten.nodup_iff.mp hn;have hT:∀x∈h,x∈T.flatten:=λx hx=>mFq.mpr ⟨h,mGq hp,hx⟩
 rw[fAq,nAq]at hn;have dj:∀x∈T.flatten,x∉(a0::A1).flatten:=λx hx hy=>hn.2.2 x hx x hy rfl
 have da:∀x∈a0,x∉T.flatten:=λx hx e=>dj x e (mFq.mpr ⟨a0,aj,hx⟩)
 have s1:∀x∈h.take g,x∈h:=λx hx=>bG hx
 have s2:∀x∈h.drop g,x∈h:=λx hx=>bx hx
 generalize hr:h.take g++a0++h.drop g=r at pr p2;refine(rB.rise (r:=r) (A:=h) (B:=a0) (S0:=λx=>x∈T.flatten) ?_ pr ⟨⟨λt ht a ha b hb q=>?_,nT⟩,λx hx=>⟨pr.mem_iff.mp (az _ hx),hT x hx⟩,λx hx=>⟨pr.mem_iff.mp (ar _ hx),da x hx⟩,λx hx=>mAq.mp (pr.mem_iff.mpr hx)⟩ ⟨λa=>decide (a∈h),?_⟩ ⟨λa=>decide (a∈a0),?_⟩ hne ane f1).perm p2.symm
 .rw [fCq,fCq,←aq]at n1;rw[fCq];exact(pr.append_right _).nodup_iff.mp n1
 .rcases mAq.mp ht with e|e
  .exact mFq.mpr ⟨t,List.mem_of_mem_eraseIdx e,hb⟩
  .exact absurd (mFq.mpr ⟨t,mCo _ e,ha⟩) (dj a q)
 .rw [←hr,bV,bV,fe.mpr λx hx=>decide_eq_true (s1 x hx),fW.mpr λx hx=>by simpa using λe=>da x hx (hT x e),fe.mpr λx hx=>decide_eq_true (s2 x hx),aNq,aM]
 .have nn:∀x∈h,¬ x∈a0:=λx hx e=>da x e (hT x hx)
  rw[←hr,bV,bV,fW.mpr λx hx=>by simpa using nn x (s1 x hx),fe.mpr λx hx=>decide_eq_true hx,fW.mpr λx hx=>by simpa using nn x (s2 x hx),aNq,eF]
theorem MZ{A:List (List Int)}{n:Nat->Int}(h1:∀k r,A[k]?=some r->n k∈r) (h2:∀k r,k<A.length->A[(k+1) % A.length]?=some r->-(n k)∈r) (h3:∀(p:Nat) r,A[p]?=some r->∀x∈r,∃j r',j≠p/\A[j]?=some r'/\-x∈r') {p:Nat}{r:List Int}(hp:A[p]?=some r):∀x∈r,∀y∈r,Gp (A.eraseIdx p) x y:=by
 have hl:=(gSq.mp hp).1;have rowE:∀j r',j≠p->A[j]?=some r'->r'∈A.eraseIdx p:=λj r' hj h=>bS.mpr ⟨j,hj,h⟩
 have off:∀i,i+1<A.length->(p+1+i) % A.length≠p:=λi hi=>by
  by_cases c:p+1+i<A.length
  .rw [eV c];lia
  .rw [Nat.mod_eq_sub_mod (by lia),eV (by lia)];lia
 have RC:∀i,i+1<A.length->∀S,Cl (A.eraseIdx p) S->S (n ((p+1) % A.length))->∀r',A[(p+1+i) % A.length]?=some r'->∀z∈r',S z:=by
  intro i
  induction i with
  |zero =>
   intro hi S c s r' hr' z hz;rw[gA]at hr';exact c.row r' (rowE _ _ (by have:=off 0 hi;rwa [gA]at this) hr') _ (h1 _ _ hr') z hz s
  |succ i ih =>
   intro hi S c s r' hr' z hz;have ql:(p+1+i) % A.length<A.length:=jA _ (by lia)
   have hq:=gEg ql;have sn:=ih (by lia) S c s _ hq _ (h1 _ _ hq)
   have e:((p+1+i) % A.length+1) % A.length=(p+1+(i+1)) % A.length:=by rw[Nat.mod_add_mod];rfl
   exact c.row r' (rowE _ _ (off (i+1) hi) hr') _ (h2 _ r' ql (by rw[e];exact hr')) z hz (c.neg _ sn)
 have all:∀j r',j≠p->A[j]?=some r'->∀S,Cl (A.eraseIdx p) S->S (n ((p+1) % A.length))->∀z∈r',S z:=λj r' hj hr' S c s=>by
  have jl:=(gSq.mp hr').1
  by_cases q:p<j
  .refine RC (j-p-1) (by lia) S c s r' ?_
   rw[show p+1+(j-p-1)=j by lia,eV jl]
   exact hr'
  .refine RC (A.length-p-1+j) (by lia) S c s r' ?_
   rw[show p+1+(A.length-p-1+j)=j+A.length by lia,Nat.add_mod_right,eV jl]
   exact hr'
 intro x hx y hy S c s;obtain⟨j,r',hj,hr',hx'⟩:=h3 p r hp x hx;obtain⟨j2,r2,hj2,hr2,hy'⟩:=h3 p r hp y hy;have s1:S (n ((p+1) % A.length)):=cB λns=>all j r' hj hr' _ c.not ns _ hx' (c.neg _ s)
 have:=c.neg _ (all j2 r2 hj2 hr2 S c s1 _ hy')
 rwa [bJ]at this
theorem Os{A:List (List Int)}{p:Nat}{r:List Int}(hp:A[p]?=some r):(A.erase r).Perm (A.eraseIdx p):=aW.cons_inv ((dP (mGq hp)).symm.trans (uP hp))
structure Pt (A:List (List Int)) (N:List Int):Prop where
 fl:A.flatten.Perm (N.flatMap λx=>[x, -x])
 ne:∀r∈A,r≠[]
 nn:A≠[]
 one:∀p r,A[p]?=some r->∀x∈r,∀y∈r,Gp (A.eraseIdx p) x y
theorem Pt.fine{A:List (List Int)}{N:List Int}(h:Pt A N) (hn:A.flatten.Nodup):rB A (A.map good):=rB.end hn λr hr x hx y hy=>by
 obtain⟨p,hp⟩:=aH.mp hr;exact(qQ (Os hp)).mpr (h.one p r hp x hx y hy)
end
end K48
namespace K48
open PySem L2 Mr Z Zl
open K31 (NN T7)
open K45 (zS Be HJ)
def Kc(m k:Nat):Nat:=if k=0 then m-1 else k-1
def Lx(N:List Int) (m k:Nat):List Int:=[N.getD k 0, -(N.getD (Kc m k) 0)]
theorem Xr{N:List Int}{k:Nat}(h:k<N.length):atI (N.map D.int) (k:Int)=some (.int (N.getD k 0)):=tO (by rw[gMq,gEg h,gDq,gEg h];rfl)
theorem V3{c:Int}{N:List Int}{m:Nat}(hm:0<m) (h4:m<=4) (hN:m<=N.length):∃v,su 4 vE (pZ 0 m) [some (.sh (.int c)),some (.sh (dI N)),some (.sh (.int (m:Int))),some (.ow []),none,none,none,none]=some (.nx [some (.sh (.int c)),some (.sh (dI N)),some (.sh (.int (m:Int))),some (.ow (((bq m).map (Lx N m)).map aI)),v,none,none,none]):=by
 have key:=vF (x:=4) (body:=vE) (λi S=>∃v,S=[some (.sh (.int c)),some (.sh (dI N)),some (.sh (.int (m:Int))),some (.ow (((bq i).map (Lx N m)).map aI)),v,none,none,none]) (ds:=pZ 0 m) (S:=[some (.sh (.int c)),some (.sh (dI N)),some (.sh (.int (m:Int))),some (.ow []),none,none,none,none]) ⟨none,rfl⟩ (by
  rintro i d S hd ⟨v,rfl⟩;have hi:=(gSq.mp hd).1;rw[qd]at hi;rw[Z.Ap hi,aJ.injEq]at hd;subst hd;rw[gB];have a1:=Xr (N:=N) (k:=i) (by lia)
  have l1:(i<rG)=True:=eq_true (tW (by lia))
  have ap:((bq i).map (Lx N m)).map aI++[.ow [.sh (.int (N.getD i 0)),.sh (.int (-(N.getD (Kc m i) 0)))]]=((bq (i+1)).map (Lx N m)).map aI:=by
   rw[List.range_succ,mBq,mBq];rfl
  have a2:=Xr (N:=N) (k:=Kc m i) (by unfold Kc;split <;> lia)
  refine⟨[some (.sh (.int c)),some (.sh (dI N)),some (.sh (.int (m:Int))),some (.ow (((bq (i+1)).map (Lx N m)).map aI)),some (.sh (.int (i:Int))),none,none,none],?_,some (.sh (.int (i:Int))),rfl⟩
  by_cases z:i=0
  .have k0:decide ((0:Int)<(i:Int))=false:=decide_eq_false (by lia)
   have k1:(m:Int)-1=((Kc m i:Nat):Int):=by unfold Kc;rw[pe z];lia
   simp_arith [vE,dI,a1,k0,k1,a2,bf,l1,ap]
  .have k0:decide ((0:Int)<(i:Int))=true:=decide_eq_true (by lia)
   have k1:(i:Int)-1=((Kc m i:Nat):Int):=by unfold Kc;rw[pD z];lia
   simp_arith [vE,dI,a1,k0,k1,a2,bf,l1,ap])
 obtain⟨S',e,v,rfl⟩:=key;rw[qd]at e;exact⟨v,e⟩
structure Ch (N:List Int) (m a b i:Nat) (T:List (List Int)):Prop where
 len:T.length=m
 fl:T.flatten.Perm ((N.take (m+i)).flatMap λx=>[x, -x])
 mem:∀(k:Nat) (y:Int),y∈T.getD k []↔y∈((bq m).map (Lx N m)).getD k []∨(k=a/\y∈(N.drop m).take i)∨(k=b/\-y∈(N.drop m).take i)
theorem He{N:List Int}{k:Nat}(h:k<N.length):N.take (k+1)=N.take k++[N.getD k 0]:=by
 rw[List.take_succ,gDq,gEg h];rfl
theorem IH{c:Int}{N:List Int}{m i a b:Nat}{T:List (List Int)}(h2:2<=m) (h4:m<=4) (hi:i<2) (hN:m+i<N.length) (ha:c / 36 % (m:Int)=(a:Int)) (hb:((a:Int)+1+c / 144 % ((m:Int)-1)) % (m:Int)=(b:Int)) (h:Ch N m a b i T) {v5 v6 v7:Option AV} :
  ∃T',wR [some (.sh (.int c)),some (.sh (dI N)),some (.sh (.int (m:Int))),some (.ow (T.map aI)),some (.sh (.int (i:Int))),v5,v6,v7]=some (.nx [some (.sh (.int c)),some (.sh (dI N)),some (.sh (.int (m:Int))),some (.ow (T'.map aI)),some (.sh (.int (i:Int))),some (.sh (.int (N.getD (m+i) 0))),some (.sh (.int (a:Int))),some (.sh (.int (b:Int)))])/\Ch N m a b (i+1) T':=by
 have am:a<m:=by have:=aO (c / 36) (b:=(m:Int)) (by lia);lia
 have bm:b<m:=by have:=aO ((a:Int)+1+c / 144 % ((m:Int)-1)) (b:=(m:Int)) (by lia);lia
 have at0:atI (N.map D.int) ((m:Int)+(i:Int))=some (.int (N.getD (m+i) 0)):=by
  have:=Xr hN
  rwa [show ((m+i:Nat):Int)=(m:Int)+(i:Int) by lia]at this
 have fl:=h.fl;have fll:T.flatten.length<=20:=by
  rw[fl.length_eq];have:=K45.pm_len (N.take (m+i));unfold K45.pm at this;rw[this,lTq];lia
 generalize hE:N.getD (m+i) 0=e at at0;have hr:=gEg (show a<T.length by have:=h.len;lia)
 generalize T[a]'(by have:=h.len;lia)=r at hr
 have rl:r.length<=T.flatten.length:=Fw (mGq hr);have d36:=uv (i:=c) (j:=36) (by decide) (by decide)
 have d144:=uv (i:=c) (j:=144) (by decide) (by decide)
 have d5:=uv (i:=c) (j:=5) (by decide) (by decide)
 have d7:=uv (i:=c) (j:=7) (by decide) (by decide)
 have ma:=rK (i:=c / 36) (j:=(m:Int)) (by lia)
 have mb1:=rK (i:=c / 144) (j:=(m:Int)-1) (by lia)
 have mb:=rK (i:=(a:Int)+1+c / 144 % ((m:Int)-1)) (j:=(m:Int)) (by lia)
 rw[ha]at ma;rw[hb]at mb;have m5:=rK (i:=c / 5+(i:Int)) (j:=(r.length:Int)+1) (by lia)
 have z0:=aR (c / 5+(i:Int)) (b:=(r.length:Int)+1) (by lia)
 have z1:=aO (c / 5+(i:Int)) (b:=(r.length:Int)+1) (by lia)
 generalize (c / 5+(i:Int)) % ((r.length:Int)+1)=z at m5 z0 z1;have sT:=uj T;have at1:atI (T.map dI) (a:Int)=some (dI r):=tO (by rw[gMq,hr];rfl)
 have n1:=NN hr;have ix:Eb T.length (a:Int)=some a:=E5 (by have:=h.len;lia)
 have LX:(r.map λn=>AV.sh (.int n)).take z.toNat++AV.sh (.int e)::(r.map λn=>AV.sh (.int n)).drop z.toNat=(zS r z.toNat e).map λn=>.sh (.int n):=by
  unfold zS;rw[mBq,ao,iV,iW]
 have pt:=T7 (r':=zS r z.toNat e) hr;have l1:z.toNat<=r.length:=by lia
 have l2:r.length<rG:=tW (by lia)
 have f1:=Be (e:=e) z.toNat hr;have i1:=HJ (e:=e) z.toNat hr;have t1:(T.set a (zS r z.toNat e)).length=m:=by rw[lZq,h.len]
 generalize T.set a (zS r z.toNat e)=T1 at pt f1 i1 t1;have hq:=gEg (show b<T1.length by lia)
 generalize T1[b]'(by lia)=q at hq
 have ql:q.length<=T1.flatten.length:=Fw (mGq hq);rw[f1.length_eq,lCq]at ql;have m7:=rK (i:=c / 7+(i:Int)) (j:=(q.length:Int)+1) (by lia)
 have y0:=aR (c / 7+(i:Int)) (b:=(q.length:Int)+1) (by lia)
 have y1:=aO (c / 7+(i:Int)) (b:=(q.length:Int)+1) (by lia)
 generalize (c / 7+(i:Int)) % ((q.length:Int)+1)=y at m7 y0 y1;have sT1:=uj T1;have at2:atI (T1.map dI) (b:Int)=some (dI q):=tO (by rw[gMq,hq];rfl)
 have n2:=NN hq;have ix2:Eb T1.length (b:Int)=some b:=E5 (by lia)
 have hi2:(q.map λn=>AV.sh (.int n)).take y.toNat++AV.sh (.int (-e))::(q.map λn=>AV.sh (.int n)).drop y.toNat=(zS q y.toNat (-e)).map λn=>.sh (.int n):=by
  unfold zS;rw[mBq,ao,iV,iW]
 have pt2:=T7 (r':=zS q y.toNat (-e)) hq;have k1:y.toNat<=q.length:=by lia
 have k2:q.length<rG:=tW (by lia)
 have f2:=Be (e:=-e) y.toNat hq;have i2:=HJ (e:=-e) y.toNat hq;have t2:(T1.set b (zS q y.toNat (-e))).length=m:=by rw[lZq,t1]
 generalize T1.set b (zS q y.toNat (-e))=T2 at pt2 f2 i2 t2;refine⟨T2,?_,t2,?_,λk w=>?_⟩
 .unfold dI at at1 at2 ⊢
  simp_arith [wR,at0,d36,d144,d5,d7,ma,mb1,mb,Ts,n1,ix,sT,at1,m5,z0,l1,l2,LX,pt,n2,ix2,sT1,at2,m7,y0,k1,k2,hi2,pt2,true_and]
 .rw [←eX,He hN,ff,hE];refine f2.trans ((f1.cons _).trans ?_);refine((fl.cons e).cons (-e)).trans ?_;refine(aW.swap ..).trans ?_;exact(bb (l₁:=[e, -e]))
 .have td:(N.drop m).take (i+1)=(N.drop m).take i++[e]:=by
   have:i<(N.drop m).length:=by rw[aL];lia
   rw[He this,←hE,gDq,cT,gDq]
  rw[i2 k w,i1 k w,h.mem k w,td,mAq,mAq,mSq,mSq];constructor
  .rintro ((q|q)|q)
   .rcases q with q|q|q
    .exact .inl q
    .exact .inr (.inl ⟨q.1,.inl q.2⟩)
    .exact .inr (.inr ⟨q.1,.inl q.2⟩)
   .exact .inr (.inl ⟨q.2,.inr q.1⟩)
   .exact .inr (.inr ⟨q.2,.inr (by lia)⟩)
  .rintro (q|⟨q,p⟩|⟨q,p⟩)
   .exact .inl (.inl (.inl q))
   .exact p.elim (λp=>.inl (.inl (.inr (.inl ⟨q,p⟩)))) λp=>.inl (.inr ⟨p,q⟩)
   .exact p.elim (λp=>.inl (.inl (.inr (.inr ⟨q,p⟩)))) λp=>.inr ⟨by lia,q⟩
section
variable {T:List (List Int)}{p:Nat}
def PC(T:List (List Int)) (p:Nat) (S:Nat->Prop):Prop:=∀k r x,T[k]?=some r->x∈r->k≠p->plc T (-x)≠p->S k->S (plc T (-x))
def Rp(T:List (List Int)) (p a b:Nat):Prop:=∀S,PC T p S->S a->S b
theorem Rp.refl(a:Nat):Rp T p a a:=λ_ _ h=>h
theorem Rp.trans{a b c:Nat}(h:Rp T p a b) (k:Rp T p b c):Rp T p a c:=λS q s=>k S q (h S q s)
theorem PC.not(hm:Mp T) {S:Nat->Prop}(h:PC T p S):PC T p λk=>¬ S k:=λk r x hr hx hk hp n s=>by
 have hx':x∈T.flatten:=mFq.mpr ⟨r,mGq hr,hx⟩;obtain⟨t,ht,hxt⟩:=hm.at (hm.hneg x hx');have e:plc T (-(-x))=k:=by rw[bJ];exact plc_eq hm.hn hr hx
 have:=h _ t (-x) ht hxt hp (by rw[e];exact hk) s
 rw[e]at this;exact n this
theorem Rp.symm(hm:Mp T) {a b:Nat}(h:Rp T p a b):Rp T p b a:=λS c s=>cB λn=>h _ (c.not hm) n s
theorem V7(hm:Mp T) {a b:Nat}(h:Rp T p a b) (ha:a≠p) {r t:List Int}(hr:T[a]?=some r) (ht:T[b]?=some t) {x y:Int}(hx:x∈r) (hy:y∈t):Gp (T.eraseIdx p) x y:=λS c s=>by
 have row:∀{k:Nat}{u:List Int},k≠p->T[k]?=some u->∀v∈u,S v->∀w∈u,S w:=λ{k u} hk hu v hv sv w hw=>c.row u (bS.mpr ⟨k,hk,hu⟩) v hv w hw sv
 refine h (λk=>∀u,T[k]?=some u->∀w∈u,S w) (λk u v hu hv hk hp q u' hu' w hw=>?_) (λu hu w hw=>?_) t ht y hy
 .have hv':v∈T.flatten:=mFq.mpr ⟨u,mGq hu,hv⟩;obtain⟨t',ht',hxt⟩:=hm.at (hm.hneg v hv');rw[ht']at hu';cases hu';exact row hp ht' (-v) hxt (c.neg v (q u hu v hv)) w hw
 .rw [hr]at hu;cases hu;exact row ha hr x hx s w hw
structure UZ (T:List (List Int)) (p:Nat) (L:List (Nat×Nat)):Prop where
 nd:(L.map (·.1)).Nodup
 all:∀k,k<T.length->k≠p->∃l,(k,l)∈L
 cl:∀k l,(k,l)∈L->k≠p/\∀r x,T[k]?=some r->x∈r->plc T (-x)=p∨(plc T (-x),l)∈L
 rc:∀k l,(k,l)∈L->Rp T p l k
theorem EU{L:List (Nat×Nat)}(h:(L.map (·.1)).Nodup) {k l l':Nat}(a:(k,l)∈L) (b:(k,l')∈L):l=l':=by
 induction L with
 |nil=>cases a
 |cons q L ih =>
  rw[ao,aA]at h;rcases ag.mp a with e|e
  .rcases ag.mp b with e'|e'
   .rw [←e]at e';exact(Prod.mk.inj e').2.symm
   .exact absurd (mMq.mpr ⟨(k,l'),e',by rw[←e]⟩) h.1
  .rcases ag.mp b with e'|e'
   .exact absurd (mMq.mpr ⟨(k,l),e,by rw[←e']⟩) h.1
   .exact ih h.2 e e'
theorem UZ.gp(hm:Mp T) {L:List (Nat×Nat)}(h:UZ T p L) {r:List Int}(hr:T[p]?=some r) {e f:Int}(he:e∈r) (hf:f∈r) (ne:plc T (-e)≠p) (nf:plc T (-f)≠p) {l l':Nat}(a:(plc T (-e),l)∈L) (b:(plc T (-f),l')∈L):l=l'↔Gp (T.eraseIdx p) e f:=by
 have inT:∀{x:Int},x∈r->-x∈T.flatten:=λ{x} hx=>hm.hneg x (mFq.mpr ⟨r,mGq hr,hx⟩)
 obtain⟨re,hre,mre⟩:=hm.at (inT he);obtain⟨rf,hrf,mrf⟩:=hm.at (inT hf);refine⟨λq=>?_,λg=>?_⟩
 .subst q;have rp:=((h.rc _ _ a).symm hm).trans (h.rc _ _ b);have g1:Gp (T.eraseIdx p) e (-e):=λS c s=>c.neg e s
  have g2:Gp (T.eraseIdx p) (-f) f:=λS c s=>by have:=c.neg _ s;rwa [bJ]at this
  exact(g1.trans (V7 hm rp ne hre hrf mre mrf)).trans g2
 .have:=g (λy=>∃z,(z=y∨z = -y)/\z∈T.flatten/\plc T z≠p/\(plc T z,l)∈L) ⟨λt ht x hx y hy q=>?_,λx q=>?_⟩ ⟨-e,.inr rfl,inT he,ne,a⟩
  .obtain ⟨z,hz,zT,zp,zl⟩:=this;rcases hz with hz|hz
   .rw [hz,plc_eq hm.hn hr hf]at zp;exact absurd rfl zp
   .rw [hz]at zl;exact EU h.nd zl b
  .obtain ⟨k,hk,hkt⟩:=bS.mp ht;have px:=plc_eq hm.hn hkt hx;have py:=plc_eq hm.hn hkt hy;have yT:y∈T.flatten:=mFq.mpr ⟨t,mGq hkt,hy⟩;have kl:(k,l)∈L:=by
    obtain⟨z,hz,zT,zp,zl⟩:=q;rcases hz with hz|hz
    .rw [hz,px]at zl;exact zl
    .rw [hz]at zl zp;obtain⟨t',ht',hxt⟩:=hm.at (hm.hneg x (mFq.mpr ⟨t,mGq hkt,hx⟩));rcases (h.cl _ _ zl).2 t' (-x) ht' hxt with w|w
     .rw [bJ,px]at w;exact absurd w hk
     .rw [bJ,px]at w;exact w
   exact⟨y,.inl rfl,yT,by rw[py];exact hk,by rw[py];exact kl⟩
  .obtain ⟨z,hz,r'⟩:=q;refine⟨z,?_,r'⟩;rcases hz with hz|hz
   .exact .inr (by rw[bJ];exact hz)
   .exact .inl hz
end
section
variable {T:List (List Int)}{p s:Nat}
structure Wl (T:List (List Int)) (p s:Nat) (L:List (Nat×Nat)) (X:Nat->Prop):Prop where
 nd:(L.map (·.1)).Nodup
 lt:∀k l,(k,l)∈L->k<T.length/\k≠p
 ah:∀k,X k->(k,s)∈L
 cl:∀k l,(k,l)∈L->¬ X k->∀r x,T[k]?=some r->x∈r->plc T (-x)=p∨(plc T (-x),l)∈L
 rc:∀k l,(k,l)∈L->Rp T p l k
def see(p s:Nat) (q:List (Nat×Nat)×List Nat) (t:Nat):List (Nat×Nat)×List Nat:=if t≠p/\t∉q.1.map (·.1) then (q.1++[(t,s)],q.2++[t]) else q
theorem TQ(hm:Mp T) {L:List (Nat×Nat)}{ah:List Nat}{k0:Nat}{r:List Int}{x:Int}(hr:T[k0]?=some r) (hx:x∈r) (w:Wl T p s L λk=>k∈ah∨k=k0) :
  Wl T p s (see p s (L,ah) (plc T (-x))).1 (λk=>k∈(see p s (L,ah) (plc T (-x))).2∨k=k0)/\(∀q∈L,q∈(see p s (L,ah) (plc T (-x))).1)/\(plc T (-x)=p∨(plc T (-x),s)∈(see p s (L,ah) (plc T (-x))).1)/\(see p s (L,ah) (plc T (-x))).1.length+ah.length=L.length+(see p s (L,ah) (plc T (-x))).2.length:=by
 have hx':x∈T.flatten:=mFq.mpr ⟨r,mGq hr,hx⟩;obtain⟨t',ht',hxt⟩:=hm.at (hm.hneg x hx');have k0s:(k0,s)∈L:=w.ah k0 (.inr rfl);have k0p:=(w.lt k0 s k0s).2;have pk:plc T (-(-x))=k0:=by rw[bJ];exact plc_eq hm.hn hr hx
 generalize ht:plc T (-x)=t at *
 by_cases c:t≠p/\t∉L.map (·.1)
 .have e:see p s (L,ah) t=(L++[(t,s)],ah++[t]):=pe c;rw[e];refine⟨⟨?_,λk l h=>?_,λk h=>?_,λk l h nx=>?_,λk l h=>?_⟩,λq h=>az _ h,.inr (by simp),by simp;lia⟩
  .rw [mBq,nAq];exact⟨w.nd,by simp,λa ha b hb q=>c.2 (by
    have e2:b=t:=mSq.mp hb;rw[e2]at q;rw[←q];exact ha)⟩
  .rcases mAq.mp h with q|q
   .exact w.lt k l q
   .cases mSq.mp q;exact⟨(gSq.mp ht').1,c.1⟩
  .rcases h with h|h
   .rcases mAq.mp h with q|q
    .exact az _ (w.ah k (.inl q))
    .rw [mSq.mp q];simp
   .rw [h];exact az _ k0s
  .rcases mAq.mp h with q|q
   .intro r' y h1 h2;rcases w.cl k l q (λz=>nx (z.imp (λm=>az _ m) id)) r' y h1 h2 with a|a
    .exact .inl a
    .exact .inr (az _ a)
   .cases mSq.mp q;exact absurd (.inl (by simp)) nx
  .rcases mAq.mp h with q|q
   .exact w.rc k l q
   .cases mSq.mp q;refine(w.rc k0 s k0s).trans λS pc sk=>?_
    have:=pc k0 r x hr hx k0p (by rw[ht];exact c.1) sk
    rw[ht]at this;exact this
 .have e:see p s (L,ah) t=(L,ah):=pD c;rw[e];refine⟨w,λq h=>h,?_,rfl⟩
  by_cases tp:t=p
  .exact .inl tp
  .have m:t∈L.map (·.1):=cB λn=>c ⟨tp,n⟩
   obtain⟨⟨t1,l⟩,hl,e1⟩:=mMq.mp m;have e1:t1=t:=e1;subst e1;right
   by_cases X:t1∈ah∨t1=k0
   .exact w.ah t1 X
   .rcases w.cl t1 l hl X t' (-x) ht' hxt with a|a
    .rw [pk]at a;exact absurd a k0p
    .rw [pk]at a;rw[EU w.nd k0s a];exact hl
def xt(T:List (List Int)) (p s:Nat) (q:List (Nat×Nat)×List Nat) (r:List Int):List (Nat×Nat)×List Nat:=r.foldl (λq x=>see p s q (plc T (-x))) q
theorem Pw(hm:Mp T) {k0:Nat}{r:List Int}(hr:T[k0]?=some r):∀(u:List Int) {L:List (Nat×Nat)}{ah:List Nat},(∀x∈u,x∈r)->Wl T p s L (λk=>k∈ah∨k=k0) ->
  Wl T p s (xt T p s (L,ah) u).1 (λk=>k∈(xt T p s (L,ah) u).2∨k=k0)/\(∀q∈L,q∈(xt T p s (L,ah) u).1)/\(∀x∈u,plc T (-x)=p∨(plc T (-x),s)∈(xt T p s (L,ah) u).1)/\(xt T p s (L,ah) u).1.length+ah.length=L.length+(xt T p s (L,ah) u).2.length
 | [],L,ah,_,w=>⟨w,λq h=>h,λx hx=>(by cases hx),rfl⟩
 |x::u,L,ah,hu,w=>by
  obtain⟨w1,s1,d1,n1⟩:=TQ hm hr (hu x (aj ..)) w;have e:xt T p s (L,ah) (x::u)=xt T p s ((see p s (L,ah) (plc T (-x))).1,(see p s (L,ah) (plc T (-x))).2) u:=rfl;generalize see p s (L,ah) (plc T (-x))=q at *;obtain⟨w2,s2,d2,n2⟩:=Pw hm hr u (λy hy=>hu y (mCo _ hy)) w1
  rw[e];refine⟨w2,λz hz=>s2 z (s1 z hz),λy hy=>?_,by lia⟩
  rcases ag.mp hy with h|h
  .rw [h];exact d1.imp id λm=>s2 _ m
  .exact d2 y h
theorem Te(hm:Mp T) {k0:Nat}{r:List Int}(hr:T[k0]?=some r) {L:List (Nat×Nat)}{ah:List Nat}(w:Wl T p s L λk=>k∈ah∨k=k0) :
  Wl T p s (xt T p s (L,ah) r).1 (λk=>k∈(xt T p s (L,ah) r).2)/\(∀q∈L,q∈(xt T p s (L,ah) r).1)/\(xt T p s (L,ah) r).1.length+ah.length=L.length+(xt T p s (L,ah) r).2.length:=by
 obtain⟨w1,s1,d1,n1⟩:=Pw hm hr r (λ_ h=>h) w
 refine⟨⟨w1.nd,w1.lt,λk h=>w1.ah k (.inl h),λk l h nx r' x h1 h2=>?_,w1.rc⟩,s1,n1⟩
 by_cases e:k=k0
 .subst e;rw[hr]at h1;cases h1;have:=EU w1.nd h (w1.ah k (.inr rfl));rw[this];exact d1 x h2
 .exact w1.cl k l h (λq=>q.elim nx e) r' x h1 h2
theorem Wl.len{L:List (Nat×Nat)}{X:Nat->Prop}(w:Wl T p s L X):L.length<=T.length:=by
 have:=K51.WS T.length _ w.nd λk hk=>by
  obtain⟨⟨k',l⟩,h,e⟩:=mMq.mp hk;rw[←e];exact(w.lt k' l h).1
 rwa [lMq]at this
end
end K48
namespace K48
open PySem L2 Mr Z Zl
open K12 (cN)
def lk(L:List (Nat×Nat)):List (oS×D):=L.map λq=>((aG (q.1:Int):oS),D.int (q.2:Int))
theorem PX(L:List (Nat×Nat)):(lk L).map (·.1)=(L.map (·.1)).map λk:Nat=>(aG (k:Int):oS):=by
 unfold lk;rw[mPq,mPq];rfl
theorem Pz{L:List (Nat×Nat)}{t:Nat}:(aG (t:Int):oS)∈(lk L).map (·.1)↔t∈L.map (·.1):=by
 rw[PX];refine⟨λh=>?_,λh=>mMq.mpr ⟨t,h,rfl⟩⟩
 obtain⟨k,hk,e⟩:=mMq.mp h;have:k=t:=by have:=aG.inj e;lia
 rw[←this];exact hk
theorem J4(L:List (Nat×Nat)) (t:Nat):(Z.getD (lk L) (aG (t:Int))).isSome=decide (t∈L.map (·.1)):=by
 rw[cH,decide_eq_true_iff,←Pz];unfold Z.getD;rw[eK,gW];refine⟨λ⟨q,hq,e⟩=>mMq.mpr ⟨q,hq,by simpa using e⟩,λh=>?_⟩
 obtain⟨q,hq,e⟩:=mMq.mp h;exact⟨q,hq,by simpa using e⟩
theorem OM{L:List (Nat×Nat)}{t s:Nat}(h:t∉L.map (·.1)):wK (lk L) (aG (t:Int)) (.int (s:Int))=lk (L++[(t,s)]):=by
 rw[AK λm=>h (Pz.mp m)]
 unfold lk;rw[mBq];rfl
section
variable {T:List (List Int)}{p s:Nat}
def ps(T:List (List Int)) (p:Nat) (L:List (Nat×Nat)) (s:Nat) (ah:List Nat) (v6 v7:Option AV):AS:=[some (.sh (dM T)),some (.sh (.dict (pB 0 T))),some (.sh (.int (p:Int))),some (.owd (lk L)),some (.sh (.int (s:Int))),some (aI (cN ah)),v6,v7]
theorem Ro(hm:Mp T) {x:Int}(hx:x∈T.flatten) {L:List (Nat×Nat)}{ah:List Nat}(hL:L.length<500000) (hA:ah.length<500000) {v7:Option AV}:∃v7',sO (ps T p L s ah (some (.sh (.int x))) v7)=some (.nx (ps T p (see p s (L,ah) (plc T (-x))).1 s (see p s (L,ah) (plc T (-x))).2 (some (.sh (.int x))) v7')):=by
 have kv:=hm.kv (hm.hneg x hx);generalize plc T (-x)=t at *;have dn:=K41.AZ t p;have sm:=J4 L t;refine⟨some (.sh (.int (t:Int))),?_⟩;unfold see
 by_cases tp:t=p
 .rw [pD λc=>c.1 tp]
  rw[decide_eq_true tp]at dn
  simp_arith [sO,ps,kv,dn]
 .rw [decide_eq_false tp]at dn
  by_cases m:t∈L.map (·.1)
  .rw [pD λc=>c.2 m]
   rw[decide_eq_true m]at sm
   simp_arith [sO,ps,kv,dn,sm]
  .rw [pe ⟨tp,m⟩];rw[decide_eq_false m]at sm;have pu:=OM (s:=s) m;have l1:((lk L).length<rG)=True:=eq_true (by unfold lk;rw[lMq];exact tW (by lia))
   have l2:(ah.length<rG)=True:=eq_true (tW (by lia))
   have ap:(cN ah).map (λn=>AV.sh (.int n))++[.sh (.int (t:Int))]=(cN (ah++[t])).map λn=>.sh (.int n):=by rw[show cN (ah++[t])=cN ah++[(t:Int)] from mBq,mBq];rfl
   simp_arith [sO,ps,kv,dn,sm,pu,l1,l2,ap]
theorem see_len(q:List (Nat×Nat)×List Nat) (t:Nat):(see p s q t).1.length<=q.1.length+1/\(see p s q t).2.length<=q.2.length+1:=by
 unfold see;split
 .simp
 .lia
theorem JR(hm:Mp T):∀(r:List Int) {L:List (Nat×Nat)}{ah:List Nat}{v6 v7:Option AV},(∀x∈r,x∈T.flatten)->L.length+r.length<500000->ah.length+r.length<500000->∃v6' v7',su 6 sO (r.map D.int) (ps T p L s ah v6 v7)=some (.nx (ps T p (xt T p s (L,ah) r).1 s (xt T p s (L,ah) r).2 v6' v7'))
 | [],L,ah,v6,v7,_,_,_=>⟨v6,v7,rfl⟩
 |x::r,L,ah,v6,v7,hx,h1,h2=>by
  rw[lCq]at h1 h2;obtain⟨w7,e⟩:=Ro (p:=p) (s:=s) hm (hx x (aj ..)) (L:=L) (ah:=ah) (by lia) (by lia) (v7:=v7)
  obtain⟨b1,b2⟩:=see_len (p:=p) (s:=s) (L,ah) (plc T (-x));have es:xt T p s (L,ah) (x::r)=xt T p s ((see p s (L,ah) (plc T (-x))).1,(see p s (L,ah) (plc T (-x))).2) r:=rfl;rw[es];generalize see p s (L,ah) (plc T (-x))=q at *;obtain⟨u6,u7,e2⟩:=JR hm r (L:=q.1) (ah:=q.2) (v6:=some (.sh (.int x))) (v7:=w7) (λy hy=>hx y (mCo _ hy)) (by simp only at b1;lia) (by simp only at b2;lia)
  refine⟨u6,u7,?_⟩;show (sO (ps T p L s ah (some (.sh (.int x))) v7)).bind _=_;rw[e];exact e2
theorem NC(hm:Mp T) {k0:Nat}{r:List Int}(hr:T[k0]?=some r) {L:List (Nat×Nat)}{ah:List Nat}{v6 v7:Option AV}(h1:L.length<=1000) (h2:ah.length<=1000):∃v6' v7',wU (ps T p L s (ah++[k0]) v6 v7)=some (.nx (ps T p (xt T p s (L,ah) r).1 s (xt T p s (L,ah) r).2 v6' v7')):=by
 have rl:=cD.length_le (aD (mGq hr));have hl:=hm.hl;obtain⟨u6,u7,e⟩:=JR (p:=p) (s:=s) hm r (L:=L) (ah:=ah) (v6:=v6) (v7:=v7) (λx hx=>mFq.mpr ⟨r,mGq hr,hx⟩) (by lia) (by lia)
 refine⟨u6,u7,?_⟩;have cn:cN (ah++[k0])=cN ah++[(k0:Int)]:=mBq;have po:A6 5 (ps T p L s (ah++[k0]) v6 v7)=some (.int (k0:Int),ps T p L s ah v6 v7):=by
  rw[Oa];show ((((cN (ah++[k0])).map λn=>AV.sh (.int n))[((cN (ah++[k0])).map λn=>AV.sh (.int n)).length-1]?.bind PL).map λd=>(d,(ps T p L s (ah++[k0]) v6 v7).set 5 (some (.ow ((cN (ah++[k0])).map λn=>AV.sh (.int n)).dropLast))))=_
  rw[cn,mBq,lAq];simp only[ao,bX,lSq,jd,dD,eU,iQ];rfl
 have ix:Pd 0 (A6 5) (ps T p L s (ah++[k0]) v6 v7)=some (dI r,ps T p L s ah v6 v7):=by
  rw[Ww];show ((A6 5 (ps T p L s (ah++[k0]) v6 v7)).bind λy=>(atD (dM T) y.1).map λz=>(z,y.2))=_
  rw[po,eU];have:atD (dM T) (.int (k0:Int))=some (dI r):=tO (by rw[gMq,hr];rfl)
  rw[this];rfl
 show J6 6 (Pd 0 (A6 5)) sO _=_;rw[Ss,ix,eU];exact e
end
section
variable {T:List (List Int)}{p s:Nat}
theorem GD:∀(r:List Int) (q:List (Nat×Nat)×List Nat),q.1.length<=(xt T p s q r).1.length
 | [],q=>ai _
 |x::r,q=>by
  have h1:q.1.length<=(see p s q (plc T (-x))).1.length:=by
   unfold see;split
   .simp
   .exact ai _
  exact bQ h1 (GD r (see p s q (plc T (-x))))
theorem Wl.imp{L:List (Nat×Nat)}{X Y:Nat->Prop}(w:Wl T p s L X) (h:∀k,X k↔Y k):Wl T p s L Y:=⟨w.nd,w.lt,λk y=>w.ah k ((h k).mpr y),λk l m ny=>w.cl k l m λx=>ny ((h k).mp x),w.rc⟩
theorem D6(hm:Mp T):∀(n:Nat) {L:List (Nat×Nat)}{ah:List Nat}{v6 v7:Option AV},Wl T p s L (λk=>k∈ah)->ah.length<=L.length->2*(T.length-L.length)+ah.length<n ->
  ∃L' w6 w7,tU (vT (pW OV (xv uN (oI (oz 5) pA)) (rC (.int 0)))) wU n (ps T p L s ah v6 v7)=some (.nx (ps T p L' s [] w6 w7))/\Wl T p s L' (λ_=>False)/\∀q∈L,q∈L'
 |0,L,ah,v6,v7,_,_,h=>by lia
 |n+1,L,ah,v6,v7,w,ha,h=>by
  have hr63:=hm.hr;have cd:(vT (pW OV (xv uN (oI (oz 5) pA)) (rC (.int 0)))) (ps T p L s ah v6 v7)=some (decide ((0:Int)<((ah.length:Nat):Int)),ps T p L s ah v6 v7):=by
   simp_arith [ps]
  rcases iI ah with e|⟨ah',k0,e⟩
  .subst e;refine⟨L,v6,v7,?_,w.imp λk=>by simp,λq h=>h⟩
   show ((vT _ _).bind _)=_;rw[cd];rfl
  .rw [iJ]at e;subst e;have k0s:=w.ah k0 (by simp)
   have kl:=(w.lt k0 s k0s).1;have hr:=gEg kl;have wl:=w.len;rw[lAq,lSq]at ha h;have w':Wl T p s L λk=>k∈ah'∨k=k0:=w.imp λk=>by simp
   obtain⟨w1,s1,n1⟩:=Te hm hr w';obtain⟨u6,u7,eb⟩:=NC (p:=p) (s:=s) hm hr (L:=L) (ah:=ah') (v6:=v6) (v7:=v7) (by lia) (by lia)
   have sl:=GD (T:=T) (p:=p) (s:=s) T[k0] (L,ah');have wl1:=w1.len;generalize xt T p s (L,ah') T[k0]=q at *;obtain⟨L',w6,w7,ew,wf,sf⟩:=D6 hm n (L:=q.1) (ah:=q.2) (v6:=u6) (v7:=u7) w1 (by simp only at sl;lia) (by simp only at sl;lia)
   refine⟨L',w6,w7,?_,wf,λz hz=>sf z (s1 z hz)⟩
   have tr:decide ((0:Int)<(((ah'++[k0]).length:Nat):Int))=true:=decide_eq_true (by rw[lAq,lSq];lia)
   rw[tr]at cd;show ((vT _ _).bind _)=_;rw[cd];show (wU (ps T p L s (ah'++[k0]) v6 v7)).bind _=_;rw[eb];exact ew
def p2(T:List (List Int)) (p:Nat) (L:List (Nat×Nat)) (v4 v5 v6 v7:Option AV):AS:=[some (.sh (dM T)),some (.sh (.dict (pB 0 T))),some (.sh (.int (p:Int))),some (.owd (lk L)),v4,v5,v6,v7]
theorem LQ(hm:Mp T) {i:Nat}(hi:i<T.length) {L:List (Nat×Nat)}{v5 v6 v7:Option AV}(w:∀s,Wl T p s L λ_=>False):∃L' w4 w5 w6 w7,uD (p2 T p L (some (.sh (.int (i:Int)))) v5 v6 v7)=some (.nx (p2 T p L' w4 w5 w6 w7))/\(∀s,Wl T p s L' λ_=>False)/\(∀q∈L,q∈L')/\(i≠p->∃l,(i,l)∈L'):=by
 have hr63:=hm.hr;have dn:=K41.AZ i p;have sm:=J4 L i;have wl:=(w 0).len
 by_cases ip:i=p
 .rw [decide_eq_true ip]at dn;refine⟨L,some (.sh (.int (i:Int))),v5,v6,v7,?_,w,λq h=>h,λn=>absurd ip n⟩
  simp_arith [uD,p2,dn]
 .rw [decide_eq_false ip]at dn
  by_cases m:i∈L.map (·.1)
  .rw [decide_eq_true m]at sm;refine⟨L,some (.sh (.int (i:Int))),v5,v6,v7,?_,w,λq h=>h,λ_=>?_⟩
   .simp_arith [uD,p2,dn,sm]
   .obtain ⟨⟨k,l⟩,h,e⟩:=mMq.mp m;have e:k=i:=e;exact⟨l,by rw[←e];exact h⟩
  .rw [decide_eq_false m]at sm;have pu:=OM (s:=i) m;have l1:((lk L).length<rG)=True:=eq_true (by unfold lk;rw[lMq];exact tW (by lia))
   have w1:Wl T p i (L++[(i,i)]) λk=>k∈[i]:=by
    refine⟨?_,λk l h=>?_,λk h=>?_,λk l h nx r x h1 h2=>?_,λk l h=>?_⟩
    .rw [mBq,nAq];exact⟨(w 0).nd,by simp,λa ha b hb q=>m (by
      have e2:b=i:=mSq.mp hb;rw[e2]at q;rw[←q];exact ha)⟩
    .rcases mAq.mp h with q|q
     .exact (w 0).lt k l q
     .cases mSq.mp q;exact⟨hi,ip⟩
    .rw [mSq.mp h];simp
    .rcases mAq.mp h with q|q
     .exact ((w 0).cl k l q id r x h1 h2).imp id λz=>az _ z
     .cases mSq.mp q;exact absurd (by simp) nx
    .rcases mAq.mp h with q|q
     .exact (w 0).rc k l q
     .cases mSq.mp q;exact Rp.refl _
   have wl1:=w1.len;obtain⟨L',w6,w7,ew,wf,sf⟩:=D6 hm 100000 (v6:=v6) (v7:=v7) w1 (by simp) (by simp;lia)
   refine⟨L',some (.sh (.int (i:Int))),some (aI (cN [])),w6,w7,?_,λs=>⟨wf.nd,wf.lt,λk h=>h.elim,wf.cl,wf.rc⟩,λq h=>sf q (az _ h),λ_=>⟨i,sf _ (by simp)⟩⟩
   change tU _ _ _ [some (.sh (dM T)),some (.sh (.dict (pB 0 T))),some (.sh (.int (p:Int))),some (.owd (lk (L++[(i,i)]))),some (.sh (.int (i:Int))),some (.ow [.sh (.int (i:Int))]),v6,v7]=some (.nx [some (.sh (dM T)),some (.sh (.dict (pB 0 T))),some (.sh (.int (p:Int))),some (.owd (lk L')),some (.sh (.int (i:Int))),some (aI (cN [])),w6,w7]) at ew
   simp_arith [uD,p2,dn,sm,pu,l1,ew]
theorem P7(hm:Mp T) (p:Nat):∃L,AJ [dM T,.dict (pB 0 T),.int (p:Int)]=some (.owd (lk L))/\UZ T p L:=by
 have hr63:=hm.hr;have key:=vF (x:=4) (body:=uD) (λi S=>∃L w4 w5 w6 w7,S=p2 T p L w4 w5 w6 w7/\(∀s,Wl T p s L λ_=>False)/\∀k,k<i->k≠p->∃l,(k,l)∈L) (ds:=pZ 0 T.length) (S:=p2 T p [] none none none none) ⟨[],none,none,none,none,rfl,λs=>⟨bp,λk l h=>(by cases h),λk h=>h.elim,λk l h=>(by cases h),λk l h=>(by cases h)⟩,λk h=>(by lia)⟩ (by
  rintro i d S hd ⟨L,w4,w5,w6,w7,rfl,w,al⟩;rw[wX,gMq]at hd;obtain⟨i',hi',rfl⟩:=oMq.mp hd;obtain⟨hlt,hii⟩:=gSq.mp hi';rw[List.getElem_range]at hii;subst hii;rw[bf]at hlt;obtain⟨L',u4,u5,u6,u7,e,w',sb,ex⟩:=LQ (p:=p) hm hlt (v5:=w5) (v6:=w6) (v7:=w7) w;refine⟨_,e,L',u4,u5,u6,u7,rfl,w',λk hk hp=>?_⟩
  by_cases c:k=i
  .subst c;exact ex hp
  .obtain ⟨l,hl⟩:=al k (by lia) hp
   exact⟨l,sb _ hl⟩)
 obtain⟨S',e,L,w4,w5,w6,w7,rfl,w,al⟩:=key;rw[qd]at al;refine⟨L,?_,⟨(w 0).nd,al,λk l h=>⟨((w 0).lt k l h).2,(w 0).cl k l h id⟩,(w 0).rc⟩⟩
 have rg:=vS (n:=T.length) (by lia)
 unfold p2 lk at e;unfold lk;simp -implicitDefEqProofs only [Z.U1,fb,fc,dZ,ee,df,↓reduceIte,reduceCtorEq,dM]at e
 simp_arith [AJ,D1,dM,rg,e]
end
end K48
namespace K48
open PySem L2 Mr Z Zl
open K41 (ab CN)
section
variable {T:List (List Int)}{f:Int->Int}
def Fl(T:List (List Int)) (f:Int->Int):Prop:=∀x∈T.flatten,∀y∈T.flatten,f (ab x)=f (ab y)->∀p,Gp (T.eraseIdx p) x y
theorem Wn:Fl T λz=>z:=λx _ y _ e p S c s=>by
 rcases CN e with q|q
 .rw [←q];exact s
 .have:y = -x:=by lia
  rw[this];exact c.neg x s
theorem NA(h:Fl T f) {q:Nat}{r:List Int}(hr:T[q]?=some r) {e g:Int}(he:e∈r) (hg:g∈r) (gp:Gp (T.eraseIdx q) e g):Fl T λz=>if f z=f (ab g) then f (ab e) else f z:=by
 have eT:e∈T.flatten:=mFq.mpr ⟨r,mGq hr,he⟩;have gT:g∈T.flatten:=mFq.mpr ⟨r,mGq hr,hg⟩;have all:∀p,Gp (T.eraseIdx p) e g:=λp=>by
  by_cases c:p=q
  .rw [c];exact gp
  .exact λS k s=>k.row r (bS.mpr ⟨q,λz=>c z.symm,hr⟩) e he g hg s
 intro x hx y hy eq p;dsimp only at eq
 by_cases a:f (ab x)=f (ab g)
 .rw [pe a]at eq
  by_cases b:f (ab y)=f (ab g)
  .exact h x hx y hy (a.trans b.symm) p
  .rw [pD b]at eq;exact((h x hx g gT a p).trans (all p).symm).trans (h e eT y hy eq p)
 .rw [pD a]at eq
  by_cases b:f (ab y)=f (ab g)
  .rw [pe b]at eq;exact((h x hx e eT eq p).trans (all p)).trans (h y hy g gT b p).symm
  .rw [pD b]at eq;exact h x hx y hy eq p
def rF(f:Int->Int) (r:List Int):List (List Int):=if r=[] then [[]] else (qz (Ms.dd (r.map λe=>f (ab e)))).map λn=>r.filter λe=>decide (f (ab e)=n)
theorem Bn{r z:List Int}(h:z∈rF f r):∃n,z=r.filter λe=>decide (f (ab e)=n):=by
 unfold rF at h;split at h
 .rename_i e;rw[mSq.mp h,e];exact⟨0,rfl⟩
 .obtain ⟨n,_,e⟩:=mMq.mp h;exact⟨n,e.symm⟩
theorem Mu{r:List Int}{x:Int}(hx:x∈r):(r.filter λe=>decide (f (ab e)=f (ab x)))∈rF f r:=by
 unfold rF;rw[pD (bU hx)];exact mMq.mpr ⟨f (ab x),(pK _).mem_iff.mpr (Ms.Br.mpr (mMq.mpr ⟨x,hx,rfl⟩)),rfl⟩
theorem Ma{r:List Int}(hn:r.Nodup):(rF f r).flatten.Perm r:=by
 unfold rF;split
 .rename_i e;rw[e];exact .refl _
 .have nd:(qz (Ms.dd (r.map λe=>f (ab e)))).Nodup:=(pK _).nodup_iff.mpr (Ms.Hr _)
  have fn:((qz (Ms.dd (r.map λe=>f (ab e)))).map λn=>r.filter λe=>decide (f (ab e)=n)).flatten.Nodup:=by
   rw[aT,gk];refine⟨λz hz=>?_,?_⟩
   .obtain ⟨n,_,rfl⟩:=mMq.mp hz;exact aT.mp (hn.sublist ef)
   .rw [bz];refine(aT.mp nd).imp λh a ha b hb e=>h ?_
    have h1:=of_decide_eq_true (aw.mp ha).2;have h2:=of_decide_eq_true (aw.mp hb).2;rw[←h1,←h2,e]
  refine(cP fn hn).mpr λx=>⟨λm=>?_,λm=>?_⟩
  .obtain ⟨z,hz,hx⟩:=mFq.mp m;obtain⟨n,_,rfl⟩:=mMq.mp hz;exact(aw.mp hx).1
  .exact mFq.mpr ⟨_,mMq.mpr ⟨f (ab x),(pK _).mem_iff.mpr (Ms.Br.mpr (mMq.mpr ⟨x,m,rfl⟩)),rfl⟩,aw.mpr ⟨m,by simp⟩⟩
theorem Jc(r:List Int):(rF f r).count []=[r].count []:=by
 by_cases e:r=[]
 .unfold rF;rw[pe e,e]
 .rw [cF.mpr λm=>?_,cF.mpr λm=>e (mSq.mp m).symm]
  unfold rF at m;rw[pD e]at m;obtain⟨n,hn,q⟩:=mMq.mp m;obtain⟨x,hx,rfl⟩:=mMq.mp (Ms.Br.mp ((pK _).mem_iff.mp hn));have:x∈r.filter λe=>decide (f (ab e)=f (ab x)):=aw.mpr ⟨hx,by simp⟩
  rw[q]at this;cases this
theorem Hm:∀{L:List (List Int)},L.flatten.Nodup->(L.flatMap (rF f)).flatten.Perm L.flatten/\(L.flatMap (rF f)).count []=L.count []
 | [],_=>⟨.refl _,rfl⟩
 |r::L,h=>by
  rw[fCq,nAq]at h;obtain⟨i1,i2⟩:=Hm h.2.1;have rb:=Jc (f:=f) r;refine⟨?_,?_⟩
  .rw [dO,fAq,fCq];exact(Ma h.1).append i1
  .rw [dO,cAq,i2,rb,←cAq];rfl
theorem Qw(hm:Mp T) (h:∀(p:Nat) (r:List Int),T[p]?=some r->∀x∈r,∀y∈r,f (ab x)=f (ab y)↔Gp (T.eraseIdx p) x y):rB T ((T.flatMap (rF f)).map Mr.good):=by
 obtain⟨p1,p2⟩:=Hm (f:=f) hm.hn;have gb:∀L:List (List Int),(L.map Mr.good).count []=L.count []:=λL=>by
  induction L with
  |nil=>rfl
  |cons w L ih =>
   by_cases e:w=[]
   .rw [e,ao,AQ,bT,bT,ih]
   .have e':Mr.good w≠[]:=λq=>e (by
     have:=congrArg bD q;rw[xg]at this;exact aS.mp this)
    rw[ao,bc e',bc e,ih]
 refine⟨(qX pE _).trans p1,by rw[gb];exact p2,λz hz ne=>?_,λr hr x hx y hy=>?_⟩
 .obtain ⟨w,hw,rfl⟩:=mMq.mp hz;obtain⟨r,hr,hw⟩:=cw.mp hw;obtain⟨n,e⟩:=Bn hw;exact⟨r,hr,_,by rw[e]⟩
 .obtain ⟨p,hp⟩:=aH.mp hr;rw[←qQ (Fm hp),←h p r hp x hx y hy];refine⟨λ⟨z,hz,a,b⟩=>?_,λe=>?_⟩
  .obtain ⟨w,hw,rfl⟩:=mMq.mp hz;obtain⟨r',hr',hw⟩:=cw.mp hw;obtain⟨n,e⟩:=Bn hw;rw[e]at a b;have a':=(aw.mp ((pE _).mem_iff.mp a)).2;have b':=(aw.mp ((pE _).mem_iff.mp b)).2;exact(of_decide_eq_true a').trans (of_decide_eq_true b').symm
  .exact ⟨_,mMq.mpr ⟨_,cw.mpr ⟨r,hr,Mu hx⟩,rfl⟩,(pE _).mem_iff.mpr (aw.mpr ⟨hx,by simp⟩),(pE _).mem_iff.mpr (aw.mpr ⟨hy,by simp[e]⟩)⟩
end
end K48
namespace K51
open PySem L2 Mr Z Xe Zl
def W1(ps:List (oS×Int)):List (oS×D):=ps.map λp=>(p.1,D.int p.2)
end K51
namespace K15
open PySem L2 Mr Z Xe Zl
theorem Pf{ps:List (oS×Int)}{k:oS}{n:Int}(hn:(ps.map (·.1)).Nodup) (h:(k,n)∈ps):Z.getD (K51.W1 ps) k=some (.int n):=by
 induction ps with
 |nil=>cases h
 |cons p ps ih =>
  rw[ao,aA]at hn;unfold Z.getD;show (((p.1,D.int p.2)::K51.W1 ps).find? _).map _=_;rcases ag.mp h with e|e
  .rw [←e,dB (by simp)]
   rfl
  .rw [cO (by
    intro z;have z':p.1=k:=by simpa using z
    exact hn.1 (by rw[z'];exact mMq.mpr ⟨_,e,rfl⟩))]
   exact ih hn.2 e
def kI(ks:List Int):List (oS×D):=ks.map λk=>((aG k:oS),D.bl true)
theorem On(ks:List Int) (t:Int):(kI ks).any (λkv=>decide (kv.1=(aG t:oS)))=decide (t∈ks):=by
 induction ks with
 |nil=>simp[kI]
 |cons k ks ih =>
  unfold kI at ih ⊢;rw[ao,dN,ih]
  by_cases h:t=k
  .subst h;simp
  .have h':¬ (aG k:oS)=aG t:=λq=>h (aG.inj q).symm
   simp[h',h]
theorem Nh(ks:List Int) (t:Int):(Z.getD (kI ks) (aG t)).isSome=decide (t∈ks):=by
 unfold Z.getD;rw[eK,←On,cH,gW,cR]
theorem My{ks:List Int}{t:Int}(h:t∉ks):wK (kI ks) (aG t) (.bl true)=kI (ks++[t]):=by
 unfold wK;rw[On,decide_eq_false h,pD (by simp)]
 simp[kI]
theorem Om(ks:List Int):(kI ks).length=ks.length:=by unfold kI;rw[lMq]
section
variable {rs:List (List Int)}
structure Rd (f:Int->Int) (E:List Int) (kn:List Int) (L:List (List Int)):Prop where
 cy:∀l∈L,∃e,Cy f e l
 fl:L.flatten=kn
 nd:kn.Nodup
 sub:∀x∈kn,x∈E
 cl:∀x∈kn,f x∈kn
theorem Rd.itr{f:Int->Int}{E kn:List Int}{L:List (List Int)}(h:Rd f E kn L) {x:Int}(hx:x∈kn):∀n,itr f n x∈kn
 |0=>hx
 |n+1=>h.cl _ (h.itr hx n)
theorem Rd.out{f:Int->Int}{E kn:List Int}{L:List (List Int)}(h:Rd f E kn L) {e:Int}{l:List Int}(c:Cy f e l) (he:e∉kn):∀x∈l,x∉kn:=by
 intro x hx hk;obtain⟨j,hj⟩:=aH.mp hx;have hlt:=(gSq.mp hj).1;rw[c.at hlt]at hj;have e1:=aJ.inj hj;subst e1;have:=h.itr hk (l.length-j);rw[←Fy,show l.length-j+j=l.length by lia,c.back]at this
 exact he this
theorem Rd.add{f:Int->Int}{E kn:List Int}{L:List (List Int)}(hf:PJ f E) (h:Rd f E kn L) {e:Int}{l:List Int}(c:Cy f e l) (heE:e∈E) (he:e∉kn):Rd f E (kn++l) (L++[l]):=by
 have ho:=h.out c he;refine⟨λm hm=>?_,by rw[fAq,h.fl,cx],?_,λx hx=>?_,λx hx=>?_⟩
 .rcases mAq.mp hm with q|q
  .exact h.cy m q
  .rw [mSq.mp q];exact⟨e,c⟩
 .rw [nAq];exact⟨h.nd,c.nd,λa ha b hb q=>ho b hb (q ▸ ha)⟩
 .rcases mAq.mp hx with q|q
  .exact h.sub x q
  .rw [c.get]at q;obtain⟨n,_,rfl⟩:=mMq.mp q;exact hf.itr_mem heE n
 .rcases mAq.mp hx with q|q
  .exact mAq.mpr (.inl (h.cl x q))
  .refine mAq.mpr (.inr ?_);obtain⟨j,hj⟩:=aH.mp q;have hlt:=(gSq.mp hj).1;rw[c.at hlt]at hj;rw[←aJ.inj hj];show Zl.itr f (j+1) e∈l
   by_cases hj2:j+1<l.length
   .exact mGq (c.at hj2)
   .rw [show j+1=l.length by lia,c.back]
    exact c.self
theorem Rd.orb{f:Int->Int}{E kn:List Int}{L:List (List Int)}(h:Rd f E kn L) (hall:∀x∈E,x∈kn):Yv f E L:=⟨h.cy,by rw[h.fl];exact h.nd,λx=>by rw[h.fl];exact⟨h.sub x,hall x⟩⟩
end
end K15
namespace K16
open PySem L2 Mr Z Xe Zl
theorem J7{i j:Int}(h:0<j) (h2:j.natAbs.log2<9000):NI (.int i) (.int j)=some (.int (i / j)):=vA ⟨h,h2⟩ _
theorem RZ:Hw (.int 10) (.int 57)=some (.int (10 ^ 57)):=by simp_arith []
def pm(l:List Int):List Int:=l.flatMap λx=>[x, -x]
theorem JM(l:List Int) (x:Int):pm (l++[x])=pm l++[x, -x]:=by unfold pm;rw[ff];simp
theorem pm_len(l:List Int):(pm l).length=2*l.length:=by
 unfold pm
 induction l with
 |nil=>rfl
 |cons a l ih =>
  rw[dO,lAq,ih,lCq (as:=l)];show 2+_=_;lia
theorem Ak{l:List Int}{z:Int}(h:z∈pm l):-z∈pm l:=by
 unfold pm at h ⊢;rw[cw]at h ⊢;obtain⟨x,hx,hz⟩:=h;refine⟨x,hx,?_⟩;rcases ag.mp hz with e|e
 .rw [e];simp
 .rw [mSq.mp e,bJ];simp
def kvI(M:List (Int×Int)):List (oS×D):=M.map λp=>(.inl p.1,.int p.2)
theorem JK(M:List (Int×Int)):kvI M=K51.W1 (M.map λp=>((aG p.1:oS),p.2)):=by unfold kvI K51.W1;rw[mPq];rfl
theorem Gz{M:List (Int×Int)}{z x:Int}(h:z∉M.map (·.1)):wK (kvI M) (.inl z) (.int x)=kvI (M++[(z,x)]):=by
 rw[AK]
 .unfold kvI;rw[mBq];rfl
 .intro m;obtain⟨p,hp,e1⟩:=mMq.mp m;obtain⟨q,hq,rfl⟩:=mMq.mp hp;exact h (mMq.mpr ⟨q,hq,aG.inj e1⟩)
theorem erase_map{α β:Type}(f:α->β):∀(l:List α) (k:Nat),(l.map f).eraseIdx k=(l.eraseIdx k).map f
 | [],_=>rfl
 |a::l,0=>rfl
 |a::l,k+1=>by
  rw[ao,du,du,ao,erase_map f l k]
end K16
namespace K44
open PySem L2 Mr Z Xe Zl
open K15 (Rd kI Nh My Om)
open K16 (kvI Gz JK pm JM pm_len Ak J7 RZ erase_map)
theorem TC(c:Int) {n:Nat}(hn:n<=30):∃nm,vC [.int c,.int (n:Int)]=some (aI nm)/\nm.length=n/\nm.Nodup/\∀z∈nm,1<=z:=by
 have key:=vF (x:=4) (body:=vt) (λi S=>∃c' last l v4,S=[some (.sh (.int c')),some (.sh (.int (n:Int))),some (.sh (.int last)),some (aI l),v4]/\l.length=i/\l.Nodup/\(∀z∈l,1<=z/\z<=last)/\0<=last) (ds:=pZ 0 n) (S:=[some (.sh (.int c)),some (.sh (.int (n:Int))),some (.sh (.int 0)),some (.ow []),none])
  ⟨c,0,[],none,rfl,rfl,bp,λz hz=>(by cases hz),by decide⟩ (by
  rintro i d S hd ⟨c',last,l,v4,rfl,hl,hnd,hr,h0⟩;have hi:i<n:=by
   have:=(gSq.mp hd).1
   rwa [qd]at this
  have m1:=rK (i:=c') (j:=10 ^ 57) (by decide)
  have m2:=aR c' (b:=10 ^ 57) (by decide)
  have d1:=J7 (i:=c') (j:=10 ^ 57) (by decide) (by decide +kernel)
  have hp:=RZ;have l3:l.length<rG:=by show _<16777216;lia
  generalize hx:last+1+c' % 10 ^ 57=x;have hx1:last+1<=x:=by lia
  have ap:l.map (λn=>AV.sh (.int n))++[.sh (.int x)]=(l++[x]).map λn=>.sh (.int n):=by rw[mBq];rfl
  refine⟨[some (.sh (.int (c' / 10 ^ 57))),some (.sh (.int (n:Int))),some (.sh (.int x)),some (aI (l++[x])),some (.sh d)],?_,c' / 10 ^ 57,x,l++[x],some (.sh d),rfl,by rw[lAq,hl];rfl,?_,?_,by lia⟩
  .simp_arith [vt,hp,m1,hx,d1,l3,ap]
  .rw [nAq];refine⟨hnd,by simp,λa ha b hb e=>?_⟩
   rw[mSq.mp hb]at e;have:=hr a ha;lia
  .intro z hz;rcases mAq.mp hz with hz|hz
   .have:=hr z hz;exact⟨this.1,by lia⟩
   .rw [mSq.mp hz];exact⟨by lia,iD _⟩)
 obtain⟨S',e,c',last,l,v4,rfl,hl,hnd,hr,h0⟩:=key;rw[qd]at hl;have rg:=vS (n:=n) (by lia)
 refine⟨l,?_,hl,hnd,λz hz=>(hr z hz).1⟩
 simp_arith [vC,zj,rg,e]
theorem NS(c:Int) {l:List Int}(hl:l.length<=60):∃d,zB [.int c,dI l]=some (aI d)/\d.Perm l:=by
 have key:=vF (x:=4) (body:=yq) (λi S=>∃cell left found v4,S=[some (.sh (.int cell)),some (.sh (dI l)),some (aI left),some (aI found),v4]/\left.length+i=l.length/\found.length=i/\(found++left).Perm l) (ds:=pZ 0 l.length) (S:=[some (.sh (.int c)),some (.sh (dI l)),some (aI l),some (.ow []),none])
  ⟨c,l,[],none,rfl,rfl,rfl,.refl _⟩ (by
  rintro i d S hd ⟨cell,l2,fo,v4,rfl,h2,h3,pm⟩;have hi:i<l.length:=by
   have:=(gSq.mp hd).1
   rwa [qd]at this
  have hpos:(0:Int)<((l2.length:Nat):Int):=by lia
  have m1:=rK (i:=cell) (j:=((l2.length:Nat):Int)) hpos;have b0:=aR cell (b:=((l2.length:Nat):Int)) (by lia)
  have b1:=aO cell hpos;obtain⟨k,hk⟩:∃k:Nat,cell % ((l2.length:Nat):Int)=(k:Int):=⟨(cell % ((l2.length:Nat):Int)).toNat,by lia⟩
  have kl:k<l2.length:=by lia
  have hx:l2[k]?=some (l2.getD k 0):=by rw[gDq,gEg kl];rfl
  have ce:=λa=>K12.D5 a kl
  generalize l2.getD k 0=x at hx ce;have hx':(l2.map λn=>AV.sh (D.int n))[k]?=some (.sh (.int x)):=by rw[gMq,hx];rfl
  have c1:(0:Int)<=(k:Int):=by lia
  have c2:(k:Int)<((l2.length:Nat):Int):=by lia
  have c3:l2.length<=rG:=by show _<=16777216;lia
  have he:=erase_map (λn=>AV.sh (D.int n)) l2 k
  have hle:(l2.eraseIdx k).length=l2.length-1:=List.length_eraseIdx_of_lt kl;have d1:=uv (i:=cell) (j:=((l2.eraseIdx k).length:Int)+1) (by lia) (by rw[hle];lia)
  have tn:=br k;have lf:fo.length<rG:=by show _<16777216;lia
  have ap:fo.map (λn=>AV.sh (.int n))++[.sh (.int x)]=(fo++[x]).map λn=>.sh (.int n):=by rw[mBq];rfl
  have s2:=qO l2;have s3:=qO (l2.eraseIdx k);refine⟨[some (.sh (.int (cell / (((l2.eraseIdx k).length:Int)+1)))),some (.sh (dI l)),some (aI (l2.eraseIdx k)),some (aI (fo++[x])),some (.sh d)],?_,_,_,_,_,rfl,by rw[hle];lia,by rw[lAq,h3];rfl,?_⟩
  .simp_arith [yq,s2,s3,dI,m1,hk,c1,c2,c3,and_self,tn,hx',he,lf,ap,d1]
  .refine dv.mpr λa=>?_
   have:=dv.mp pm a;have:=ce a;simp only[cAq]at *;lia)
 obtain⟨S',e,cell,left,found,v4,rfl,h2,h3,pm⟩:=key;rw[qd]at h2;have:left=[]:=aS.mp (by lia)
 subst this;rw[aNq]at pm;have rg:=vS (n:=l.length) (by lia)
 have e3:((l.map D.int).map AV.sh)=l.map λn=>AV.sh (.int n):=by rw[mPq];rfl
 refine⟨found,?_,pm⟩;simp -implicitDefEqProofs only [Z.U1,fb,fc,dZ,ee,df,↓reduceIte,reduceCtorEq,dI]at e
 simp_arith [zB,C5,dI,rg,e3,e]
theorem Sa:∀(l acc:List (Int×Int)),(acc.map (·.1)++l.map (·.1)).Nodup->l.foldl (λm p=>wK m (.inl p.1) (.int p.2)) (kvI acc)=kvI (acc++l)
 | [],acc,_=>by rw[aNq];rfl
 |p::l,acc,h=>by
  rw[cj];have hp:p.1∉acc.map (·.1):=λq=>(nAq.mp h).2.2 p.1 q p.1 (by simp) rfl
  rw[Gz hp,show (p.1,p.2)=p from rfl,Sa l (acc++[p]) (by rw[mBq,aq];exact h),aq]
  rfl
theorem Cg:∀{a b:List Int},a.length=b.length->(a.zip b).map (·.1)=a
 | [],b,_=>by simp
 |x::a,[],h=>by simp at h
 |x::a,y::b,h=>by
  rw[fu,ao,Cg (by simpa using h)]
theorem RH{E d:List Int}(hE:E.Nodup) (h:E.length=d.length):dz E d=kvI (E.zip d):=by
 unfold dz;have:=Sa (E.zip d) [] (by rw[Cg h];exact hE)
 exact this
def fl(P:List (Int×Int)) (x:Int):Int:=match Z.getD (kvI P) (.inl x) with
 |some (.int y)=>y
 |_=>0
theorem JN{E d:List Int}(hE:E.Nodup) (h:E.length=d.length) {i:Nat}{x:Int}(hx:E[i]?=some x):∃y,d[i]?=some y/\Z.getD (kvI (E.zip d)) (.inl x)=some (.int y)/\fl (E.zip d) x=y:=by
 have hi:=(gSq.mp hx).1;have hy:d[i]?=some d[i]:=gEg (by lia)
 have hm:(x,d[i])∈E.zip d:=mGq (eZ.mpr ⟨hx,hy⟩);have g:Z.getD (kvI (E.zip d)) (.inl x)=some (.int d[i]):=by
  rw[JK];refine K15.Pf ?_ (mMq.mpr ⟨_,hm,rfl⟩);have h1:((E.zip d).map λp=>((aG p.1:oS),p.2)).map (·.1)=E.map aG:=by
   rw[mPq,←Cg h,mPq,Cg h];rfl
  rw[h1,aT,bz];exact(aT.mp hE).imp λh q=>h (aG.inj q)
 refine⟨_,hy,g,?_⟩;unfold fl;rw[g]
theorem Oj{E d:List Int}(hE:E.Nodup) (pd:d.Perm E):PJ (fl (E.zip d)) E:=by
 have hl:=pd.length_eq.symm;have nd:=pd.nodup_iff.mpr hE;refine⟨hE,λe he=>?_,λa ha b hb q=>?_⟩
 .obtain ⟨i,hi⟩:=aH.mp he;obtain⟨y,h1,_,h2⟩:=JN hE hl hi;rw[h2];exact pd.mem_iff.mp (mGq h1)
 .obtain ⟨i,hi⟩:=aH.mp ha;obtain⟨j,hj⟩:=aH.mp hb;obtain⟨y,h1,_,h2⟩:=JN hE hl hi;obtain⟨y',h1',_,h2'⟩:=JN hE hl hj;rw[h2,h2']at q;subst q;have:=(List.getElem?_inj (i:=i) (j:=j) (gSq.mp h1).1 nd).mp (by rw[h1,h1'])
  subst this;rw[hi]at hj;exact aJ.inj hj
def YL(N:Nat):AS->Nat
 | [_,_,_,_,_,_,_,_,some (.ow l),_]=>N+1-l.length
 |_=>0
section
variable {E d:List Int}{v0 v1 v2 v3 v9:Option AV}
theorem QU(hE:E.Nodup) (pd:d.Perm E) (hl:E.length<=60) {e:Int}(he:e∈E) {v5 v6:Option AV}:∃l,Cy (fl (E.zip d)) e l/\l.length<=E.length/\tU (vT (pW N2 (tZ (oz 4) (pW DJ (oz 8) (DF xw (rC (.int 1))))) (oz 7))) uO 100000 [v0,v1,v2,v3,some (.owd (kvI (E.zip d))),v5,v6,some (.sh (.int e)),some (.ow [.sh (.int e)]),v9]=some (.nx [v0,v1,v2,v3,some (.owd (kvI (E.zip d))),v5,v6,some (.sh (.int e)),some (aI l),v9]):=by
 have one:=Oj hE pd;obtain⟨l,cy,hle,hmin⟩:=one.cy he;have hst:∀n,Z.getD (kvI (E.zip d)) (.inl (itr (fl (E.zip d)) n e))=some (.int (itr (fl (E.zip d)) (n+1) e)):=λn=>by
  obtain⟨i,hi⟩:=aH.mp (one.itr_mem he n);obtain⟨y,_,h1,h2⟩:=JN hE pd.length_eq.symm hi;rw[h1,←h2];rfl
 refine⟨l,cy,hle,?_⟩;have key:=Cs (c:=vT (pW N2 (tZ (oz 4) (pW DJ (oz 8) (DF xw (rC (.int 1))))) (oz 7))) (body:=uO) (λS=>∃n,n<l.length/\S=[v0,v1,v2,v3,some (.owd (kvI (E.zip d))),v5,v6,some (.sh (.int e)),some (aI (l.take (n+1))),v9]) (YL l.length) (λS=>S=[v0,v1,v2,v3,some (.owd (kvI (E.zip d))),v5,v6,some (.sh (.int e)),some (aI l),v9]) (by
  rintro S ⟨n,hn,rfl⟩;have hat:=cy.at hn;have hs:=hst n;have sl:=qO (l.take (n+1));have at1:atI ((l.take (n+1)).map D.int) (-1)=some (.int (itr (fl (E.zip d)) n e)):=by
   rw[qE hat,mBq];exact MC _ _
  by_cases h2:n+1<l.length
  .have ne:=hmin (n+1) (by lia) h2
   have hat2:=cy.at h2;have l2:(l.take (n+1)).length<rG:=by rw[lTq];show _<16777216;lia
   have ap:(l.take (n+1)).map (λn=>AV.sh (.int n))++[.sh (.int (itr (fl (E.zip d)) (n+1) e))]=(l.take (n+1+1)).map λn=>.sh (.int n):=by rw[qE hat2,mBq];rfl
   refine⟨true,[v0,v1,v2,v3,some (.owd (kvI (E.zip d))),v5,v6,some (.sh (.int e)),some (aI (l.take (n+1))),v9],?_,λ_=>⟨[v0,v1,v2,v3,some (.owd (kvI (E.zip d))),v5,v6,some (.sh (.int e)),some (aI (l.take (n+1+1))),v9],?_,⟨n+1,h2,rfl⟩,?_⟩,λq=>(nomatch q)⟩
   .have nd:(!decide (itr (fl (E.zip d)) (n+1) e=e))=true:=by rw[decide_eq_false ne];rfl
    simp_arith [sl,dI,at1,hs,nd]
   .simp_arith [uO,sl,dI,at1,hs,l2,ap]
   .show l.length+1-_<l.length+1-_;simp only[lMq,lTq];lia
  .have en:n+1=l.length:=by lia
   have nd:(!decide (itr (fl (E.zip d)) (n+1) e=e))=false:=by rw[en,cy.back];simp
   refine⟨false,[v0,v1,v2,v3,some (.owd (kvI (E.zip d))),v5,v6,some (.sh (.int e)),some (aI (l.take (n+1))),v9],?_,λq=>(nomatch q),λ_=>by rw[en,bw]⟩
   simp_arith [sl,dI,at1,hs,nd])
 have h0:=cy.at (i:=0) (by have:=cy.len;lia)
 have ht:l.take 1=[e]:=by
  cases l with
  |nil=>simp at h0
  |cons a l =>
   have:a=e:=aJ.inj h0;rw[this];rfl
 obtain⟨S',ew,rfl⟩:=key 100000 [v0,v1,v2,v3,some (.owd (kvI (E.zip d))),v5,v6,some (.sh (.int e)),some (.ow [.sh (.int e)]),v9] ⟨0,by have:=cy.len;lia,by rw[bF,ht];rfl⟩ (by
  show l.length+1-1<100000;lia)
 exact ew
theorem PH{kn l:List Int}{v4 v5 v7 v8:Option AV}(hn:(kn++l).Nodup) (hl:kn.length+l.length<500000):∃v9',su 9 ve (l.map D.int) [v0,v1,v2,v3,v4,v5,some (.owd (kI kn)),v7,v8,v9]=some (.nx [v0,v1,v2,v3,v4,v5,some (.owd (kI (kn++l))),v7,v8,v9']):=by
 have key:=vF (x:=9) (body:=ve) (λi S=>∃v9',S=[v0,v1,v2,v3,v4,v5,some (.owd (kI (kn++l.take i))),v7,v8,v9']) (ds:=l.map D.int) (S:=[v0,v1,v2,v3,v4,v5,some (.owd (kI kn)),v7,v8,v9]) ⟨v9,by simp⟩ (by
  rintro i d S hd ⟨v6',rfl⟩;rw[gMq]at hd;obtain⟨e,he,rfl⟩:=oMq.mp hd;have hi:=(gSq.mp he).1;have hnew:e∉kn++l.take i:=λm=>by
   have h2:(kn++l.take (i+1)).Nodup:=cg.sublist (cD.append (cD.refl kn) (bK (i+1) l)) hn;rw[qE he,←aq]at h2;exact(nAq.mp h2).2.2 e m e (by simp) rfl
  have hp:=My hnew;rw[aq,←qE he]at hp;have l1:(kI (kn++l.take i)).length<rG:=by rw[Om,lAq,lTq];show _<16777216;lia
  refine⟨_,?_,some (.sh (.int e)),rfl⟩
  simp_arith [ve,l1,hp])
 obtain⟨S',e,v6',rfl⟩:=key;rw[lMq,bw]at e;exact⟨v6',e⟩
theorem NK(hE:E.Nodup) (pd:d.Perm E) (hl:E.length<=60):∃L v6 v7 v8 v9',su 7 tD (E.map D.int) [v0,v1,v2,v3,some (.owd (kvI (E.zip d))),some (.ow []),some (.owd []),none,none,none]=some (.nx [v0,v1,v2,v3,some (.owd (kvI (E.zip d))),some (K13.oM L),v6,v7,v8,v9'])/\Yv (fl (E.zip d)) E L/\L.length<=E.length:=by
 have one:=Oj hE pd;have key:=vF (x:=7) (body:=tD) (λi S=>∃kn L v7 v8 v9',S=[v0,v1,v2,v3,some (.owd (kvI (E.zip d))),some (K13.oM L),some (.owd (kI kn)),v7,v8,v9']/\Rd (fl (E.zip d)) E kn L/\L.length<=i/\∀j x,j<i->E[j]?=some x->x∈kn) (ds:=E.map D.int) (S:=[v0,v1,v2,v3,some (.owd (kvI (E.zip d))),some (.ow []),some (.owd []),none,none,none]) ⟨[],[],none,none,none,rfl,⟨by simp,rfl,bp,by simp,by simp⟩,ai _,λj x h=>absurd h (cK _)⟩ (by
  rintro i dd S hd ⟨kn,L,v7,v8,v9',rfl,hr,hLl,hall⟩;rw[gMq]at hd;obtain⟨e,he,rfl⟩:=oMq.mp hd;have hi:=(gSq.mp he).1;have heE:e∈E:=mGq he;have hg:=Nh kn e
  by_cases c:e∈kn
  .rw [decide_eq_true c]at hg;refine⟨[v0,v1,v2,v3,some (.owd (kvI (E.zip d))),some (K13.oM L),some (.owd (kI kn)),some (.sh (.int e)),v8,v9'],?_,kn,L,_,_,_,rfl,hr,by lia,λj x hj hx=>?_⟩
   .simp_arith [tD,hg]
   .rcases fk.mp hj with q|rfl
    .exact hall j x q hx
    .rw [he]at hx;cases hx;exact c
  .rw [decide_eq_false c]at hg;obtain⟨l,cy,hle,ew⟩:=QU hE pd hl heE (v0:=v0) (v1:=v1) (v2:=v2) (v3:=v3) (v9:=v9') (v5:=some (K13.oM L)) (v6:=some (.owd (kI kn)));have hr2:=hr.add one cy heE c;have hkl:=TN _ _ hr.nd hr.sub;obtain⟨v9'',em⟩:=PH (kn:=kn) (l:=l) (v0:=v0) (v1:=v1) (v2:=v2) (v3:=v3) (v4:=some (.owd (kvI (E.zip d)))) (v5:=some (K13.oM L)) (v7:=some (.sh (.int e))) (v8:=some (.sh (dI l))) (v9:=v9') hr2.nd (by lia)
   have sl:=qO l;have l1:L.length<rG:=by show _<16777216;lia
   have ea:(L.map λl=>AV.sh (dI l))++[.sh (dI l)]=(L++[l]).map λl=>.sh (dI l):=by rw[mBq];rfl
   refine⟨[v0,v1,v2,v3,some (.owd (kvI (E.zip d))),some (K13.oM (L++[l])),some (.owd (kI (kn++l))),some (.sh (.int e)),some (.sh (dI l)),v9''],?_,kn++l,L++[l],_,_,_,rfl,hr2,by rw[lAq,lSq];lia,λj x hj hx=>?_⟩
   .unfold K13.oM at ew em ⊢;simp -implicitDefEqProofs only [Z.U1,fb,fc,dZ,ee,df,↓reduceIte,reduceCtorEq,dI]at em
    simp_arith [tD,hg,ew,sl,dI,em,l1]
    simp -implicitDefEqProofs only [Z.U1,fb,fc,dZ,ee,df,↓reduceIte,reduceCtorEq,dI]at ea
    first|rw[ea]|simp
   .rcases fk.mp hj with q|rfl
    .exact mAq.mpr (.inl (hall j x q hx))
    .rw [he]at hx;cases hx;exact mAq.mpr (.inr cy.self))
 obtain⟨S',e,kn,L,v7,v8,v9',rfl,hr,hL,hall⟩:=key;rw[lMq]at hL;refine⟨L,_,_,_,_,e,hr.orb λx hx=>?_,hL⟩
 obtain⟨j,hj⟩:=aH.mp hx;exact hall j x (by rw[lMq];exact(gSq.mp hj).1) hj
end
theorem KR{nm:List Int}(hn:nm.length<=30) {v0 v1 v3:Option AV}:∃v3',su 3 uU (nm.map D.int) [v0,v1,some (.ow []),v3,none,none,none,none,none,none]=some (.nx [v0,v1,some (aI (pm nm)),v3',none,none,none,none,none,none]):=by
 have key:=vF (x:=3) (body:=uU) (λi S=>∃v3',S=[v0,v1,some (aI (pm (nm.take i))),v3',none,none,none,none,none,none]) (ds:=nm.map D.int) (S:=[v0,v1,some (.ow []),v3,none,none,none,none,none,none]) ⟨v3,rfl⟩ (by
  rintro i d S hd ⟨v3',rfl⟩;rw[gMq]at hd;obtain⟨x,hx,rfl⟩:=oMq.mp hd;have l3:(pm (nm.take i)).length+2<=rG:=by rw[pm_len,lTq];show _<=16777216;lia
  have ap:(pm (nm.take i)).map (λn=>AV.sh (.int n))++[.sh (.int x),.sh (.int (-x))]=(pm (nm.take (i+1))).map λn=>.sh (.int n):=by rw[qE hx,JM,mBq];rfl
  refine⟨_,?_,some (.sh (.int x)),rfl⟩
  simp_arith [uU,l3,ap])
 obtain⟨S',e,v3',rfl⟩:=key;rw[lMq,bw]at e;exact⟨v3',e⟩
structure Mt (T:List (List Int)):Prop where
 nd:T.flatten.Nodup
 ng:∀z∈T.flatten, -z∈T.flatten
 nz:∀z∈T.flatten,z≠0
 le:T.flatten.length<=60
 lt:T.length<=64
 ne:∀r∈T,r≠[]
theorem IP(c:Int) {nm:List Int}(hn:nm.length<=30) (nd:nm.Nodup) (lo:∀z∈nm,1<=z):∃T,wV [.int c,dI nm]=some (K13.oM T)/\Mt T/\T.flatten.Perm (pm nm):=by
 have nE:(pm nm).Nodup:=K12.CC nd lo;have gE:∀z∈pm nm, -z∈pm nm:=λz hz=>Ak hz
 have lE:(pm nm).length<=60:=by rw[pm_len];lia
 have zE:∀z∈pm nm,z≠0:=λz hz q=>by
  obtain⟨y,hy,c⟩:=cw.mp hz;have:=lo y hy;simp at c;lia
 obtain⟨v3,e0⟩:=KR hn (v0:=some (.sh (.int c))) (v1:=some (.sh (dI nm))) (v3:=none);generalize pm nm=E at nE gE lE zE e0;obtain⟨d,ed,pd⟩:=NS c (l:=E) lE;have dzE:=RH nE pd.length_eq.symm;have dzo:=LA (ns:=E) (ms:=d) pd.length_eq.symm;rw[dzE]at dzo;obtain⟨L,v6,v7,v8,v9,e1,o,lL⟩:=NK nE pd lE (v0:=some (.sh (.int c))) (v1:=some (.sh (dI nm))) (v2:=some (.sh (dI E))) (v3:=v3);have pL:L.flatten.Perm E:=(cP o.dj nE).mpr o.all;refine⟨L,?_,⟨o.dj,λz hz=>pL.mem_iff.mpr (gE z (pL.mem_iff.mp hz)),λz hz=>zE z (pL.mem_iff.mp hz),by rw[pL.length_eq];exact lE,by lia,λr hr e=>by obtain⟨z,c⟩:=o.cy r hr;have:=c.len;rw[e]at this;simp at this⟩,pL⟩
 have sE:=qO E;have sd:=qO d;unfold K13.oM at e1 ⊢;simp -implicitDefEqProofs only [Z.U1,fb,fc,dZ,ee,df,↓reduceIte,reduceCtorEq,dI]at e0 e1 ed
 simp_arith [wV,Bl,dI,e0,XH,sE,ed,sd,dzo,e1]
end K44
namespace K48
open PySem L2 Mr Z Zl
open K41 (ab Ey)
open K45 (md uL)
section
variable {T:List (List Int)}{f:Int->Int}{U:List Int}
theorem M4{L:List (Nat×Nat)}(h:(L.map (·.1)).Nodup) {k l:Nat}(m:(k,l)∈L):Z.getD (lk L) (aG (k:Int))=some (.int (l:Int)):=by
 induction L with
 |nil=>cases m
 |cons q L ih =>
  rw[ao,aA]at h;have e:lk (q::L)=((aG (q.1:Int):oS),D.int (q.2:Int))::lk L:=rfl;rw[e];unfold Z.getD
  by_cases c:q.1=k
  .have:(k,l)=q:=by
    rcases ag.mp m with z|z
    .exact z
    .exact absurd (mMq.mpr ⟨(k,l),z,c.symm⟩) h.1
   rw[dB (by simp[c])]
   rw[←this];rfl
  .rw [cO (by simp;intro z;exact c (by lia))]
   rcases ag.mp m with z|z
   .exact absurd (by rw[←z]) c
   .exact ih h.2 z
theorem V9(hU:U.Nodup) (h:Int->Int):dz U (U.map h)=md U h:=by
 rw[K44.RH hU (by rw[lMq])]
 unfold K16.kvI K45.md;have:∀l:List Int,l.zip (l.map h)=l.map λx=>(x,h x):=λl=>by
  induction l with
  |nil=>rfl
  |cons x l ih=>rw[ao,fu,ih];rfl
 rw[this,mPq];rfl
theorem Ia(old new:Int):qL sJ (Jj (oV (pG 0) (oV (kSc (Wb (vT (pW HB (BJ (oz 3) (oz 0)) (oz 2))) (oz 1) (BJ (oz 3) (oz 0)))) qj))) [some (.sh (.int new)),some (.sh (.int old)),some (.sh (.fd (md U f)))] (U.map D.int)=some ((U.map λz=>[z,if f z=old then new else f z]).map λr=>.sh (.tup (r.map .int))):=by
 rw[Z.si λd=>match d with|.int z=>.sh (.tup [.int z,.int (if f z=old then new else f z)])|_=>.sh .non]
 .rw [mPq,mPq];rfl
 .intro d hd;obtain⟨z,hz,rfl⟩:=mMq.mp hd;have g:=uL (f:=f) hz;refine⟨[some (.sh (.int z)),some (.sh (.int new)),some (.sh (.int old)),some (.sh (.fd (md U f)))],?_⟩
  by_cases c:f z=old
  .have d1:decide (f z=old)=true:=decide_eq_true c
   simp_arith [ES,EY,g,d1,c]
  .have d1:decide (f z=old)=false:=decide_eq_false c
   simp_arith [ES,EY,g,d1,c]
end
section
variable {T:List (List Int)}{f:Int->Int}{U:List Int}
def qs(T:List (List Int)) (U:List Int) (f:Int->Int) (q:Nat) (r:List Int) (L:List (Nat×Nat)) (v5 v7 v8 v9 v10 v11 v12:Option AV):AS:=[some (.sh (dM T)),some (.sh (.dict (pB 0 T))),some (.owd (md U f)),some (.sh (.int (q:Int))),some (.sh (dI r)),v5,some (.owd (lk L)),v7,v8,v9,v10,v11,v12]
def Nu(T:List (List Int)) (q:Nat) (f:Int->Int) (e g:Int) (b:Bool):Int->Int:=if plc T (-e)≠q/\plc T (-g)≠q/\b=true then λz=>if f z=f (ab g) then f (ab e) else f z else f
theorem Ko(hm:Mp T) (hU:U.Nodup) (lU:U.length<=1000) {q:Nat}{r:List Int}(hr:T[q]?=some r) (aU:∀x∈T.flatten,ab x∈U) {L:List (Nat×Nat)}(lb:UZ T q L) {e g:Int}(he:e∈r) (hg:g∈r) {v5 v9 v10 v11 v12:Option AV} :
  ∃b w9 w10,sS (qs T U f q r L v5 (some (.sh (.int e))) (some (.sh (.int g))) v9 v10 v11 v12)=some (.nx (qs T U (Nu T q f e g b) q r L v5 (some (.sh (.int e))) (some (.sh (.int g))) w9 w10 v11 v12))/\(plc T (-e)≠q->plc T (-g)≠q->(b=true↔Gp (T.eraseIdx q) e g)):=by
 have inT:∀{x:Int},x∈r->x∈T.flatten:=λ{x} hx=>mFq.mpr ⟨r,mGq hr,hx⟩
 have ke:=hm.kv (hm.hneg e (inT he));have kg:=hm.kv (hm.hneg g (inT hg));have de:=K41.AZ (plc T (-e)) q;have dg:=K41.AZ (plc T (-g)) q
 by_cases c1:plc T (-e)=q
 .rw [decide_eq_true c1]at de;refine⟨false,v9,v10,?_,λn=>absurd c1 n⟩
  have em:Nu T q f e g false=f:=pD λz=>z.1 c1
  rw[em]
  simp_arith [sS,qs,ke,de]
 .rw [decide_eq_false c1]at de
  by_cases c2:plc T (-g)=q
  .rw [decide_eq_true c2]at dg;refine⟨false,v9,v10,?_,λ_ n=>absurd c2 n⟩
   have em:Nu T q f e g false=f:=pD λz=>z.2.1 c2
   rw[em]
   simp_arith [sS,qs,ke,de,kg,dg]
  .rw [decide_eq_false c2]at dg;obtain⟨l,hl⟩:=lb.all _ (hm.lt (hm.hneg e (inT he))) c1;obtain⟨l',hl'⟩:=lb.all _ (hm.lt (hm.hneg g (inT hg))) c2;have gl:=M4 lb.nd hl;have gl':=M4 lb.nd hl';have gp:=lb.gp hm hr he hg c1 c2 hl hl';have ll:(((l:Nat):Int)=(l':Int))↔l=l':=by lia
   by_cases c3:l=l'
   .have d3:decide (((l:Nat):Int)=(l':Int))=true:=decide_eq_true (ll.mpr c3);have ge:=uL (f:=f) (aU e (inT he));have gg:=uL (f:=f) (aU g (inT hg));have mc:=Ia (U:=U) (f:=f) (f (ab g)) (f (ab e));have lU':(U.length<=rG)=True:=eq_true (rO (by lia))
    have sm:((U.map λz=>[z,if f z=f (ab g) then f (ab e) else f z]).map λr=>AV.sh (.tup (r.map .int))).map oK=(U.map λz=>[z,if f z=f (ab g) then f (ab e) else f z]).map λr=>.tup (r.map .int):=by rw[mPq];exact mCq λr _=>sr _
    have ti:=B2 (U.map λz=>[z,if f z=f (ab g) then f (ab e) else f z])
    have h2:(∀r∈U.map (λz=>[z,if f z=f (ab g) then f (ab e) else f z]),r.length=2)=True:=eq_true λr hr=>by
     obtain⟨z,_,rfl⟩:=mMq.mp hr;rfl
    have g0:(U.map λz=>[z,if f z=f (ab g) then f (ab e) else f z]).map (·.getD 0 0)=U:=by rw[mPq];exact jR _
    have g1:(U.map λz=>[z,if f z=f (ab g) then f (ab e) else f z]).map (·.getD 1 0)=U.map λz=>if f z=f (ab g) then f (ab e) else f z:=by rw[mPq];rfl
    have dm:=V9 hU λz=>if f z=f (ab g) then f (ab e) else f z
    have em:Nu T q f e g true=λz=>if f z=f (ab g) then f (ab e) else f z:=pe ⟨c1,c2,rfl⟩
    have kk:(md U f).map (λp=>kD p.1)=U.map D.int:=by unfold K45.md;rw[mPq];rfl
    refine⟨true,some (.sh (.int (f (ab g)))),some (.sh (.int (f (ab e)))),?_,λ_ _=>⟨λ_=>gp.mp c3,λ_=>rfl⟩⟩
    rw[em];generalize (U.map λz=>[z,if f z=f (ab g) then f (ab e) else f z])=W at mc sm ti h2 g0 g1
    simp_arith [sS,qs,ke,de,kg,dg,gl,gl',d3,Ey,ge,gg,VX,vO,kk,lU',mc,Xg,sm,ti,h2,g0,g1,dm]
   .have d3:decide (((l:Nat):Int)=(l':Int))=false:=decide_eq_false λz=>c3 (ll.mp z)
    refine⟨false,v9,v10,?_,λ_ _=>⟨λz=>(by cases z),λz=>absurd (gp.mpr z) c3⟩⟩
    have em:Nu T q f e g false=f:=pD λz=>by cases z.2.2
    rw[em]
    simp_arith [sS,qs,ke,de,kg,dg,gl,gl',d3]
end
section
variable {T:List (List Int)}{f:Int->Int}{U:List Int}
theorem GX{q:Nat}{e g:Int}{b:Bool}{z z':Int}(h:f z=f z'):Nu T q f e g b z=Nu T q f e g b z':=by
 unfold Nu;split
 .dsimp only;rw[h]
 .exact h
theorem KM(hm:Mp T) (hU:U.Nodup) (lU:U.length<=1000) {q:Nat}{r:List Int}(hr:T[q]?=some r) (aU:∀x∈T.flatten,ab x∈U) {L:List (Nat×Nat)}(lb:UZ T q L) {e:Int}(he:e∈r) (fl:Fl T f) {v5 v8 v9 v10 v11 v12:Option AV} :
  ∃f' w8 w9 w10,uK (qs T U f q r L v5 (some (.sh (.int e))) v8 v9 v10 v11 v12)=some (.nx (qs T U f' q r L v5 (some (.sh (.int e))) w8 w9 w10 v11 v12))/\Fl T f'/\(∀z z',f z=f z'->f' z=f' z')/\∀g∈r,plc T (-e)≠q->plc T (-g)≠q->Gp (T.eraseIdx q) e g->f' (ab e)=f' (ab g):=by
 have key:=vF (x:=8) (body:=sS) (λi S=>∃f' w8 w9 w10,S=qs T U f' q r L v5 (some (.sh (.int e))) w8 w9 w10 v11 v12/\Fl T f'/\(∀z z',f z=f z'->f' z=f' z')/\∀g∈r.take i,plc T (-e)≠q->plc T (-g)≠q->Gp (T.eraseIdx q) e g->f' (ab e)=f' (ab g)) (ds:=r.map D.int) (S:=qs T U f q r L v5 (some (.sh (.int e))) v8 v9 v10 v11 v12) ⟨f,v8,v9,v10,rfl,fl,λ_ _ h=>h,λg hg=>by simp at hg⟩ (by
  rintro i d S hd ⟨f',w8,w9,w10,rfl,fl',mo,cm⟩;rw[gMq]at hd;obtain⟨g,hg,rfl⟩:=oMq.mp hd;have gr:=mGq hg;obtain⟨b,u9,u10,eb,ib⟩:=Ko (f:=f') hm hU lU hr aU lb he gr (v5:=v5) (v9:=w9) (v10:=w10) (v11:=v11) (v12:=v12);refine⟨_,eb,Nu T q f' e g b,some (.sh (.int g)),u9,u10,rfl,?_,λz z' h=>GX (mo z z' h),λg' hg' n1 n2 gp=>?_⟩
  .unfold Nu;split
   .rename_i c;exact NA fl' hr he gr ((ib c.1 c.2.1).mp c.2.2)
   .exact fl'
  .rw [qE hg]at hg';rcases mAq.mp hg' with m|m
   .exact GX (cm g' m n1 n2 gp)
   .rw [mSq.mp m]at n2 gp ⊢;have bt:=(ib n1 n2).mpr gp;unfold Nu;rw[pe ⟨n1,n2,bt⟩];simp)
 obtain⟨S',ew,f',w8,w9,w10,rfl,fl',mo,cm⟩:=key;rw[lMq,bw]at cm;refine⟨f',w8,w9,w10,?_,fl',mo,cm⟩;unfold qs at ew ⊢;unfold dI at ew ⊢
 simp_arith [uK,ew]
theorem Li(hm:Mp T) (hU:U.Nodup) (lU:U.length<=1000) {q:Nat}{r:List Int}(hr:T[q]?=some r) (aU:∀x∈T.flatten,ab x∈U) {L:List (Nat×Nat)}(lb:UZ T q L) (fl:Fl T f) {v5 v7 v8 v9 v10 v11 v12:Option AV} :
  ∃f' w7 w8 w9 w10,su 7 uK (r.map D.int) (qs T U f q r L v5 v7 v8 v9 v10 v11 v12)=some (.nx (qs T U f' q r L v5 w7 w8 w9 w10 v11 v12))/\Fl T f'/\(∀z z',f z=f z'->f' z=f' z')/\∀e∈r,∀g∈r,plc T (-e)≠q->plc T (-g)≠q->Gp (T.eraseIdx q) e g->f' (ab e)=f' (ab g):=by
 have key:=vF (x:=7) (body:=uK) (λi S=>∃f' w7 w8 w9 w10,S=qs T U f' q r L v5 w7 w8 w9 w10 v11 v12/\Fl T f'/\(∀z z',f z=f z'->f' z=f' z')/\∀e∈r.take i,∀g∈r,plc T (-e)≠q->plc T (-g)≠q->Gp (T.eraseIdx q) e g->f' (ab e)=f' (ab g)) (ds:=r.map D.int) (S:=qs T U f q r L v5 v7 v8 v9 v10 v11 v12) ⟨f,v7,v8,v9,v10,rfl,fl,λ_ _ h=>h,λg hg=>by simp at hg⟩ (by
  rintro i d S hd ⟨f',w7,w8,w9,w10,rfl,fl',mo,cm⟩;rw[gMq]at hd;obtain⟨e,he,rfl⟩:=oMq.mp hd;obtain⟨f2,u8,u9,u10,eb,fl2,mo2,cm2⟩:=KM (f:=f') hm hU lU hr aU lb (mGq he) fl' (v5:=v5) (v8:=w8) (v9:=w9) (v10:=w10) (v11:=v11) (v12:=v12);refine⟨_,eb,f2,some (.sh (.int e)),u8,u9,u10,rfl,fl2,λz z' h=>mo2 z z' (mo z z' h),λe' he' g hg n1 n2 gp=>?_⟩
  rw[qE he]at he';rcases mAq.mp he' with m|m
  .exact mo2 _ _ (cm e' m g hg n1 n2 gp)
  .rw [mSq.mp m]at n1 gp ⊢;exact cm2 g hg n1 n2 gp)
 obtain⟨S',ew,f',w7,w8,w9,w10,rfl,fl',mo,cm⟩:=key;rw[lMq,bw]at cm;exact⟨f',w7,w8,w9,w10,ew,fl',mo,cm⟩
end
section
variable {T:List (List Int)}{f:Int->Int}{U:List Int}
theorem MB(hm:Mp T) (hU:U.Nodup) (lU:U.length<=1000) {q:Nat}{r:List Int}(hr:T[q]?=some r) (aU:∀x∈T.flatten,ab x∈U) (fl:Fl T f) {a1:AV}(h1:a1 = .owd (pB 0 T)∨a1 = .sh (.dict (pB 0 T))) {v5 v6 v7 v8 v9 v10 v11 v12:Option AV} :
  ∃f' L w7 w8 w9 w10,tN [some (.sh (dM T)),some a1,some (.owd (md U f)),some (.sh (.int (q:Int))),some (.sh (dI r)),v5,v6,v7,v8,v9,v10,v11,v12]=some (.nx (qs T U f' q r L v5 w7 w8 w9 w10 v11 v12))/\Fl T f'/\(∀z z',f z=f z'->f' z=f' z')/\∀e∈r,∀g∈r,plc T (-e)≠q->plc T (-g)≠q->Gp (T.eraseIdx q) e g->f' (ab e)=f' (ab g):=by
 obtain⟨L,eL,lb⟩:=P7 hm q;obtain⟨f',w7,w8,w9,w10,ep,fl',mo,cm⟩:=Li (f:=f) hm hU lU hr aU lb fl (v5:=v5) (v7:=v7) (v8:=v8) (v9:=v9) (v10:=v10) (v11:=v11) (v12:=v12);refine⟨f',L,w7,w8,w9,w10,?_,fl',mo,cm⟩;unfold qs at ep ⊢;unfold dI at ep ⊢;rcases h1 with rfl|rfl
 .simp_arith [tN,eL,ep]
 .simp_arith [tN,eL,ep]
end
section
variable {T:List (List Int)}{f:Int->Int}{U:List Int}
def qt(T:List (List Int)) (U:List Int) (f:Int->Int) (a1:AV) (v3 v4 v5 v6 v7 v8 v9 v10 v11 v12:Option AV):AS:=[some (.sh (dM T)),some a1,some (.owd (md U f)),v3,v4,v5,v6,v7,v8,v9,v10,v11,v12]
theorem KO(hm:Mp T) (hU:U.Nodup) (lU:U.length<=1000) (aU:∀x∈T.flatten,ab x∈U) (fl:Fl T f) {v3 v4 v5 v6 v7 v8 v9 v10 v11 v12:Option AV} :
  ∃f' a1 w3 w4 w6 w7 w8 w9 w10,zf 3 4 tN 0 (T.map dI) (qt T U f (.owd (pB 0 T)) v3 v4 v5 v6 v7 v8 v9 v10 v11 v12)=some (.nx (qt T U f' a1 w3 w4 v5 w6 w7 w8 w9 w10 v11 v12))/\Fl T f'/\∀(q:Nat) (r:List Int),T[q]?=some r->∀e∈r,∀g∈r,plc T (-e)≠q->plc T (-g)≠q->Gp (T.eraseIdx q) e g->f' (ab e)=f' (ab g):=by
 have key:=J3 (x:=3) (y:=4) (body:=tN) (λi S=>∃f' a1 w3 w4 w6 w7 w8 w9 w10,S=qt T U f' a1 w3 w4 v5 w6 w7 w8 w9 w10 v11 v12/\(a1 = .owd (pB 0 T)∨a1 = .sh (.dict (pB 0 T)))/\Fl T f'/\∀(q:Nat) (r:List Int),q<i->T[q]?=some r->∀e∈r,∀g∈r,plc T (-e)≠q->plc T (-g)≠q->Gp (T.eraseIdx q) e g->f' (ab e)=f' (ab g)) (ds:=T.map dI) (S:=qt T U f (.owd (pB 0 T)) v3 v4 v5 v6 v7 v8 v9 v10 v11 v12) (k:=0) ⟨f,_,v3,v4,v6,v7,v8,v9,v10,rfl,.inl rfl,fl,λq r h=>absurd h (cK _)⟩ (by
  rintro i d S hd ⟨f',a1,w3,w4,w6,w7,w8,w9,w10,rfl,h1,fl',cm⟩;rw[gMq]at hd;obtain⟨r,hr,rfl⟩:=oMq.mp hd;obtain⟨f2,L,u7,u8,u9,u10,eb,fl2,mo,c2⟩:=MB (f:=f') hm hU lU hr aU fl' h1 (v5:=v5) (v6:=w6) (v7:=w7) (v8:=w8) (v9:=w9) (v10:=w10) (v11:=v11) (v12:=v12);rw[bF]at cm ⊢;refine⟨_,eb,f2,_,_,_,_,u7,u8,u9,u10,rfl,.inr rfl,fl2,λq' r' lt hr' e he g hg n1 n2 gp=>?_⟩
  rcases fk.mp lt with z|z
  .exact mo _ _ (cm q' r' z hr' e he g hg n1 n2 gp)
  .subst z;rw[hr]at hr';obtain rfl:=aJ.inj hr';exact c2 e he g hg n1 n2 gp)
 obtain⟨S',ew,f',a1,w3,w4,w6,w7,w8,w9,w10,rfl,h1,fl',cm⟩:=key;refine⟨f',a1,w3,w4,w6,w7,w8,w9,w10,ew,fl',λq r hr=>cm q r ?_ hr⟩
 rw[bF,lMq];exact(gSq.mp hr).1
end
end K48
namespace K48
open PySem L2 Mr Z Zl
open K41 (ab Ey)
open K45 (md uL Se)
section
variable {T:List (List Int)}{f:Int->Int}{U:List Int}
def qf(T:List (List Int)) (kv:List (oS×D)) (U:List Int) (v3 v4 v5:Option AV):AS:=[some (.sh (dM T)),some (.owd kv),some (.owd (md U λy=>y)),v3,v4,v5,none,none,none,none,none,none,none]
theorem Pi(hn:T.flatten.Nodup) (hl:T.flatten.length<=1000):∃v3 v4 v5,zf 3 4 wa 0 (T.map dI) (qf T [] [] none none none)=some (.nx (qf T (pB 0 T) (Ms.dd (T.flatten.map ab)) v3 v4 v5)):=by
 have key:=J3 (x:=3) (y:=4) (k:=0) (body:=wa) (λi S=>∃v3 v4 v5,S=qf T (pB 0 (T.take i)) (Ms.dd ((T.take i).flatten.map ab)) v3 v4 v5) (ds:=T.map dI) (S:=qf T [] [] none none none) ⟨none,none,none,rfl⟩ (by
  rintro i d S hd ⟨v3,v4,v5,rfl⟩;rw[bF];obtain⟨r,hr,rfl⟩:=FJ hd;have hfl:=uZ hr;have hle:=vL T (i+1);have hi:i<T.length:=(gSq.mp hr).1;have hnd:((T.take i).flatten++r).Nodup:=by
   rw[←hfl];have e0:T.flatten=(T.take (i+1)).flatten++(T.drop (i+1)).flatten:=by rw[←fAq,aM]
   rw[e0]at hn;exact(nAq.mp hn).1
  rw[hfl,lAq]at hle;have k2:=vF (x:=5) (body:=yc) (λj S=>∃v5,S=qf T (pB 0 (T.take i)++sH i (r.take j)) (Ms.dd (((T.take i).flatten++r.take j).map ab)) (some (.sh (.int i))) (some (.sh (dI r))) v5) (ds:=r.map D.int) (S:=qf T (pB 0 (T.take i)) (Ms.dd ((T.take i).flatten.map ab)) (some (.sh (.int i))) (some (.sh (dI r))) v5) ⟨v5,by rw[fI,aNq];simp[sH]⟩ (by
   rintro j d S hd ⟨v5,rfl⟩;obtain⟨z,hz,rfl⟩:=Fv hd;have hj:j<r.length:=(gSq.mp hz).1;have h3:(pB 0 (T.take i)++sH i (r.take j)).length<rG:=tW (by
    rw[lAq,CF];unfold sH;rw[lMq,lTq];lia)
   have hput:wK (pB 0 (T.take i)++sH i (r.take j)) (.inl z) (.int (i:Int))=pB 0 (T.take i)++sH i (r.take (j+1)):=by
    rw[AK]
    .unfold sH;rw[qE hz,mBq,aq];rfl
    .rw [mBq,wM];intro m;have e1:r.take (j+1)=r.take j++[z]:=qE hz;rcases mAq.mp m with m|m
     .obtain ⟨x,hx,e2⟩:=mMq.mp m;cases e2;exact(nAq.mp hnd).2.2 _ hx _ (mGq hz) rfl
     .unfold sH at m;rw[mPq]at m;obtain⟨x,hx,e2⟩:=mMq.mp m;cases e2;have:=cg.sublist (bK (j+1) r) (nAq.mp hnd).2.1;rw[e1]at this;exact(nAq.mp this).2.2 _ hx _ (by simp) rfl
   have e2:Ms.dd (((T.take i).flatten++r.take (j+1)).map ab)=Ms.xE (Ms.dd (((T.take i).flatten++r.take j).map ab)) (ab z):=by
    rw[qE hz,←aq,mBq,List.map_singleton,Ms.Ke]
   have ll:=Ms.Ai (((T.take i).flatten++r.take j).map ab);rw[lMq,lAq,lTq]at ll;refine⟨qf T (pB 0 (T.take i)++sH i (r.take (j+1))) (Ms.dd (((T.take i).flatten++r.take (j+1)).map ab)) (some (.sh (.int i))) (some (.sh (dI r))) (some (.sh (.int z))),?_,_,rfl⟩;rw[e2];generalize Ms.dd (((T.take i).flatten++r.take j).map ab)=U at ll;have lU:(md U λy=>y).length<rG:=aN (show (md U λy=>y).length<2000 by unfold md;rw[lMq];lia) (by decide)
   have mi:=Se U (ab z)
   simp_arith [yc,qf,Ey,h3,hput,lU,mi])
  obtain⟨S2,e2,w5,rfl⟩:=k2;rw[lMq,bw]at e2;refine⟨_,?_,some (.sh (.int i)),some (.sh (dI r)),w5,rfl⟩;rw[hfl,qE hr,yS,lTq,dJ (by lia),bF]
  unfold qf at e2 ⊢
  simp_arith [wa,e2,dI])
 obtain⟨S',e,v3,v4,v5,rfl⟩:=key;rw[bF,lMq,bw]at e;exact⟨v3,v4,v5,e⟩
end
end K48
namespace K48
open PySem L2 Mr Z Zl
open K41 (ab Ey)
open K45 (md uL)
section
variable {T:List (List Int)}{f:Int->Int}{U:List Int}
theorem HU{r:List Int}(aU:∀x∈r,ab x∈U):qL sJ (kSc (tZ (oz 1) (xv zU (oI (oz 0) pA)))) [some (.sh (.dict (md U f)))] (r.map D.int)=some ((r.map λe=>f (ab e)).map λn=>.sh (.int n)):=by
 rw[Z.si λd=>match d with|.int z=>.sh (.int (f (ab z)))|_=>.sh .non]
 .rw [mPq,mPq];rfl
 .intro d hd;obtain⟨z,hz,rfl⟩:=mMq.mp hd;have g:=uL (f:=f) (aU z hz);refine⟨[some (.sh (.int z)),some (.sh (.dict (md U f)))],?_⟩
  simp_arith [Ey,g]
theorem Kj{r:List Int}{n:Int}(aU:∀x∈r,ab x∈U):qL (vT (pW HB (tZ (oz 2) (xv zU (oI (oz 0) pA))) (oz 1))) (pG 0) [some (.sh (.int n)),some (.sh (.dict (md U f)))] (r.map D.int)=some ((r.filter λe=>decide (f (ab e)=n)).map λe=>.sh (.int e)):=by
 rw[Z.vJ (λd=>match d with|.int z=>decide (f (ab z)=n)|_=>false) (λd=>.sh d)]
 .rw [gu,mPq];rfl
 .intro d hd;obtain⟨z,hz,rfl⟩:=mMq.mp hd;have g:=uL (f:=f) (aU z hz);refine⟨[some (.sh (.int z)),some (.sh (.int n)),some (.sh (.dict (md U f)))],?_,λ_=>⟨[some (.sh (.int z)),some (.sh (.int n)),some (.sh (.dict (md U f)))],?_⟩⟩
  .simp_arith [Ey,g]
  .simp_arith []
def qu(T:List (List Int)) (a1 a2:AV) (v3 v4 v5 v6 v7 v8 v9 v10:Option AV) (acc:List (List Int)) (v12:Option AV):AS:=[some (.sh (dM T)),some a1,some a2,v3,v4,v5,v6,v7,v8,v9,v10,some (.ow (acc.map aI)),v12]
theorem NO{r:List Int}(aU:∀x∈r,ab x∈U) (lr:r.length<=1000) {acc:List (List Int)}(la:acc.length<=1000) {n:Int}{a1:AV}{v3 v5 v6 v7 v8 v9 v10:Option AV} :
  we (qu T a1 (.sh (.dict (md U f))) v3 (some (.sh (dI r))) v5 v6 v7 v8 v9 v10 acc (some (.sh (.int n))))=some (.nx (qu T a1 (.sh (.dict (md U f))) v3 (some (.sh (dI r))) v5 v6 v7 v8 v9 v10 (acc++[r.filter λe=>decide (f (ab e)=n)]) (some (.sh (.int n))))):=by
 have pc:=Kj (f:=f) (n:=n) aU;have l1:r.length<=rG:=bA (tW (by lia))
 have l2:acc.length<rG:=tW (by lia)
 simp_arith [we,qu,dI,pc,l1,l2,mBq,ao,bX]
theorem OC{r:List Int}(aU:∀x∈r,ab x∈U) (lr:r.length<=400) {acc:List (List Int)}(la:acc.length<=400) {a1 a2:AV}(h2:a2 = .owd (md U f)∨a2 = .sh (.dict (md U f))) {v3 v5 v6 v7 v8 v9 v10 v12:Option AV} :
  ∃w12,rV (qu T a1 a2 v3 (some (.sh (dI r))) v5 v6 v7 v8 v9 v10 acc v12)=some (.nx (qu T a1 (.sh (.dict (md U f))) v3 (some (.sh (dI r))) v5 v6 v7 v8 v9 v10 (acc++rF f r) w12)):=by
 have nc:=HU (f:=f) aU;have l1:r.length<=rG:=bA (tW (by lia))
 have l4:r.length<=4000:=by lia
 have lN:(qz (Ms.dd (r.map λe=>f (ab e)))).length<=r.length:=by
  have:=Ms.Ai (r.map λe=>f (ab e))
  rw[lMq]at this;rw[(pK _).length_eq];lia
 generalize hN:qz (Ms.dd (r.map λe=>f (ab e)))=N at lN
 have key:=vF (x:=12) (body:=we) (λi S=>∃w12,S=qu T a1 (.sh (.dict (md U f))) v3 (some (.sh (dI r))) v5 v6 v7 v8 v9 v10 (acc++(N.take i).map λn=>r.filter λe=>decide (f (ab e)=n)) w12) (ds:=N.map D.int) (S:=qu T a1 (.sh (.dict (md U f))) v3 (some (.sh (dI r))) v5 v6 v7 v8 v9 v10 acc v12) ⟨v12,by rw[fI,bX,aNq]⟩ (by
  rintro i d S hd ⟨w12,rfl⟩;obtain⟨n,hn,rfl⟩:=Fv hd;have hi:=(gSq.mp hn).1;refine⟨_,NO (T:=T) (f:=f) (n:=n) aU (by lia) (acc:=acc++(N.take i).map λn=>r.filter λe=>decide (f (ab e)=n)) (by rw[lAq,lMq,lTq];lia),some (.sh (.int n)),?_⟩
  rw[qE hn,mBq,aq];rfl)
 obtain⟨S',ew,w12,rfl⟩:=key;rw[lMq,bw]at ew;refine⟨w12,?_⟩;have deq:DE (D.list (r.map D.int)) (D.list [])=some (.bl (decide (r=[]))):=Us r []
 by_cases c:r=[]
 .have n0:N=[]:=List.eq_nil_of_length_eq_zero (by rw[c]at lN;simpa using lN)
  have l2:acc.length<rG:=tW (by lia)
  have e1:rF f r=[[]]:=by unfold rF;rw[pe c]
  have dc:decide (r=[])=true:=decide_eq_true c;rw[n0,bX,bX,aNq]at ew;rw[n0]at hN;rw[e1];unfold qu at ew ⊢;unfold dI at ew ⊢;rcases h2 with rfl|rfl
  .simp_arith [rV,EM,nc,hN,l1,l4,l2,dc,deq,ew,mBq,ao,bX]
   rfl
  .simp_arith [rV,EM,nc,hN,l1,l4,l2,dc,deq,ew,mBq,ao,bX]
   rfl
 .have e1:rF f r=N.map λn=>r.filter λe=>decide (f (ab e)=n):=by unfold rF;rw[pD c,hN]
  rw[e1];have dc:decide (r=[])=false:=decide_eq_false c;unfold qu at ew ⊢;unfold dI at ew ⊢;rcases h2 with rfl|rfl
  .simp_arith [rV,EM,nc,hN,l1,l4,dc,deq,ew]
  .simp_arith [rV,EM,nc,hN,l1,l4,dc,deq,ew]
end
section
variable {T:List (List Int)}{f:Int->Int}{U:List Int}
theorem K9(r:List Int):(rF f r).length<=r.length+1:=by
 unfold rF;split
 .simp
 .rw [lMq,(pK _).length_eq];have:=Ms.Ai (r.map λe=>f (ab e))
  rw[lMq]at this;lia
theorem BK:∀L:List (List Int),(L.flatMap (rF f)).length<=L.flatten.length+L.length
 | []=>by simp
 |r::L=>by
  have h:=BK L;have h2:=K9 (f:=f) r;rw[dO,lAq,fCq,lAq,lCq];lia
theorem RF(aU:∀x∈T.flatten,ab x∈U) (lf:T.flatten.length<=200) (lT:T.length<=200) {a1:AV}{v3 v4 v5 v6 v7 v8 v9 v10 v12:Option AV} :
  ∃a2 w4 w12,su 4 rV (T.map dI) (qu T a1 (.owd (md U f)) v3 v4 v5 v6 v7 v8 v9 v10 [] v12)=some (.nx (qu T a1 a2 v3 w4 v5 v6 v7 v8 v9 v10 (T.flatMap (rF f)) w12)):=by
 have key:=vF (x:=4) (body:=rV) (λi S=>∃a2 w4 w12,(a2 = .owd (md U f)∨a2 = .sh (.dict (md U f)))/\S=qu T a1 a2 v3 w4 v5 v6 v7 v8 v9 v10 ((T.take i).flatMap (rF f)) w12) (ds:=T.map dI) (S:=qu T a1 (.owd (md U f)) v3 v4 v5 v6 v7 v8 v9 v10 [] v12) ⟨_,v4,v12,.inl rfl,rfl⟩ (by
  rintro i d S hd ⟨a2,w4,w12,h2,rfl⟩;obtain⟨r,hr,rfl⟩:=FJ hd;have hfl:=uZ hr;have hle:=vL T (i+1);rw[hfl,lAq]at hle;have ra:=BK (f:=f) (T.take i);rw[lTq]at ra;obtain⟨u12,e⟩:=OC (T:=T) (f:=f) (r:=r) (λx hx=>aU x (mFq.mpr ⟨r,mGq hr,hx⟩)) (by lia) (acc:=(T.take i).flatMap (rF f)) (by lia) (a1:=a1) h2 (v3:=v3) (v5:=v5) (v6:=v6) (v7:=v7) (v8:=v8) (v9:=v9) (v10:=v10) (v12:=w12)
  refine⟨_,e,_,some (.sh (dI r)),u12,.inr rfl,?_⟩;rw[qE hr,ff,dO,List.flatMap_nil,aNq])
 obtain⟨S',e,a2,w4,w12,_,rfl⟩:=key;rw[lMq,bw]at e;exact⟨a2,w4,w12,e⟩
end
section
variable {T:List (List Int)}{f:Int->Int}{U:List Int}
theorem XB(x:Int):ab (-x)=ab x:=by unfold ab;split <;> split <;> lia
theorem De(hm:Mp T) {q:Nat}{r:List Int}(hr:T[q]?=some r) {e g:Int}(he:e∈r) (hq:plc T (-e)=q) (gp:Gp (T.eraseIdx q) e g):ab e=ab g:=by
 have ne:=hm.other hr he;obtain⟨r',h1,h2⟩:=hm.at ne;have c:Cl (T.eraseIdx q) λa=>a=e∨a = -e:=⟨λt ht a ha b _ s=>by
  obtain⟨j,nj,hj⟩:=bS.mp ht;have pj:=plc_eq hm.hn hj ha;rcases s with z|z
  .rw [z,plc_eq hm.hn hr he]at pj;exact absurd pj.symm nj
  .rw [z,hq]at pj;exact absurd pj.symm nj,λa s=>by
  rcases s with z|z
  .exact .inr (by rw[z])
  .exact .inl (by rw[z,bJ])⟩
 rcases gp _ c (.inl rfl) with z|z
 .rw [z]
 .rw [z,XB]
theorem OH(hm:Mp T) (lf:T.flatten.length<=200) (lT:T.length<=200):∃f,zH [dM T]=some (.ow ((T.flatMap (rF f)).map aI))/\rB T ((T.flatMap (rF f)).map Mr.good):=by
 obtain⟨v3,v4,v5,e1⟩:=Pi hm.hn hm.hl;have aU:∀x∈T.flatten,ab x∈Ms.dd (T.flatten.map ab):=λx hx=>Ms.Br.mpr (mMq.mpr ⟨x,hx,rfl⟩)
 have nU:(Ms.dd (T.flatten.map ab)).Nodup:=Ms.Hr _;have lU:(Ms.dd (T.flatten.map ab)).length<=1000:=by
  have:=Ms.Ai (T.flatten.map ab);rw[lMq]at this;lia
 generalize Ms.dd (T.flatten.map ab)=U at e1 aU nU lU;obtain⟨f,a1,w3,w4,w6,w7,w8,w9,w10,e2,fl,cm⟩:=KO hm nU lU aU Wn (v3:=v3) (v4:=v4) (v5:=v5) (v6:=none) (v7:=none) (v8:=none) (v9:=none) (v10:=none) (v11:=none) (v12:=none);obtain⟨a2,u4,u12,e3⟩:=RF (f:=f) aU lf lT (a1:=a1) (v3:=w3) (v4:=w4) (v5:=v5) (v6:=w6) (v7:=w7) (v8:=w8) (v9:=w9) (v10:=w10) (v12:=none);refine⟨f,?_,Qw hm λp r hr x hx y hy=>⟨λh=>fl x (mFq.mpr ⟨r,mGq hr,hx⟩) y (mFq.mpr ⟨r,mGq hr,hy⟩) h p,λgp=>?_⟩⟩
 .unfold qf at e1;unfold qt at e2;unfold qu at e3;unfold dM at e1 e2 e3 ⊢;have m0:md [] (λy=>y)=[]:=rfl
  rw[m0]at e1;rw[bX]at e3
  simp_arith [zH,Cu,e1,e2,e3]
 .by_cases c1:plc T (-x)=p
  .rw [De hm hr hx c1 gp]
  .by_cases c2:plc T (-y)=p
   .rw [De hm hr hy c2 gp.symm]
   .exact cm p r hr x hx y hy c1 c2 gp
end
theorem Bc:∀{T:List (List Int)},(∀r∈T,r≠[])->T.length<=T.flatten.length
 | [],_=>ai _
 |r::T,h=>by
  have i:=Bc (T:=T) λz hz=>h z (mCo _ hz)
  have p:=cz.mpr (h r aj);rw[fCq,lAq,lCq];lia
theorem K6(k:Nat):qL sJ (uG qj) [] (pZ 0 k)=some (aK k (.ow [])):=by
 rw[Z.si (λ_=>.ow [])]
 .rw [List.map_const',qd]
 .intro d hd;refine⟨[some (.sh d)],?_⟩
  simp_arith []
theorem Uq(ns:List Int):∃M G:List (List Int),Ck [.scr ns]=some (.sh (.tup [dM (qY (M.map good)),dM (qY (G.map good))]))/\Mp M/\M.flatten.length<=30/\M.count []<=10/\(∀z∈M.flatten,z≠0)/\rB M (G.map good):=by
 have em:∀(i:Int) (n:Nat),0<n->n<=25->∃k:Nat,k<n/\ue (.int i) (.int (n:Int))=some (.int (k:Int)):=λi n hn hn2=>by
  have p0:0<=i % (n:Int):=aR _ (by lia)
  have p1:i % (n:Int)<n:=aO _ (by lia)
  refine⟨(i % (n:Int)).toNat,by lia,?_⟩
  rw[iY p0];exact rK (by lia)
 obtain⟨n,hn,en⟩:=em (cell ns 0) 16 (by decide) (by decide)
 obtain⟨b,hb,eb⟩:=em (cell ns 0 / 16) 4 (by decide) (by decide)
 have en:ue (.int (cell ns 0)) (.int 16)=some (.int (n:Int)):=en;have eb:ue (.int (cell ns 0 / 16)) (.int 4)=some (.int (b:Int)):=eb;have d16:=uv (i:=cell ns 0) (j:=16) (by decide) (by decide)
 obtain⟨nm,g1,ln,nd,lo⟩:=K44.TC (cell ns 1) (n:=n) (by lia)
 obtain⟨T,a1,mt,pT⟩:=K44.IP (cell ns 2) (nm:=nm) (by lia) nd lo
 have lT:T.flatten.length<=30:=by
  rw[pT.length_eq,K16.pm_len];lia
 have lT2:=Bc mt.ne;have fR:(T++aK b ([]:List Int)).flatten=T.flatten:=by
  rw[fAq,show (aK b ([]:List Int)).flatten=[] by rw[List.flatten_replicate_nil],aNq]
 have lM:(T++aK b ([]:List Int)).length<=40:=by rw[lAq,eJ];lia
 have hm:Mp (T++aK b []):=⟨by rw[fR];exact mt.nd,by rw[fR];lia,by lia,by rw[fR];exact mt.ng⟩
 obtain⟨f,e1,fi⟩:=OH hm (by rw[fR];lia) (by lia)
 refine⟨_,_,?_,hm,by rw[fR];exact lT,by rw[cAq,List.count_replicate_self,cF.mpr λq=>mt.ne [] q rfl];lia,by rw[fR];exact mt.nz,fi⟩
 have i1:=sF (rs:=T++aK b []) (λr hr=>by
  have:=cD.length_le (aD hr);rw[fR]at this;lia) (bA (tW (by lia)))
 have lA:=BK (f:=f) (T++aK b []);have i2:=sF (rs:=(T++aK b []).flatMap (rF f)) (λr hr=>by
  obtain⟨t,ht,hz⟩:=cw.mp hr;obtain⟨m,rfl⟩:=Bn hz;have h1:=dF (λe=>decide (f (ab e)=m)) t
  have:=cD.length_le (aD ht);rw[fR]at this;lia) (bA (tW (by rw[fR]at lA;lia)))
 have bk:=K6 b;have rk:=vS (n:=b) (by lia)
 have lk:(pZ 0 b).length<=rG:=by rw[qd];exact rO (by lia)
 have s1:=qO nm;have sB:(aK b (AV.ow [])).map oK=(aK b ([]:List Int)).map dI:=by rw[jf,jf];rfl
 have sT:(T.map λr=>AV.sh (dI r)).map oK=T.map dI:=Jy T
 have ct1:T.map dI++(aK b ([]:List Int)).map dI=(T++aK b []).map dI:=by rw[mBq]
 have l1:(T.length+b<=rG)=True:=eq_true (rO (by lia))
 have sG:=uj ((T++aK b []).flatMap (rF f));have sg1:=uj (qY ((T++aK b []).map good));have sg2:=uj (qY (((T++aK b []).flatMap (rF f)).map good));have oM:K13.oM T = .ow (T.map λr=>AV.sh (dI r)):=rfl
 rw[oM]at a1;generalize qY ((T++aK b []).map good)=M at i1 sg1 ⊢;generalize qY (((T++aK b []).flatMap (rF f)).map good)=N at i2 sg2 ⊢;generalize (T++aK b []).flatMap (rF f)=G at e1 i2 sG;unfold dM at i1 i2 e1 ⊢
 simp_arith [Ck,Gq,NM,LZ,Na,en,eb,d16,g1,a1,bk,rk,lk,s1,sB,sT,ct1,l1,eJ,e1,sG,i1,i2,sg1,sg2]
theorem LO{N:List Int}{m:Nat}(h2:2<=m) (h4:m<=4) (hN:m<=N.length):((bq m).map (Lx N m)).flatten.Perm ((N.take m).flatMap λx=>[x, -x]):=by
 rcases (by lia:m=2∨m=3∨m=4) with rfl|rfl|rfl
 .match N,hN with
  |a::b::N,_ =>
   show [a, -b,b, -a].Perm [a, -a,b, -b];refine dv.mpr λz=>?_
   simp only[iB,iM]
   ac_rfl
 .match N,hN with
  |a::b::c::N,_ =>
   show [a, -c,b, -a,c, -b].Perm [a, -a,b, -b,c, -c];refine dv.mpr λz=>?_
   simp only[iB,iM]
   ac_rfl
 .match N,hN with
  |a::b::c::d::N,_ =>
   show [a, -d,b, -a,c, -b,d, -c].Perm [a, -a,b, -b,c, -c,d, -d];refine dv.mpr λz=>?_
   simp only[iB,iM]
   ac_rfl
theorem Qy{N:List Int}{m k:Nat}(h:k<m):((bq m).map (Lx N m)).getD k []=Lx N m k:=by
 rw[gDq,gMq,gD h];rfl
theorem Ra{N:List Int}{m e a b:Nat}{A:List (List Int)}(h2:2<=m) (hN:N.length=m+e) (ha:a<m) (hb:b<m) (ab:a≠b) (h:Ch N m a b e A):Pt A N:=by
 have hl:=h.len;have gd:∀{k:Nat}{r:List Int},A[k]?=some r->A.getD k []=r:=λ{k r} hk=>by rw[gDq,hk];rfl
 have ex:∀{k:Nat},k<m->∃r,A[k]?=some r:=λ{k} hk=>⟨_,gEg (by lia)⟩
 have inR:∀{k:Nat}{r:List Int}{y:Int},A[k]?=some r->(y∈r↔y∈Lx N m k∨(k=a/\y∈(N.drop m).take e)∨(k=b/\-y∈(N.drop m).take e)):=λ{k r y} hk=>by
  have:=h.mem k y;rw[gd hk,Qy (by have:=(gSq.mp hk).1;lia)]at this
  exact this
 have h1:∀k r,A[k]?=some r->N.getD k 0∈r:=λk r hk=>(inR hk).mpr (.inl (aj ..))
 have nx:∀k,k<m->(k+1) % m<m/\(k+1) % m≠k/\Kc m ((k+1) % m)=k:=λk hk=>by
  by_cases c:k+1=m
  .rw [c,Nat.mod_self];unfold Kc;rw[pe rfl];lia
  .rw [eV (by lia)]
   unfold Kc;rw[pD (by lia)]
   lia
 have h2':∀k r,k<A.length->A[(k+1) % A.length]?=some r->-(N.getD k 0)∈r:=λk r hk hr=>by
  rw[hl]at hk hr;refine(inR hr).mpr (.inl ?_);have:=(nx k hk).2.2;unfold Lx;rw[this];exact mCo _ (mSq.mpr rfl)
 have h3:∀(p:Nat) r,A[p]?=some r->∀x∈r,∃j r',j≠p/\A[j]?=some r'/\-x∈r':=λp r hp x hx=>by
  have hpm:p<m:=by have:=(gSq.mp hp).1;lia
  rcases (inR hp).mp hx with q|⟨q,w⟩|⟨q,w⟩
  .unfold Lx at q;rcases ag.mp q with q|q
   .obtain ⟨n1,n2,n3⟩:=nx p hpm;obtain⟨r',hr'⟩:=ex n1;exact⟨_,r',n2,hr',by rw[q];exact h2' p r' (by lia) (by rw[hl];exact hr')⟩
   .have q:=mSq.mp q;have pl:Kc m p<m/\Kc m p≠p:=by unfold Kc;split <;> lia
    obtain⟨r',hr'⟩:=ex pl.1;exact⟨_,r',pl.2,hr',by rw[q,bJ];exact h1 _ _ hr'⟩
  .obtain ⟨r',hr'⟩:=ex hb;exact⟨b,r',by lia,hr',(inR hr').mpr (.inr (.inr ⟨rfl,by rw[bJ];exact w⟩))⟩
  .obtain ⟨r',hr'⟩:=ex ha;exact⟨a,r',by lia,hr',(inR hr').mpr (.inr (.inl ⟨rfl,w⟩))⟩
 refine⟨?_,λr hr=>?_,λe=>by rw[e]at hl;exact absurd hl (by simp;lia),λp r hp=>MZ h1 h2' h3 hp⟩
 .have:=h.fl
  rwa [←hN,bw]at this
 .obtain ⟨k,hk⟩:=aH.mp hr;exact bU (h1 k r hk)
def xP(c:Int):Nat:=if c % 4<2 then 1 else 2+(c / 4 % 3).toNat+(c / 12 % 3).toNat
theorem Qt(c:Int):yQ [.int c]=some (.sh (.int (xP c:Int))):=by
 have m4:=rK (i:=c) (j:=4) (by decide)
 have d4:=uv (i:=c) (j:=4) (by decide) (by decide)
 have d12:=uv (i:=c) (j:=12) (by decide) (by decide)
 have m3:=λi:Int=>rK (i:=i) (j:=3) (by decide)
 have a0:=aR (c / 4) (b:=3) (by decide)
 have b0:=aR (c / 12) (b:=3) (by decide)
 by_cases h:c % 4<2
 .have e:(xP c:Int)=1:=by unfold xP;rw[pe h];rfl
  simp_arith [yQ,BG,m4,h,e]
 .have e:(xP c:Int)=2+c / 4 % 3+c / 12 % 3:=by unfold xP;rw[pD h];lia
  simp_arith [yQ,BG,m4,h,e,d4,d12,m3]
theorem QM{c:Int}{N:List Int}(hN:N.length=xP c):∃A,xU [.int c,dI N]=some (.ow (A.map aI))/\Pt A N:=by
 have m4:=rK (i:=c) (j:=4) (by decide)
 have q0:=aR c (b:=4) (by decide)
 unfold xP at hN
 by_cases h0:c % 4=0
 .rw [pe (by lia)]at hN
  obtain⟨x,rfl⟩:=iC.mp hN;have at1:atI [D.int x] 0=some (.int x):=rfl;have k0:decide (c % 4=0)=true:=decide_eq_true h0;refine⟨[[x],[-x]],?_,.refl _,by simp,by simp,λp r hp=>?_⟩
  .simp_arith [xU,zF,m4,k0,dI,at1]
   rfl
  .match p,hp with
   |0,hp=>cases hp;simpa using Gp.refl _ _
   |1,hp=>cases hp;simpa using Gp.refl _ _
 .have k0:decide (c % 4=0)=false:=decide_eq_false h0
  by_cases h1:c % 4=1
  .rw [pe (by lia)]at hN
   obtain⟨x,rfl⟩:=iC.mp hN;have at1:atI [D.int x] 0=some (.int x):=rfl;have k1:decide (c % 4=1)=true:=decide_eq_true h1;refine⟨[[x, -x]],?_,.refl _,by simp,by simp,λp r hp=>?_⟩
   .simp_arith [xU,zF,m4,k0,k1,dI,at1]
    rfl
   .match p,hp with
    |0,hp =>
     cases hp;have g:Gp [] x (-x):=λS c s=>c.neg _ s
     intro y hy z hz;simp only[ag,dX,or_false]at hy hz;show Gp [] y z;rcases hy with rfl|rfl <;> rcases hz with rfl|rfl
     .exact Gp.refl _ _
     .exact g
     .exact g.symm
     .exact Gp.refl _ _
  .have k1:decide (c % 4=1)=false:=decide_eq_false h1;rw[pD (by lia)]at hN
   have d4:=uv (i:=c) (j:=4) (by decide) (by decide)
   have d12:=uv (i:=c) (j:=12) (by decide) (by decide)
   have m3:=rK (i:=c / 4) (j:=3) (by decide)
   have m3':=rK (i:=c / 12) (j:=3) (by decide)
   have a0:=aR (c / 4) (b:=3) (by decide)
   have a1:=aO (c / 4) (b:=3) (by decide)
   have b0:=aR (c / 12) (b:=3) (by decide)
   have b1:=aO (c / 12) (b:=3) (by decide)
   obtain⟨m,hm⟩:∃m:Nat,2+c / 4 % 3=(m:Int):=⟨(2+c / 4 % 3).toNat,by lia⟩
   obtain⟨e,he⟩:∃e:Nat,c / 12 % 3=(e:Int):=⟨(c / 12 % 3).toNat,by lia⟩
   have hN:N.length=m+e:=by lia
   have h2:2<=m:=by lia
   have h4:m<=4:=by lia
   rw[he]at m3';have r1:=vS (n:=m) (by lia)
   have r2:=vS (n:=e) (by lia)
   obtain⟨v,e1⟩:=V3 (c:=c) (N:=N) (m:=m) (by lia) h4 (by lia)
   have x0:=aR (c / 36) (b:=(m:Int)) (by lia)
   have x1:=aO (c / 36) (b:=(m:Int)) (by lia)
   obtain⟨a,ha⟩:∃a:Nat,c / 36 % (m:Int)=(a:Int):=⟨(c / 36 % (m:Int)).toNat,by lia⟩
   have y0:=aR ((a:Int)+1+c / 144 % ((m:Int)-1)) (b:=(m:Int)) (by lia)
   have y1:=aO ((a:Int)+1+c / 144 % ((m:Int)-1)) (b:=(m:Int)) (by lia)
   obtain⟨b,hb⟩:∃b:Nat,((a:Int)+1+c / 144 % ((m:Int)-1)) % (m:Int)=(b:Int):=⟨(((a:Int)+1+c / 144 % ((m:Int)-1)) % (m:Int)).toNat,by lia⟩
   have ab:a≠b:=λq=>by
    have w0:=aR (c / 144) (b:=(m:Int)-1) (by lia)
    have w1:=aO (c / 144) (b:=(m:Int)-1) (by lia)
    generalize c / 144 % ((m:Int)-1)=w at hb w0 w1
    by_cases z:(a:Int)+1+w<m
    .rw [ji (by lia) z]at hb;lia
    .have:((a:Int)+1+w) % (m:Int)=(a:Int)+1+w-m:=by
      rw[←Int.sub_emod_right,ji (by lia) (by lia)]
     lia
   have key:=vF (x:=4) (body:=wR) (λi S=>∃T v4 v5 v6 v7,S=[some (.sh (.int c)),some (.sh (dI N)),some (.sh (.int (m:Int))),some (.ow (T.map aI)),v4,v5,v6,v7]/\Ch N m a b i T) (ds:=pZ 0 e) (S:=[some (.sh (.int c)),some (.sh (dI N)),some (.sh (.int (m:Int))),some (.ow (((bq m).map (Lx N m)).map aI)),v,none,none,none]) ⟨_,_,_,_,_,rfl,by simp,LO h2 h4 (by lia),λk y=>by simp⟩ (by
    rintro i d S hd ⟨T,v4,v5,v6,v7,rfl,hT⟩;have hi:=(gSq.mp hd).1;rw[qd]at hi;rw[Z.Ap hi,aJ.injEq]at hd;subst hd;rw[gB];obtain⟨T',eT,hT'⟩:=IH h2 h4 (by lia) (by lia) ha hb hT (v5:=v5) (v6:=v6) (v7:=v7)
    exact⟨_,eT,T',_,_,_,_,rfl,hT'⟩)
   obtain⟨S',e2,A,v4,v5,v6,v7,rfl,hA⟩:=key;rw[qd]at hA;refine⟨A,?_,Ra h2 hN (by lia) (by lia) ab hA⟩
   unfold dI at e1 e2 ⊢
   simp_arith [xU,zF,m4,k0,k1,d4,m3,hm,e1,r1,d12,m3',r2,e2]
end K48
namespace K48
open PySem L2 Mr Z Zl
open K16 (pm pm_len Ak)
theorem KU{T A1:List (List Int)}{p:Nat}{h a0:List Int}(g:Nat) (hp:T[p]?=some h):(T.set p (h.take g++a0++h.drop g)++A1).flatten.Perm (T++a0::A1).flatten:=by
 have hl:=(gSq.mp hp).1;have e:(T.set p (h.take g++a0++h.drop g))[p]?=some (h.take g++a0++h.drop g):=aZ hl;have p2:=uP e;rw[iR]at p2;have p1:=uP hp;rw[fAq,fAq,fCq,←aq];refine aW.append_right _ (p2.flatten.trans ?_);refine .trans ?_ (p1.flatten.append_right _).symm;rw[fCq,fCq];have pr:(h.take g++a0++h.drop g).Perm (h++a0):=by
  conv=>rhs;rw[←aM g h]
  rw[aq,aq];exact aW.append_left _ bb
 refine(pr.append_right _).trans ?_;rw[aq,aq];exact aW.append_left _ bb
theorem FM(a b:List Int):pm (a++b)=pm a++pm b:=ff
structure Gl (N:List Int) (u:Nat) (T P:List (List Int)):Prop where
 le:u<=N.length
 fl:T.flatten.Perm (pm (N.take u))
 pf:P.flatten.Perm (pm (N.take u))
 pn:∀r∈P,r≠[]
 st:(T=[[]]/\P=[])∨((∀r∈T,r≠[])/\T≠[]/\P≠[]/\rB T (P.map good))
section
variable {N cs:List Int}{u:Nat}{T P:List (List Int)}{TV PV:List AV}
theorem Gl.tl(h:Gl N u T P):T.flatten.length<=2*N.length/\T.length<=2*N.length+1/\P.length<=2*N.length/\P.flatten.length<=2*N.length/\T≠[]:=by
 have a:=h.fl.length_eq;have b:=h.pf.length_eq;rw[pm_len,lTq]at a b;have c:=Bc h.pn;rcases h.st with ⟨rfl,rfl⟩|⟨q,w,_⟩
 .simp
 .have:=Bc q;exact⟨by lia,by lia,by lia,by lia,w⟩
theorem Qz{A1:List (List Int)}{a0 h:List Int}{p k:Nat}(g:Nat) (hn:(pm N).Nodup) (hG:Gl N u T P) (hk:u+k<=N.length) (hA:Pt (a0::A1) ((N.drop u).take k)) (hp:T[p]?=some h):Gl N (u+k) (T.set p (h.take g++a0++h.drop g)++A1) (P++a0::A1):=by
 have tk:N.take (u+k)=N.take u++(N.drop u).take k:=List.take_add;have fA:(a0::A1).flatten.Perm (pm ((N.drop u).take k)):=hA.fl;have fTA:(T++a0::A1).flatten.Perm (pm (N.take (u+k))):=by
  rw[tk,FM,fAq];exact hG.fl.append fA
 have hn2:(T++a0::A1).flatten.Nodup:=fTA.nodup_iff.mpr (by
  have:pm N=pm (N.take (u+k))++pm (N.drop (u+k)):=by rw[←FM,aM]
  rw[this]at hn;exact(nAq.mp hn).1)
 have hn3:=hn2;rw[fAq]at hn3;have nA:=(nAq.mp hn3).2.1;have fin:=hA.fine nA;have ane:=hA.ne a0 aj;refine⟨hk,(KU g hp).trans fTA,?_,λr hr=>?_,.inr ?_⟩
 .rw [tk,FM,fAq];exact hG.pf.append fA
 .rcases mAq.mp hr with e|e
  .exact hG.pn r e
  .exact hA.ne r e
 .rcases hG.st with ⟨rfl,rfl⟩|⟨q1,q2,q3,q4⟩
  .have p0:p=0:=by have:=(gSq.mp hp).1;simpa using this
   subst p0;cases hp;have e:([[]]:List (List Int)).set 0 (([]:List Int).take g++a0++([]:List Int).drop g)++A1=a0::A1:=by simp
   rw[e];exact⟨hA.ne,hA.nn,by simp,by simpa using fin⟩
  .refine ⟨λr hr=>?_,λe=>?_,by simp,?_⟩
   .rcases mAq.mp hr with e|e
    .rcases gR e with e|e
     .exact q1 r e
     .rw [e];simp[ane]
    .exact hA.ne r (mCo _ e)
   .have:=congrArg bD e;rw[lAq,lZq,dh]at this;have:=cz.mpr q2;lia
   .rw [mBq];refine W4 g hp (q1 h (mGq hp)) ane hn2 (λx hx=>?_) (λx hx=>?_) q4 fin
    .exact hG.fl.mem_iff.mpr (Ak (hG.fl.mem_iff.mp hx))
    .exact fA.mem_iff.mpr (Ak (fA.mem_iff.mp hx))
theorem Lz(A:List (List Int)):qL sJ (B5 (uI 0)) [] (A.map dI)=some (A.map aI):=by
 rw[Z.si (λd=>match d with|.list ds=>.ow (ds.map .sh)|_=>.sh .non)]
 .rw [mPq];congr 1;refine mCq λr _=>?_
  show AV.ow ((r.map D.int).map .sh)=AV.ow (r.map _);rw[mPq];rfl
 .intro d hd;obtain⟨r,_,rfl⟩:=mMq.mp hd;refine⟨[some (.sh (dI r))],?_⟩;unfold dI
  simp_arith []
def gst(cs N:List Int) (TV PV:List AV) (u:Nat) (v5 v6 v7 v8 v9 v10:Option AV):AS:=[some (.sh (dI cs)),some (.sh (dI N)),some (.ow TV),some (.ow PV),some (aI (N.drop u)),v5,v6,v7,v8,v9,v10]
theorem II(hn:(pm N).Nodup) (h12:N.length<=12) (h:Gl N u T P) (sT:TV.map oK=T.map dI) (sP:PV.map oK=P.map dI) (c:Int) {v6 v7 v8 v9 v10:Option AV} :
  ∃T' P' TV' PV' u' v6' v7' v8' v9' v10',vd (gst cs N TV PV u (some (.sh (.int c))) v6 v7 v8 v9 v10)=some (.nx (gst cs N TV' PV' u' (some (.sh (.int c))) v6' v7' v8' v9' v10'))/\Gl N u' T' P'/\TV'.map oK=T'.map dI/\PV'.map oK=P'.map dI:=by
 have nd:=Qt c;have sL:=qO (N.drop u);obtain⟨b1,b2,b3,b4,b5⟩:=h.tl
 by_cases hk:u+xP c<=N.length
 .have k1:decide ((xP c:Int)<=((N.drop u).length:Int))=true:=decide_eq_true (by rw[aL];lia)
  have lk:((N.drop u).take (xP c)).length=xP c:=by rw[lTq,aL];lia
  obtain⟨A,eA,hA⟩:=QM lk;obtain⟨a0,A1,rfl⟩:=List.exists_cons_of_ne_nil hA.nn;have ct:xi (N.drop u) none (some (xP c:Int))=(N.drop u).take (xP c):=Cb _ _ (by rw[aL];lia)
  have cf:xi (N.drop u) (some (xP c:Int)) none=N.drop (u+xP c):=by rw[xJ _ _ (by rw[aL];lia),jF]
  have lA:(a0::A1).length<=24:=by
   have:=Bc hA.ne;have q:=hA.fl.length_eq;have q2:=pm_len ((N.drop u).take (xP c));unfold K16.pm at q2;lia
  rw[lCq]at lA;have Tl:0<T.length:=cz.mpr b5;have tvl:TV.length=T.length:=by have:=congrArg bD sT;simpa using this
  have pvl:PV.length=P.length:=by have:=congrArg bD sP;simpa using this
  have d8:=uv (i:=c) (j:=8) (by decide) (by decide)
  have m8:=rK (i:=c / 8) (j:=(T.length:Int)) (by lia)
  have x0:=aR (c / 8) (b:=(T.length:Int)) (by lia)
  have x1:=aO (c / 8) (b:=(T.length:Int)) (by lia)
  obtain⟨p,hp⟩:∃p:Nat,c / 8 % (T.length:Int)=(p:Int):=⟨(c / 8 % (T.length:Int)).toNat,by lia⟩
  rw[hp]at m8;have hr:=gEg (show p<T.length by lia)
  generalize T[p]'(by lia)=r at hr
  have rl:=cD.length_le (aD (mGq hr));have at1:atI (T.map dI) (p:Int)=some (dI r):=tO (by rw[gMq,hr];rfl)
  have d24:=uv (i:=c) (j:=24) (by decide) (by decide)
  have m24:=rK (i:=c / 24) (j:=(r.length:Int)+1) (by lia)
  have z0:=aR (c / 24) (b:=(r.length:Int)+1) (by lia)
  have z1:=aO (c / 24) (b:=(r.length:Int)+1) (by lia)
  obtain⟨g,hg⟩:∃g:Nat,c / 24 % ((r.length:Int)+1)=(g:Int):=⟨(c / 24 % ((r.length:Int)+1)).toNat,by lia⟩
  rw[hg]at m24;have cg1:xi r none (some (g:Int))=r.take g:=Cb _ _ (by lia)
  have cg2:xi r (some (g:Int)) none=r.drop g:=xJ _ _ (by lia)
  have ap:dI a0 = .list (a0.map D.int):=rfl;have at0:atI (dI a0::A1.map dI) 0=some (.list (a0.map D.int)):=tO (j:=0) rfl;have c1:xi (dI a0::A1.map dI) (some 1) none=A1.map dI:=by
   have:=xJ (dI a0::A1.map dI) 1 (by simp)
   exact this
  have al:a0.length<=24:=by
   have q:=hA.fl.length_eq;have q2:=pm_len ((N.drop u).take (xP c));unfold K16.pm at q2;rw[fCq,lAq]at q;lia
  have cc:=Lz A1;have G:=Qz g hn h hk hA hr;refine⟨_,_,((T.map dI).set p (dI (r.take g++a0++r.drop g))).map AV.sh++(A1.map dI).map .sh,PV++((a0::A1).map dI).map .sh,_,some (.sh (.int (xP c:Int))),some (.ow (((a0::A1).map dI).map .sh)),some (.sh (.int (p:Int))),some (.sh (dI r)),some (.sh (.int (g:Int))),?_,G,?_,?_⟩
  .have ix:Eb T.length (p:Int)=some p:=E5 (by lia)
   have l1:(PV.length+(A1.length+1)<=rG)=True:=eq_true (rO (by lia))
   have l2:(A1.length<=rG)=True:=eq_true (rO (by lia))
   have l3:(T.length+A1.length<=rG)=True:=eq_true (rO (by lia))
   have sA:=uj (a0::A1);have sA1:=uj A1;have lX:(A1.map dI).length=A1.length:=lMq ..;have sAa:=qO a0;have sR:∀l:List Int,oK (.sh (.list (l.map D.int))) = .list (l.map D.int):=λl=>rfl
   have l5:((r.take g).length+a0.length<=rG)=True:=eq_true (rO (by rw[lTq];lia))
   have l6:((r.take g).length+a0.length+(r.drop g).length<=rG)=True:=eq_true (rO (by rw[lTq,aL];lia))
   have mp:(r.take g).map D.int++a0.map D.int++(r.drop g).map D.int=(r.take g++a0++r.drop g).map D.int:=by rw[mBq,mBq]
   unfold gst;rw[ao]at eA ⊢;have e0:((dI a0::A1.map dI).map AV.sh) = .sh (dI a0)::(A1.map dI).map .sh:=rfl;rw[e0];generalize A1.map dI=X at at0 c1 cc sA1 lX ⊢;generalize A1.map aI=XA at eA cc sA1;have lY:(T.map dI).length=T.length:=lMq ..;generalize T.map dI=Y at sT at1 lY ⊢;unfold dI at eA at1 at0 c1 sL sAa ⊢
   simp_arith [vd,nd,sL,k1,Z.xT,ct,cf,eA,sAa,sP,sT,d8,m8,tvl,at1,d24,m24,cg1,cg2,at0,c1,cc,ix,lX,lY,l1,l2,l3,sA1,l5,l6,mp,lAq,lZq]
  .rw [mBq,AD,AD,←jS (f:=dI),←mBq]
  .rw [mBq,AD,sP,←mBq]
 .have k1:decide ((xP c:Int)<=((N.drop u).length:Int))=false:=decide_eq_false (by rw[aL];have:=h.le;lia)
  refine⟨T,P,TV,PV,u,some (.sh (.int (xP c:Int))),v7,v8,v9,v10,?_,h,sT,sP⟩
  simp_arith [gst,vd,nd,sL,dI,k1]
end
end K48
namespace K48
open PySem L2 Mr Z Zl
open K41 (ab Ey IZ)
open K45 (Lk UR Au)
section
variable {M G:List (List Int)}{p:Nat}{r:List Int}{g:Nat->List (List Int)}
def J5(M:List (List Int)) (p:Nat) (r:List Int) (X:List (List Int)):List (List Int):=(M.take p++(qY X).map (Dw r))++M.drop (p+1)
theorem yV(M:List (List Int)) (p:Nat) (r:List Int) (X:List (List Int)):(X.map (Dw r)++M.eraseIdx p).Perm (J5 M p r X):=by
 unfold J5;rw[List.eraseIdx_eq_take_drop_succ];refine(aW.append_right _ ((rm X).symm.map (Dw r))).trans ?_;rw[←aq];exact aW.append_right _ bb
theorem CI(h:Ok M) (k:Gs M g) (hr:M[p]?=some r) (c:r≠[]):(J5 M p r (g p)).flatten.Perm M.flatten:=by
 refine(sW (yV M p r (g p))).symm.trans ?_;rw[fAq];refine(aW.append_right _ (k.cls h hr c).pm).trans ?_;rw[←fCq];exact(sW (uP hr)).symm
theorem Mc(h:Ok M) (k:Gs M g) (hr:M[p]?=some r) (c:r≠[]):(J5 M p r (g p)).count []=M.count []:=by
 rw[← (yV M p r (g p)).count_eq,(uP hr).count_eq,cAq,bc c,cF.mpr λm=>(k.cls h hr c).ne c [] m rfl,bF]
theorem By:∀L:List (List Int),(L.map Mr.good).count []=L.count []
 | []=>rfl
 |w::L=>by
  by_cases e:w=[]
  .rw [e,ao,AQ,bT,bT,By L]
  .have e':Mr.good w≠[]:=λq=>e (by
    have:=congrArg bD q;rw[xg]at this;exact aS.mp this)
   rw[ao,bc e',bc e,By L]
theorem Jl{W:List (List Int)}(hn:W.flatten.Nodup) (ng:∀e∈W.flatten, -e∈W.flatten) (nz:∀e∈W.flatten,e≠0) (lf:W.flatten.length<=60) (lm:W.count []<=10):Ok (qY (W.map Mr.good)):=by
 have pf:(qY (W.map Mr.good)).flatten.Perm W.flatten:=(sW (rm _)).trans (qX pE W);have pc:(qY (W.map Mr.good)).count []=W.count []:=by rw[(rm _).count_eq,By]
 have ln:=E4 (qY (W.map Mr.good));rw[pf.length_eq,pc]at ln;exact⟨⟨pf.nodup_iff.mpr hn,by rw[pf.length_eq];lia,by lia,λe he=>pf.mem_iff.mpr (ng e (pf.mem_iff.mp he))⟩,λe he=>nz e (pf.mem_iff.mp he),by rw[pf.length_eq];exact lf,by rw[pc];exact lm⟩
theorem step(h:Ok M) (k:Gs M g) (hr:M[p]?=some r) (c:r≠[]) (d:Dr M r) (f:rB M G):Ok (qY ((J5 M p r (g p)).map Mr.good))/\rB (qY ((J5 M p r (g p)).map Mr.good)) G/\dn (qY ((J5 M p r (g p)).map Mr.good))+1=dn M:=by
 have pf:=CI h k hr c;have nW:(J5 M p r (g p)).flatten.Nodup:=pf.nodup_iff.mpr h.mp.hn;have pM:=uP hr;have nr:(r::M.eraseIdx p).flatten.Nodup:=(sW pM).nodup_iff.mp h.mp.hn;have cl:=k.cls h hr c;refine⟨Jl nW (λe he=>pf.mem_iff.mpr (h.mp.hneg e (pf.mem_iff.mp he))) (λe he=>h.nz e (pf.mem_iff.mp he)) (by rw[pf.length_eq];exact h.lf) (by rw[Mc h k hr c];exact h.lm),?_,?_⟩
 .exact (rB.good nW (((f.perm pM).fall nr c cl).perm (yV M p r (g p)))).perm (rm _).symm
 .have hd:Dr (r::M.eraseIdx p) r:=λq=>d λx hx y hy=>by
   have:=q x hx y hy;rw[cG]at this;exact(qQ (Fm hr)).mp this
  rw[ET (rm _),Q6 nW,←ET (yV M p r (g p)),RG nr c cl hd,ET pM]
theorem LC(h:Ok M) (k:Gs M g) (hr:M[p]?=some r) (c:r≠[]):AO [dM M,.int (p:Int)]=some (.ow ((qY ((J5 M p r (g p)).map Mr.good)).map aI)):=by
 have rl:r.length<=M.flatten.length:=K12.QG hr;have hl:=h.lf;have hm:=h.len;have e:=k.run p r hr;have lX:=k.len hr;have at1:atI (M.map dI) (p:Int)=some (dI r):=tO (by rw[gMq,hr];rfl)
 have pf:=CI h k hr c;have lW:(J5 M p r (g p)).length<=300:=by
  rw[← (yV M p r (g p)).length_eq,lAq,lMq];have:=(uP hr).length_eq;rw[lCq]at this;lia
 have ig:=sF (rs:=J5 M p r (g p)) (λt ht=>by
  have:=cD.length_le (aD ht);rw[pf.length_eq]at this;lia) (rO (by lia))
 generalize hX:g p=X at *;have sl:=An X;have lG:(qY X).length<=rG:=rO (by lia)
 have sG:((qY X).map aI).map oK=(qY X).map dI:=by rw[mPq];exact mCq λr _=>qO r
 have gc:qL sJ (qM vh (oV (Qs (uI 1) (oz 2)) (oV (pG 0) qj))) [some (.sh (dM M)),some (.sh (.int (p:Int)))] ((qY X).map dI)=some (((qY X).map (Dw r)).map aI):=by
  rw[Z.si λd=>aI (Dw r (Dj d))]
  .rw [mPq,mPq];exact congrArg some (mCq λy _=>by show aI (Dw r (Dj (dI y)))=_;rw[wO];rfl)
  .intro d hd;obtain⟨y,hy,rfl⟩:=mMq.mp hd;have oo:=QK (t:=r) (y:=y) (by lia)
   refine⟨[some (.sh (dI y)),some (.sh (dM M)),some (.sh (.int (p:Int)))],?_⟩;rw[wO]
   simp_arith [dM,at1,oo]
 have r0:decide (((r.length:Nat):Int)=0)=false:=decide_eq_false λq=>c (aS.mp (by lia))
 have sP:(((qY X).map (Dw r)).map aI).map oK=((qY X).map (Dw r)).map dI:=by rw[mPq];exact mCq λr _=>qO r
 have hp:=(gSq.mp hr).1;have c1:xi (M.map dI) none (some (p:Int))=(M.take p).map dI:=by rw[xT,Cb _ _ (by lia)]
 have c2:xi (M.map dI) (some ((p:Int)+1)) none=(M.drop (p+1)).map dI:=by
  have:((p:Int)+1)=((p+1:Nat):Int):=by lia
  rw[this,xT,xJ _ _ (by lia)]
 have lt:=List.length_take_le p M;have ld:=aL (i:=p+1) (l:=M);have lc:(M.take p).length+(qY X).length<=rG:=rO (by lia)
 have lc2:((M.take p).map dI++((qY X).map (Dw r)).map dI).length+(M.drop (p+1)).length<=rG:=rO (by rw[lAq,lMq,lMq,lMq];lia)
 have ap:(M.take p).map dI++((qY X).map (Dw r)).map dI++(M.drop (p+1)).map dI=((M.take p++(qY X).map (Dw r))++M.drop (p+1)).map dI:=by rw[mBq,mBq]
 unfold J5 at ig ⊢
 simp_arith [AO,DK,dM,at1,dI,r0,e,sG,gc,lG,c1,c2,sP,lc,lc2,ap,ig]
end
theorem OD{M:List (List Int)}{g:Nat->List (List Int)}(h:Ok M) (k:Gs M g) (e:IZ M.length (λi=>qY (g i))=[]):dn M=0:=by
 refine gI.mpr λr hr=>?_
 rw[uV];intro d;obtain⟨p,hp⟩:=aH.mp hr;have hl:=(gSq.mp hp).1;have q:=(k.door h hp).mpr d;unfold K41.IZ at e;have:=List.map_eq_nil_iff.mp e;have m:p∈(bq M.length).filter λk=>decide (2<=(qY (g k)).length):=aw.mpr ⟨cC.mpr hl,by rw[An];exact decide_eq_true q⟩
 rw[this]at m;cases m
theorem JG{G:List (List Int)}{ns:List Int}{v1 v2 v3:Option AV}:∀(l:List Nat) {M:List (List Int)}{a:AV}{v5 v6:Option AV},oK a=dM M->Ok M->qY (M.map Mr.good)=M->rB M G->dn M<=l.length ->
  ∃b w5 w6,su 5 vi (l.map λn:Nat=>D.int (n:Int)) [some (.sh (.scr ns)),v1,v2,v3,some a,v5,v6]=some (.nx [some (.sh (.scr ns)),v1,v2,v3,some b,w5,w6])/\oK b=dM (qY G)
 | [],M,a,v5,v6,ha,h,hg,f,hd=>by
  refine⟨a,v5,v6,rfl,?_⟩;rw[←last h.mp.hn f (by simpa using hd),hg]
  exact ha
 |n::l,M,a,v5,v6,ha,h,hg,f,hd=>by
  obtain⟨g,k⟩:=Vy h;have dr:=doors_ok h k;have hM:=h.len;have sD:=qO (IZ M.length λi=>qY (g i))
  by_cases e:IZ M.length (λi=>qY (g i))=[]
  .have d0:=OD h k e;rw[e]at dr sD;have z0:decide (((0:Nat):Int)=0)=true:=by decide
   refine⟨.sh (dM M),some (.sh (.int (n:Int))),some (aI []),?_,by rw[sr,←last h.mp.hn f d0,hg]⟩
   have bo:vi [some (.sh (.scr ns)),v1,v2,v3,some a,some (.sh (.int (n:Int))),v6]=some (.bk [some (.sh (.scr ns)),v1,v2,v3,some (.sh (dM M)),some (.sh (.int (n:Int))),some (aI [])]):=by
    simp_arith [vi,ha,dr,sD,dI,z0]
   show (vi [some (.sh (.scr ns)),v1,v2,v3,some a,some (.sh (.int (n:Int))),v6]).bind _=_;rw[bo];rfl
  .have dl:=K41.Ry M.length (λi=>qY (g i))
   generalize hD:IZ M.length (λi=>qY (g i))=Ds at *
   have lp:0<Ds.length:=cz.mpr e;have cl:=Cq ns (k:=(n:Int)+2) (by lia)
   generalize cell ns ((n:Int)+2).toNat=c at cl;have m0:=rK (i:=c) (j:=(Ds.length:Int)) (by lia)
   have p0:0<=c % (Ds.length:Int):=aR _ (by lia)
   have p1:c % (Ds.length:Int)<Ds.length:=aO _ (by lia)
   obtain⟨j,hj⟩:∃j:Nat,c % (Ds.length:Int)=(j:Int):=⟨(c % (Ds.length:Int)).toNat,by lia⟩
   have jl:j<Ds.length:=by lia
   have mem:Ds[j]∈IZ M.length (λi=>qY (g i)):=by rw[hD];exact gRq jl
   obtain⟨p,hp,ep⟩:=mMq.mp mem;obtain⟨pr,pd⟩:=aw.mp hp;have pl:=cC.mp pr;have pd:=of_decide_eq_true pd;rw[An]at pd;have hr:=gEg pl;have hne:M[p]≠[]:=λq=>by
    have:=k.len hr;rw[q,dh]at this;lia
   have hdr:=(k.door h hr).mp pd;obtain⟨o',f',d'⟩:=step h k hr hne hdr f;have fo:=LC h k hr hne;have at1:atI (Ds.map D.int) (j:Int)=some (.int (p:Int)):=tO (by rw[gMq,gEg jl,←ep];rfl)
   have nW:(J5 M p M[p] (g p)).flatten.Nodup:=(CI h k hr hne).nodup_iff.mpr h.mp.hn;have gt:=Dq nW;generalize qY ((J5 M p M[p] (g p)).map Mr.good)=M' at o' f' d' fo gt;have hd':dn M'<=l.length:=by
    rw[lCq]at hd;lia
   obtain⟨b,w5,w6,eb,sb⟩:=JG l (M:=M') (a:=.ow (M'.map aI)) (v5:=some (.sh (.int (n:Int)))) (v6:=some (aI Ds)) (by rw[tG,uj]) o' gt f' hd'
   refine⟨b,w5,w6,?_,sb⟩;have z0:decide (((Ds.length:Nat):Int)=0)=false:=decide_eq_false (by lia)
   have bo:vi [some (.sh (.scr ns)),v1,v2,v3,some a,some (.sh (.int (n:Int))),v6]=some (.nx [some (.sh (.scr ns)),v1,v2,v3,some (.ow (M'.map aI)),some (.sh (.int (n:Int))),some (aI Ds)]):=by
    rw[hj]at m0
    simp_arith [vi,ha,dr,sD,dI,z0,cl,m0,at1,fo]
   show (vi [some (.sh (.scr ns)),v1,v2,v3,some a,some (.sh (.int (n:Int))),v6]).bind _=_;rw[bo];exact eb
end K48
namespace K48
open PySem L2 Mr Z Zl
open K16 (pm pm_len Ak)
open K12 (LB)
open K31 (Si OB JF)
section
variable {N cs:List Int}
theorem MN(hn:(pm N).Nodup) (h12:N.length<=12):∃u T P,zu [dI cs,dI N]=some (.sh (.tup [dM T,dM P]))/\Gl N u T P:=by
 have key:=vF (x:=5) (body:=vd) (λi S=>∃T P TV PV u v5 v6 v7 v8 v9 v10,S=gst cs N TV PV u v5 v6 v7 v8 v9 v10/\Gl N u T P/\TV.map oK=T.map dI/\PV.map oK=P.map dI) (ds:=cs.map D.int) (S:=gst cs N [.ow []] [] 0 none none none none none none) ⟨[[]],[],_,_,_,_,_,_,_,_,_,rfl,⟨bg _,.refl _,.refl _,by simp,.inl ⟨rfl,rfl⟩⟩,rfl,rfl⟩ (by
  rintro i e S hd ⟨T,P,TV,PV,u,v5,v6,v7,v8,v9,v10,rfl,h,sT,sP⟩;rw[gMq]at hd;obtain⟨c,hc,rfl⟩:=oMq.mp hd;obtain⟨T',P',TV',PV',u',v6',v7',v8',v9',v10',e,h',sT',sP'⟩:=II (cs:=cs) hn h12 h sT sP c (v6:=v6) (v7:=v7) (v8:=v8) (v9:=v9) (v10:=v10);exact⟨_,e,T',P',TV',PV',u',_,_,_,_,_,_,rfl,h',sT',sP'⟩)
 obtain⟨S',e,T,P,TV,PV,u,v5,v6,v7,v8,v9,v10,rfl,h,sT,sP⟩:=key;refine⟨u,T,P,?_,h⟩;have sN:(N.map D.int).map AV.sh=N.map λn=>.sh (.int n):=by rw[mPq];rfl
 unfold gst aI dI at e;rw[dS]at e;unfold dI dM
 simp_arith [zu,C8,sN,e,sT,sP]
end
theorem Ub{f g:Nat->Int}(h:∀k,f k=g k∨f k = -g k) (l:List Nat):(pm (l.map f)).Perm (pm (l.map g)):=by
 induction l with
 |nil=>exact .refl _
 |cons k l ih =>
  show (f k :: -f k::pm (l.map f)).Perm (g k :: -g k::pm (l.map g));rcases h k with e|e <;> rw[e]
  .exact (ih.cons _).cons _
  .rw [bJ];exact((ih.cons _).cons _).trans (.swap ..)
def UT(st sh a b bits:Int) (k:Nat):Int:=LB st sh a b k*(1-2*(bits / ((k:Int)+1) % 2))
theorem N0{one two bits st sh a b:Int}(h:∀k:Nat,K31.wB [.int one,.int two,.int (k:Int)]=some (.sh (.int (LB st sh a b k)))):qL sJ (kSc (pW Fo (yH K31.wB (oI (oz 1) (oI (oz 2) (oI (oz 0) pA)))) (pW IM (rC (.int 1)) (pW Fo (rC (.int 2)) (pW ue (pW yL (oz 3) (pW vK (oz 0) (rC (.int 1)))) (rC (.int 2))))))) [some (.sh (.int one)),some (.sh (.int two)),some (.sh (.int bits))] (pZ 0 12)=some (((bq 12).map (UT st sh a b bits)).map λz=>.sh (.int z)):=by
 rw[Z.si (λd=>match d with|.int k=>.sh (.int (UT st sh a b bits k.toNat))|_=>.sh .non),wX,mPq,mPq]
 .rfl
 .intro d hd;rw[wX]at hd;obtain⟨k,hk,rfl⟩:=mMq.mp hd;have hk':=cC.mp hk;have hk:=h k;have dk:=uv (i:=bits) (j:=(k:Int)+1) (by lia) (by lia)
  have m2:=rK (i:=bits / ((k:Int)+1)) (j:=2) (by decide)
  have b0:=aR (bits / ((k:Int)+1)) (b:=2) (by decide)
  have b1:=aO (bits / ((k:Int)+1)) (b:=2) (by decide)
  have c1:=RL (i:=2) (j:=bits / ((k:Int)+1) % 2) (by lia) (by lia)
  have c2:=OO (i:=LB st sh a b k) (j:=1-2*(bits / ((k:Int)+1) % 2)) (by lia) (by lia)
  have tn:((k:Nat):Int).toNat=k:=br _;refine⟨[some (.sh (.int (k:Int))),some (.sh (.int one)),some (.sh (.int two)),some (.sh (.int bits))],?_⟩
  simp_arith [hk,dk,m2,c1,c2,tn,UT]
def XS(a:AV) (d:D) (S:AS):Option (AV×AS):=match a,d with
 | .sh (.tup ds),.int i=>(atI ds i).map λd=>(.sh d,S)
 |_,_=>none
theorem VE(ds:List D) (i:Int) (S:AS):XS (.sh (.tup ds)) (.int i) S=(atI ds i).map λd=>(.sh d,S):=rfl
theorem Sm(k:MK) (b:ME) (S:AS):Q7 k b S=(k S).bind λx=>(b x.2).bind λy=>XS x.1 y.1 y.2:=rfl
theorem Sj(ds:List D) (i:Int):Q9 (.tup ds) (.int i)=atI ds i:=rfl
theorem QQ(ns:List Int):∃M G:List (List Int),zr [.scr ns]=some (.sh (.tup [dM (qY (M.map good)),dM (qY G)]))/\M.flatten.Nodup/\(∀e∈M.flatten, -e∈M.flatten)/\M.flatten.length<=30/\M.count []<=10/\(∀z∈M.flatten,z≠0)/\rB M G:=by
 obtain⟨st,sh,a,b,h1,h1',h2,h2',h3,h4,en⟩:=JF (cell ns 0) (cell ns 1);have hnm:=OB (b:=b) (n:=12) (by decide) h1 h2 h3 h4
 have nc:=N0 (bits:=cell ns 2) en;have pN:(pm ((bq 12).map (UT st sh a b (cell ns 2)))).Perm (pm (Si st sh a b 12)):=Ub (λk=>by
  have b0:=aR (cell ns 2 / ((k:Int)+1)) (b:=2) (by decide)
  have b1:=aO (cell ns 2 / ((k:Int)+1)) (b:=2) (by decide)
  unfold UT;rcases (by lia:cell ns 2 / ((k:Int)+1) % 2=0∨cell ns 2 / ((k:Int)+1) % 2=1) with z|z <;> rw[z] <;> lia) _
 have nd:(pm (Si st sh a b 12)).Nodup:=K12.CC hnm.nd hnm.lo;have nz:∀z∈pm (Si st sh a b 12),z≠0:=λz hz e=>by
  obtain⟨x,hx,q⟩:=cw.mp hz;have:=hnm.lo x hx;simp only[ag,dX,or_false]at q;lia
 have nl:((bq 12).map (UT st sh a b (cell ns 2))).length=12:=by simp
 generalize (bq 12).map (UT st sh a b (cell ns 2))=N at nc pN nl;generalize Si st sh a b 12=nm at *;have hcs:xi ns (some 3) (some 66)=(ns.drop 3).take 63:=Oe ns 3 66;obtain⟨u,T,P,eg,gl⟩:=MN (cs:=(ns.drop 3).take 63) (pN.nodup_iff.mpr nd) (by lia)
 generalize (ns.drop 3).take 63=cs at hcs eg;obtain⟨t1,t2,t3,t4,t5⟩:=gl.tl;have inN:∀z∈T.flatten,z∈pm nm:=λz hz=>by
  obtain⟨x,hx,q⟩:=cw.mp (gl.fl.mem_iff.mp hz);exact pN.mem_iff.mp (cw.mpr ⟨x,bG hx,q⟩)
 have ndT:T.flatten.Nodup:=gl.fl.nodup_iff.mpr (by
  have q:=pN.nodup_iff.mpr nd;have:pm N=pm (N.take u)++pm (N.drop u):=by rw[←FM,aM]
  rw[this]at q;exact(nAq.mp q).1)
 have i1:=sF (rs:=T) (λr hr=>by
  have:=cD.length_le (aD hr);lia) (bA (tW (by lia)))
 have i2:=sF (rs:=P) (λr hr=>by
  have:=cD.length_le (aD hr);lia) (bA (tW (by lia)))
 have at0:∀x y:D,atI [x,y] 0=some x:=λ_ _=>tO (j:=0) rfl
 have at1:∀x y:D,atI [x,y] 1=some y:=λ_ _=>tO (j:=1) rfl
 have rk:Dx [.int 12]=some (pZ 0 12):=vS (n:=12) (by decide)
 have lk:(pZ 0 12).length<=rG:=by rw[qd];exact rO (by lia)
 have sN:=qO N;have ng:∀e∈T.flatten, -e∈T.flatten:=λe he=>gl.fl.mem_iff.mpr (Ak (gl.fl.mem_iff.mp he))
 have sg1:=uj (qY (T.map good));have sg2:=uj (qY (P.map good));rcases gl.st with ⟨e1,e2⟩|⟨q1,q2,q3,q4⟩
 .refine ⟨T,[[]],?_,ndT,ng,by lia,by rw[e1];decide,λz hz=>nz z (inN z hz),?_⟩
  .subst e2;have l0:decide (((0:Nat):Int)=0)=true:=rfl;have sE:qY [([]:List Int)]=[[]]:=gH.mp (rm _);rw[sE];generalize qY (T.map good)=M at i1 sg1 ⊢;generalize qY (([]:List (List Int)).map good)=Q at i2 sg2;unfold dM at i1 i2 eg ⊢;rw[bX]at i2 eg
   simp_arith [zr,BC,NM,LZ,Na,nc,rk,lk,hcs,Z.xT,sN,eg,Sm,VE,at0,at1,i1,i2,sg1,sg2,Sj,l0]
   rfl
  .rw [e1];exact rB.end (by simp) (by simp)
 .refine ⟨T,P.map good,?_,ndT,ng,by lia,by rw[cF.mpr λq=>q1 [] q rfl];lia,λz hz=>nz z (inN z hz),q4⟩
  have l0:decide (((P.length:Nat):Int)=0)=false:=decide_eq_false (by have:=cz.mpr q3;lia)
  generalize qY (T.map good)=M at i1 sg1 ⊢;generalize qY (P.map good)=Q at i2 sg2 ⊢;unfold dM at i1 i2 eg ⊢
  simp_arith [zr,BC,NM,LZ,Na,nc,rk,lk,hcs,Z.xT,sN,eg,Sm,VE,at0,at1,i1,i2,sg1,sg2,Sj,l0]
theorem J2(x y:D):Jn (.tup [x,y])=some (x,y):=rfl
theorem Uk{ns:List Int}(hns:ns.length<=63):JS [.scr ns]=some (.sh (.bl true)):=by
 obtain⟨T1,G1,e1,a1,a2,a3,a4,a5,a6⟩:=QQ ns;obtain⟨T2,G2,e2,b1,b2,b3,b4,b5⟩:=Uq ns;have key:∀{T G:List (List Int)}{v1 v2 v3:Option AV},T.flatten.Nodup->(∀e∈T.flatten, -e∈T.flatten)->T.flatten.length<=30->T.count []<=10->(∀z∈T.flatten,z≠0)->rB T G->K51.zi [dM (qY (T.map good))]=some (.ow ((qY (T.map good)).map aI))/\∃b w5 w6,su 5 vi (pZ 0 24) [some (.sh (.scr ns)),v1,v2,v3,some (.sh (dM (qY (T.map good)))),none,none]=some (.nx [some (.sh (.scr ns)),v1,v2,v3,some b,w5,w6])/\oK b=dM (qY G):=by
  intro T G v1 v2 v3 c1 c2 c3 c4 c5 c6;have ok:=Jl c1 c2 c5 (by lia) c4
  have fi:=(rB.good c1 c6).perm (rm (T.map good)).symm;have gt:=Dq c1;have fl:(qY (T.map good)).flatten.length<=30:=by rw[((sW (rm _)).trans (qX pE T)).length_eq];exact c3
  have dl:=VW (M:=qY (T.map good));have ll:=ok.len;generalize qY (T.map good)=M at *;refine⟨K51.QJ (by lia),?_⟩
  rw[wX];exact JG (bq 24) (a:=.sh (dM M)) rfl ok gt fi (by rw[bf];lia)
 have rk:Dx [.int 24]=some (pZ 0 24):=vS (n:=24) (by decide)
 have m2:=rK (i:=(ns.length:Int)) (j:=2) (by decide)
 by_cases h:(ns.length:Int) % 2=0
 .have h0:decide ((ns.length:Int) % 2=0)=true:=decide_eq_true h;obtain⟨cp,b,w5,w6,lp,sb⟩:=key (v1:=some (.sh (dM (qY (T2.map good))))) (v2:=some (.sh (dM (qY (G2.map good))))) (v3:=some (.sh (dM (qY (T2.map good))))) b1.hn b1.hneg b2 b3 b4 b5;generalize qY (T2.map good)=M at *;generalize qY (G2.map good)=G at *;generalize qY (T1.map good)=M1 at *;generalize qY G1=G3 at *;have sM:=uj M;unfold dM at *
  simp_arith [JS,HH,M6,e1,e2,J2,m2,h0,cp,sM,rk,lp,sb]
 .have h0:decide ((ns.length:Int) % 2=0)=false:=decide_eq_false h;obtain⟨cp,b,w5,w6,lp,sb⟩:=key (v1:=some (.sh (dM (qY (T1.map good))))) (v2:=some (.sh (dM (qY G1)))) (v3:=some (.sh (dM (qY (T1.map good))))) a1 a2 a3 a4 a5 a6;generalize qY (T2.map good)=M2 at *;generalize qY (G2.map good)=G4 at *;generalize qY (T1.map good)=M at *;generalize qY G1=G at *;have sM:=uj M;unfold dM at *
  simp_arith [JS,HH,M6,e1,e2,J2,m2,h0,cp,sM,rk,lp,sb]
end K48
namespace K48
open PySem L2 Mr Z
theorem Sv{l:W.OpenLaw}{w:kr}{K:W.Frag}{h:Heap}{mg:Str->Option Value}{fa:Addr}(X:K.In h) (G:h.Ns ku mg) (hfa:mg "law" = some (.ref fa))
  (a0:At K "turned" Bi f0 fd0)
  (a1:At K "in_good_order" ug f1 fd1)
  (a2:At K "places_at" wQ f2 fd2)
  (a3:At K "thinned" zN f3 fd3)
  (a4:At K "reached" zJ f4 fd4)
  (a5:At K "without_roads" ui f5 fd5)
  (a6:At K "groups" Bh f6 fd6)
  (a7:At K "doors" Cd f7 fd7)
  (a8:At K "only_roads" vW f8 fd8)
  (a9:At K "fallen" AN f9 fd9)
  (a10:At K "_law_cell" Bg f10 fd10)
  (a11:At K "_law_name" A7 f11 fd11)
  (a12:At K "_law_turned" yt f12 fd12)
  (a13:At K "_law_good" A4 f13 fd13)
  (a14:At K "_law_copy" Ba f14 fd14)
  (a15:At K "_law_part" A8 f15 fd15)
  (a16:At K "_law_need" Ax f16 fd16)
  (a17:At K "_law_glued" zt f17 fd17)
  (a18:At K "_law_gap_names" vB f18 fd18)
  (a19:At K "_law_dealt" zA f19 fd19)
  (a20:At K "_law_any_map" wY f20 fd20)
  (a21:At K "_law_some" AR f21 fd21)
  (a22:At K "_law_past" AW f22 fd22)
  (a23:At K "_law_parts" zI f23 fd23)
  (a24:At K "_law_any" Cn f24 fd24)
  (a25:W.nsIn K ku "law" = some (some (.ref f25))) (l25:K.lookup f25=some ⟨oc25,od25,.func (W.fnOf "law" "law" (vR zY) (uQ zY) (oP zY) .none kV25 dc25 pm25 an25 cd25 ct25),sl25⟩) (c25:W.codeIn K cd25 "law" = true) (k25:W.keepIn K (.ref f25)=true)
  (bx_set:W.nsIn K ku "set" = some none)
  (z0:W.nsIn K ku "len" = some none) (z1:W.nsIn K ku "min" = some none) (z2:W.nsIn K ku "max" = some none) (z3:W.nsIn K ku "abs" = some none) (z4:W.nsIn K ku "all" = some none) (z5:W.nsIn K ku "sorted" = some none) (z6:W.nsIn K ku "isinstance" = some none) (z7:W.nsIn K ku "list" = some none) (z8:W.nsIn K ku "int" = some none) (z9:W.nsIn K ku "bool" = some none) (z10:W.nsIn K ku "str" = some none) (z11:W.nsIn K ku "dict" = some none) (z12:W.nsIn K ku "zip" = some none) (z13:W.nsIn K ku "enumerate" = some none) (z14:W.nsIn K ku "range" = some none) (z15:W.nsIn K ku "reversed" = some none) :
  ∃fd:kG,(∀(s:Shared) (v:Value),Y8 s fd ⟨[v],[]⟩ [("_law_script", v)])/\∀base:Heap,K.In base->base.Ns ku mg->B8 l.prog w K mg base RI 5 fa fd ["_law_script"] (Jr K):=by
 have e:=hfa.symm.trans (W.mg_of X G a25);cases e;have B:Bt mg:=⟨W.mg_none_of X G z0,W.mg_none_of X G z1,W.mg_none_of X G z2,W.mg_none_of X G z3,W.mg_none_of X G z4,W.mg_none_of X G z5,W.mg_none_of X G z6,W.mg_none_of X G z7,W.mg_none_of X G z8,W.mg_none_of X G z9,W.mg_none_of X G z10,W.mg_none_of X G z11,W.mg_none_of X G z12,W.mg_none_of X G z13,W.mg_none_of X G z14,W.mg_none_of X G z15⟩;have D25:Av K mg "law" zY ["_law_script"] _ _:=⟨Ie l25 c25 k25,W.mg_of X G a25,b1 (Ie l25 c25 k25) λ_ _ _ _ _ _ _=>rfl⟩
 refine⟨W.fnOf "law" "law" (vR zY) (uQ zY) (oP zY) .none kV25 dc25 pm25 an25 cd25 ct25,λs v=>.of_eq rfl,λbase kb nb=>?_⟩
 have bX_set:=W.mg_none_of X G bx_set;have F0:=K3 (P:=l.prog) (w:=w) (base:=base) (atD X G a0 (b1 a0.F λ_ _ _ _ _ _ _=>rfl)) B
 have F1:=BD (atD X G a1 (b1 a1.F λ_ _ _ _ _ _ _=>rfl)) B F0
 have F2:=EW (P:=l.prog) (w:=w) (base:=base) (atD X G a2 (b1 a2.F λ_ _ _ _ _ _ _=>rfl)) B
 have F3:=HV (P:=l.prog) (w:=w) (base:=base) (atD X G a3 (b2 a3.F λ_ _ _ _ _ _ _ _=>rfl)) B
 have F4:=HY (atD X G a4 (b2 a4.F λ_ _ _ _ _ _ _ _=>rfl)) B F2
 have F5:=BO (atD X G a5 (b2 a5.F λ_ _ _ _ _ _ _ _=>rfl)) B F3
 have F6:=KF (atD X G a6 (b2 a6.F λ_ _ _ _ _ _ _ _=>rfl)) B F2 F5 F4
 have F7:=M3 (atD X G a7 (b1 a7.F λ_ _ _ _ _ _ _=>rfl)) B F6
 have F8:=DD (P:=l.prog) (w:=w) (base:=base) (atD X G a8 (b2 a8.F λ_ _ _ _ _ _ _ _=>rfl)) B
 have F9:=Kk (atD X G a9 (b2 a9.F λ_ _ _ _ _ _ _ _=>rfl)) B F1 F8 F6
 have F10:=Kn (P:=l.prog) (w:=w) (base:=base) (atD X G a10 (b2 a10.F λ_ _ _ _ _ _ _ _=>rfl)) B
 have F11:=LK (P:=l.prog) (w:=w) (base:=base) (atD X G a11 (b3 a11.F λ_ _ _ _ _ _ _ _ _=>rfl)) B
 have F12:=GR (P:=l.prog) (w:=w) (base:=base) (atD X G a12 (b1 a12.F λ_ _ _ _ _ _ _=>rfl)) B
 have F13:=K2 (atD X G a13 (b1 a13.F λ_ _ _ _ _ _ _=>rfl)) B F12
 have F14:=Lw (P:=l.prog) (w:=w) (base:=base) (atD X G a14 (b1 a14.F λ_ _ _ _ _ _ _=>rfl)) B
 have F15:=K7 (P:=l.prog) (w:=w) (base:=base) (atD X G a15 (b2 a15.F λ_ _ _ _ _ _ _ _=>rfl)) B
 have F16:=Kp (P:=l.prog) (w:=w) (base:=base) (atD X G a16 (b1 a16.F λ_ _ _ _ _ _ _=>rfl)) B
 have F17:=HR (atD X G a17 (b2 a17.F λ_ _ _ _ _ _ _ _=>rfl)) B F16 F15
 have F18:=CY (P:=l.prog) (w:=w) (base:=base) (atD X G a18 (b2 a18.F λ_ _ _ _ _ _ _ _=>rfl)) B
 have F19:=HS (P:=l.prog) (w:=w) (base:=base) (atD X G a19 (b2 a19.F λ_ _ _ _ _ _ _ _=>rfl)) B
 have F20:=Fb (atD X G a20 (b2 a20.F λ_ _ _ _ _ _ _ _=>rfl)) B F19
 have F21:=Lu (atD X G a21 (b1 a21.F λ_ _ _ _ _ _ _=>rfl)) B F10 F17 F13 F11
 have F22:=Lv (P:=l.prog) (w:=w) (base:=base) (atD X G a22 (b3 a22.F λ_ _ _ _ _ _ _ _ _=>rfl)) B
 have F23:=IT (atD X G a23 (b1 a23.F λ_ _ _ _ _ _ _=>rfl)) B bX_set F22
 have F24:=Px (atD X G a24 (b1 a24.F λ_ _ _ _ _ _ _=>rfl)) B F10 F18 F20 F13 F23
 have F25:=TL D25 B F21 F14 F24 F7 F9 F10;exact F25.ok.imp (Qb λns h=>Uk h)
theorem RC{l:W.OpenLaw}{q:kq}{loose:List Str}{XP:(Str->Option Value)->Heap->Prop}{YP:kr->Heap->Prop}{d:DefRec}{K:Params->W.Frag}(hn:l.most=some 63) (hdf:d.params.defaults=[])
  (hY:∀(w:kr) (h:Heap),YP w h->(K w.params).In h)
  (F:∀(w:kr) (mg:Str->Option Value) (fa:Addr) (h:Heap),(K w.params).In h->h.Ns ku mg->mg d.name=some (.ref fa) ->
   ∃fd:kG,(∀(s:Shared) (u:Value),Y8 s fd ⟨[u],[]⟩ [("_law_script", u)])/\∀base:Heap,(K w.params).In base->base.Ns ku mg->B8 l.prog w (K w.params) mg base RI 5 fa fd ["_law_script"] (Jr (K w.params))) :
  W.WalkO q loose XP YP l.row.toRowW d [] (λf vs=>PySem.call f vs) :=
 L2.QZ (n:=63) (k:=5) (x := "_law_script") (CX:=λ_=>RI) (sp:=λw=>Jr (K w.params)) hn (by decide) hdf ⟨rfl,by decide,by decide⟩ hY F (λ_ _ a ns hl _ hS=>⟨a,ns,rfl,hS,hl,λ_=>rfl⟩) λ_ _ _ _ _ z=>z
end K48
structure PySem.W.Fast:Prop where(tw18371954025962202350 tw11183963922872105835 tw17295223865545144744 tw200896609478158157 tw9135128000091446122 tw8844947633478231156 tw7636172821397023689 tw16613692266751791425 tw9384411754595812871 tw3631185392791020034 tw18261630215347544376 tw16232589861017727778 tw15304157206774116011 tw13572603339741036548 tw5930280047525887753 tw1359772894912829117 tw10688077664784769024 tw8244866471081838054 tw16264745961487449502 tw7452958400688030217 tw11741856677936232983 tw9339564348918903788 tw7430730098954157845 tw15679730333474687131 tw10549003530529336514 tw11163683384834439337 tw16124770262054854968 tw8458184988202713954 tw12099103237009061649 tw7601193953729700276 tw4001033944054034964 tw10703259291570204442 tw5267493155541815510 tw12160173192910143532 tw13984128915346603144 tw11717679735251468328 tw14696622796400700803 tw6747842006617976626 tw4952218998347687858 tw17991190908090949848 tw15918952670829035545 tw9949806065434702850 tw7508193724714554014 tw2788612526281736695 tw2095529874977749859 tw14170314217659318936 tw15051682015554488611 tw909125374440393469 tw8553361524721212093 tw2117396440357630739 tw11508696925374708119 tw12170860573460284794 tw10051932187411796844 tw2373517449082929679 tw17523742023277472057 tw13763902340766864722 tw10045416545058624986 tw17426468992439532942 tw14301644593063283135 tw4130768952163469130 tw6204836264090422363 tw10265945559642396292 tw12330204438175417814 tw13079800658057614486 tw13661003584191356345 tw15756414274864624517 tw1995503882834167945 tw11546045471041018640 tw10971793159766401450 tw15702409947564622392 tw10620719791535910734 tw14132021962748501507 tw2370076800479847382 tw9832090964608692663 tw7432506189286933939 tw15293232003853555559 tw13827869790219853348 tw6174832644730225366 tw8337360100207908938 tw15056398834490265303 tw16454854684324835242 tw16490195609421473441 tw3269614829513862681 tw114073625195085867 tw4595582394888870563 tw16021772963849899901 tw14584100522749460569 tw12680935838200172012 tw17578163059502026442 tw6900532461263903771 tw6006768405808925127 tw15200856185736613311 tw9146916340037563758 tw11792595546425924914 tw9072654401307686365 tw5866540584810110575 tw12775086141521825118 tw6835227603382489511 tw4456325825343364264 tw10756712347192567086 tw15873263042001779415 tw633774173670915714 tw18152001054445710659 tw13491421236463008684 tw6646079174810620963 tw8292098658985557795 tw8427091196564226436 tw4085275207117926876 tw14978972301999289626:True)
open PySem PySem.W PyProof.Rows
set_option maxRecDepth 100000 in
set_option maxHeartbeats 0 in
theorem PySem.Challenge.cw_mapround_k48_whole_parts_again_holds : PySem.Challenge.rw_mapround_k48_whole_parts_again.Holds := by
 w_on;o_law;k_head;(case hw=>w_witness2)
 k_fill
 refine K48.RC (l:=PySem.Challenge.rw_mapround_k48_whole_parts_again) rfl rfl (λw h Y=>W.kIn_of Y) ?F
 case F =>
  intro w mg fa h KX G hmg;apply K48.Sv KX G hmg
  all_goals first|exact Mr.WA (by k_is) (by k_is) (by k_is) (by k_is)|exact Mr.atM_mk (by k_is) (by k_is) (by k_is) (by k_is) (by k_is)|k_is|kernel_rfl

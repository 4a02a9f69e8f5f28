import PyProof.Rows.All
import Wide.All
import OpenK.AllK
import Wide.FinOn
import Lean
import PyProof.EqAt
import PyProof.EqKinds
import PyProof.TupleCall
import KE.KIntText
import PyProof.ConsumeWalk
import KE.KSortTup
import KE.KNestM
import KE.KMinKey
import KE.KSortKey
import KE.KLam
import PySem.Challenge.RW_mapround_k36_whole_alike_is_laid
set_option Elab.async false
set_option linter.all false
set_option maxRecDepth 100000
set_option maxHeartbeats 4000000
open Option renaming bind_eq_some_iff->oBq,map_eq_some_iff->oMq
open List renaming getElem?_eq_some_iff->gSq,getElem?_eq_getElem->gEg,getD_eq_getElem?_getD->gDq,length_append->lAq,length_map->lMq,mem_append->mAq,mem_flatten->mFq,mem_map->mMq,getElem?_map->gMq,mem_of_getElem?->mGq,map_congr_left->mCq,getElem_mem->gRq,length_singleton->lSq,mem_singleton->mSq,length_take->lTq,nodup_append->nAq,append_nil->aNq,flatten_append->fAq,getElem?_append_right->gYq,getElem?_append_left->gZq,length_cons->lCq,map_map->mPq,map_append->mBq,mem_cons_of_mem->mCo,length_set->lZq,flatten_cons->fCq,count_append->cAq,mem_cons->ah,mem_cons_self->ai,mem_iff_getElem?->ak,size_toArray->au,replicate->aw,map_cons->ax,mem_append_right->ay,nodup_cons->az,drop_eq_getElem_cons->aA,sublist_flatten_of_mem->aB,getElem?_set_ne->aD,pairwise_map->aF,nodup_iff_pairwise_ne->aG,getElem?_set_self->aM,length_drop->aQ,zipWith->aR,flatten_singleton->aS,nodup_nil->aT,append_assoc->aV,length_eq_zero_iff->aY,length->aZ,Pairwise->bg,take_length->bh,take_append_drop->bj,getElem?_eq_none->bp,length_range->bw,length_replicate->bx,foldl_cons->bA,not_mem_nil->bB,mem_flatMap->bC,getElem?_set->bD,flatMap_cons->bE,find?_cons_of_neg->bG,length_nil->bI,range->bJ,find?_cons_of_pos->bL,drop_of_length_le->bM,getElem?_zip_eq_some->bN,getElem?_zipWith->bR,eraseIdx_cons_succ->bS,Sublist->bT,mem_iff_getElem->bV,reduceReplicate->bW,pairwise_iff_getElem->bZ,mem_append_left->cE,getElem?_replicate->cF,take_sublist->cG,drop_eq_nil_of_le->cJ,take_of_length_le->cK,Perm->cM,zip_cons_cons->cW,pairwise_cons->cX,count_pos_iff->cY,mem_range->cZ,ext_getElem?->dh,map_id->dn,length_pos_iff->du,perm_iff_count->dv,flatMap_append->dw,eq_append_cons_of_mem->dB,exists_mem_of_ne_nil->dF,dropLast_concat->dG,nodup_iff_count->dH,take_succ_eq_append_getElem->dJ,idxOf_lt_length_iff->dN,eq_of_mem_replicate->dO,pairwise_singleton->dR,map_replicate->dU,find?_cons->dW,length_pos_of_mem->dX,length_zip->dZ,perm_append_comm->eh,take_add_one->eA,eq_nil_or_concat->eB,concat_eq_append->eC,length_eraseIdx->eD,mem_of_mem_take->eE,drop_length->eI,lookup_cons->eJ,perm_ext_iff_of_nodup->eK,any_cons->eM,map_take->eN,length_zipWith->eO,getElem?_eq_none_iff->eU,length_flatten->eV,getElem?_take_of_lt->eX,getElem?_drop->eY,set_cons_zero->eZ,set_cons_succ->fb,pairwise_mergeSort->fe,eraseIdx_cons_zero->fg,foldl_append->fi,findIdx_lt_length_of_exists->fq,eraseIdxIfInBounds_toArray->fx,set_getElem_self->fy,getElem?_toArray->fB,any_eq_true->fD,map_flatten->fE,pairwise_append->fF,idxOf_cons_self->fG,flatten_flatten->fH,of_mem_zip->fJ,count_eq_zero_of_not_mem->fL,idxOf_cons->fM,map_nil->fN,set_set->fP,map_id'->fU,filterMap_cons->fW,mergeSort_perm->fX,getElem?_range->fY,drop_zero->gb,getElem_idxOf->gc,forIn_toArray->gd,count_eq_zero->gg,find?_isSome->gq,nodup_range->gw,getLast?_singleton->gF,nil_append->gH,pairwise_lt_range->gK,flatMap_singleton->gL,findIdx_getElem->gT,mem_erase_of_ne->gU,getLast?_append->gV,mem_of_mem_drop->gW,replicate_succ->gX,toList_toArray->gZ,perm_singleton->hW,take_succ_cons->hX,mem_filterMap->ic,mem_replicate->iq,cons->iA,drop_sublist->iC,ext_getElem->iH,cons_append->iN,all_eq_true->iO,zip_toArray->iP,map_snd_zip->iQ,getElem_zip->iR,mem_filter->iU,forIn_cons->iW,map_const'->iY,forIn_nil->jc,take_left->je,map_drop->jj,any_map->jn
open And renaming intro->aa
open Nat renaming le_refl->ab,ne_of_lt->ao,zero_le->aE,lt_of_lt_of_le->aK,ne_of_gt->aO,zero_add->aU,le_trans->bq,le_succ->bz,le_of_lt->bH,lt_succ_of_lt->bQ,not_lt_zero->cw,lt_succ_iff_lt_or_eq->cz,lt_add_right->cB,lt_irrefl->cL,le_add_right->cO,reduceEqDiff->cQ,reduceLeDiff->cT,sub_self->dr,reduceAdd->dt,reduceSub->dE,le_of_eq->dQ,min_eq_left->dY,le_of_not_lt->eF,lt_succ_self->eG,add_lt_add_left->eS,succ_le_succ->fu,strongRecOn->fK,sub_zero->fO,mod_eq_of_lt->gA,lt_trans->gB,mod_lt->hV,lt_of_le_of_lt->ij,lt_or_eq_of_le->ik,min_self->ir,add_comm->iu,le_of_lt_succ->iw,lt_trichotomy->iy,succ_ne_self->iG,min_eq_right->iK,add_zero->jo
open PySem.Heap renaming get?_push_of_some->ae,lt_size->ag,get?_push_size->aC,get?_update_other->bF,size_update->bO,get?_update_ne->bP,SameBut->cg,get?_push_ne->dD,get?_update_self->fA,size_push->fZ,ExtBut->gN,DictOf->iF,NewExcOf->jk
open PySem.Value renaming ref->aj,none->fV,type->gu,int->gM,bool->iZ,isStrOf->jh,str->ji,builtin->jm,isInt->jt
open PySem.F renaming plainAttrs_list->aq,slot_list_append->aH,type_list_append->aJ,plain_min_loop->bX,slot_list_pop->cU,type_list_pop->cV,slot_list_extend->dc,type_list_extend->de,slot_list_index->fc,entry_min_loop->fj,type_list_index->gD
open Sum renaming inl->ar,inr->gn
open Bool renaming false_ne_true->aL,false_eq_true->bU,eq_iff_iff->cu,not_eq_true->dA,not_eq_true'->fh,and_eq_true->gv,eq_false_iff->iB,or_eq_true->iV,false_and->jb
open Option renaming some->aN,getD_some->bK,bind_some->cA,map_some->dg,isSome_map->eg,toList_some->gf,isSome_some->ie,getD_none->iE,some_or->jd,none->ju
open Int renaming emod_lt_of_pos->aW,emod_nonneg->aX,toNat_natCast->df,neg_neg->eW,mul_one->gh,fdiv_eq_ediv_of_nonneg->gj,le_refl->gk,zero_add->gC,toNat->gP,toNat_of_nonneg->ib,mul_neg->iS
open Array renaming getElem?_eq_getElem->ba,length_toList->cH,getElem?_toList->ee,mem_iff_getElem?->gJ,size_map->gQ,toArray_toList->gR,toList_append->gY,forIn_toList->ip,getElem_mem->iz,toList_map->iJ,size_push->iX,Perm->ja
open PyProof.Rows renaming callWith_type1->bb,boot_sorted->bf,boot_list->bY,boot_isinstance->cC,boot_tuple->dS,boot_min->gO,callWith_builtin1->iT,eq_dataH_same->jf,ne_dataH_same->jg,boot_bool->jr,boot_int->jv,lt_int->jw
open Classical renaming propDecidable->dq
open Prod renaming ext->gG,snd->jq
open Or renaming inr->iD
open PySem renaming wpAny_bind->jx,wpAny->jy,wpAny_pure->jz,model->jA,Program->jC,sizeLine->jD,World->jF,mainGlobals->jG,starEach->jH,wpAny_holding->jK,codeAny_builtin->jL,sizeLine_eq->jN,wpAny_mono->jO,plainId_quiet->jP,FuncData->jQ,cLine->jT,wpAny_tryCatch->jU,wpAny_seqItems->jX,wpAny_truthy_bool->jY,wpAny_Call_Name_kw->ka,pyNext->ke,call_isinstance->kh,wpAny_typeOf->ki,Scope->km,compareOp->ko,ZipApart->kr,wpAny_letGo->ku,backTo->kx,IsPair->ky,builtinLookup_eq_fast->kz,wpAny_updateSeq->kB,wpAny_passesOwn->kC,isinstance_true->kE,codeAny->kF,sysModules->kG,builtinsNs->kH,wpAny_newList->kK,argBest->kL,bootBuiltins->kM,wpAny_call_entry->kN,typeLookup->kO,call_meets->kP,sliceBounds->kR,typeLookup_type->kT,sub_AttributeError->kW,getattributeRaised->kX,codeAny_mono->lg,binaryOp->lh,wpAny_callSpecial?_slot->lq,wpAny_pyIter_list->lx,wpAny_field->lD,richCompare->lF,wpAny_attempt->lH,behindInMarks->lJ,wpAny_pyIter_zip->lK,wpAny_pyNext_zip_item->lO,wpAny_execs_nil->lU,letOwnedTupleGo->lV,assignEach->lW,stored->lX,relabel->mh,callerA->mi,tupleKind_room_in1->mn,seqItems?->mq,codeAmong->mr,foldedSetIterable->mv,wpAny_rule->mw,valueAt->mB,BindsTo->mD,wpAny_comprehension_free->mE,wpAny_isInstance->mF,rawInt->mH,Result->mI,updateSeq->mL,tupleKind->mM,swapsWith->mN,Arguments->mO,atKey->mP,wpAny_nextOf_list_item->mQ,richCompare_meets_room->mS,subscripted->mT,wpAny_notOrdered_dict->mU,wpAny_isTrue_Compare1->mV,wpAny_newTuple->mW,isSubtype_type->mZ,callType_codes->nh,getItem->nj,assign->nr,wpAny_pyNext_zip_end->nt,wpAny_newFunctionEnv->nu,wpAny_loadName_local->nv,lookup_relabel_local->nD,closureFor->nH,bindArgs->nJ,wpAny_loadName_cell->nL,wpAny_dictSet_pairs->nN,seqIndex?->nS,getAttrBy->nT,holding->nU,unsupported->nV
open PyProof.Rows renaming Keyed->jB,seqObj->jE,arrOf->jI,wpS_bind->jJ,getElem?_mirror_all->jM,IntsAre->jR,SortKind->jS,wpS_pure->jV,get?_update_seq->jW,listUpdate_at->jZ,setArr->kj,pairsOf->kJ,envOfC->kQ,wpS_forRange->kY,pairsOf_size->kZ,size_push'->lj,reverseSlice'->lI,wpS_mono->lM,keyKind'->lN,AllBare->lR,mirror->lY,oneType'->lZ,seqEpoch_at->mj,sortedHeap->mz,tuples'->mC,getElem?_bubble->mJ,entry_list_sort->mK,subscriptTail_builtinR->mR,slot_list_sort->mX,keyLt'_oneType->mY,wpS_get->ni,bubble->nq,wpS_modify->nF,subscriptTail->nK,plain_sorted->nO,listItems_at->nQ,entry_sorted->nR,kind_sorted->nW
abbrev Λ:=List (List Int)
abbrev Ϝ:=List Int
abbrev Φ:=List (PySem.Addr×PySem.Obj)
abbrev Δ:=List PySem.Addr
abbrev Θ:=List Nat
abbrev Ξ:=List PySem.Value
abbrev Ω:=Array PySem.Value
abbrev Υ:=Option PySem.Value
abbrev Ψ:=PySem.Value->PySem.Shared->Prop
abbrev Ζ:=PySem.W.Frag
noncomputable section
open Array renaming mem_of_getElem?->aQq
local macro_rules|`(tactic|trivial)=>`(tactic|first|exact Or.inl rfl|exact iD rfl|exact iD (Or.inl rfl)|exact iD (iD rfl)|exact⟨rfl,rfl,rfl,by decide +kernel,rfl,by decide +kernel,by decide +kernel⟩|fail)
def qd{c:Prop}{_:Decidable c}(h:c){α}{t e:α}:ite c t e=t:=if_pos h
def qh{c:Prop}{_:Decidable c}(h:¬c){α}{t e:α}:ite c t e=e:=if_neg h
namespace L2
open PySem PySem.Spec PyProof.Rows
abbrev pE:=Sum Int Str
def Hi:pE->Value->Bool
 | .inl k,v=>jt k v
 | .inr x,v=>jh x v
def aaD(w:jF):pE->Int
 | .inl k=>hashInt k
 | .inr x=>hashStr w x
def qV:∀{k:pE}{v:Value},Hi k v=true->(∃i t,k=ar i/\v=gM i t)∨(∃x t,k=gn x/\v=ji x t)
 | .inl i,v,h=>by
  obtain⟨t,e⟩:=Value.isInt_shape (k:=i) (v:=v) h;exact .inl ⟨i,t,rfl,e⟩
 | .inr x,v,h=>by
  obtain⟨t,e⟩:=Value.isStrOf_shape (x:=x) (v:=v) h;exact .inr ⟨x,t,rfl,e⟩
def C4(i:Int) (t:Tok):Hi (.inl i) (.int i t)=true:=by simp[Hi,jt]
def Pb(x:Str) (t:Tok):Hi (.inr x) (.str x t)=true:=by simp[Hi,jh]
def XW(a b:Int):decide ((ar a:pE)=ar b)=(a == b):=by
 by_cases e:a=b
 .subst e;simp
 .have h:¬ (ar a:pE)=ar b:=λq=>e (ar.inj q)
  rw[decide_eq_false h];exact(beq_eq_false_iff_ne.mpr e).symm
def Yx(a b:Str):decide ((gn a:pE)=gn b)=decide (a=b):=by
 by_cases e:a=b
 .subst e;simp
 .have h:¬ (gn a:pE)=gn b:=λq=>e (gn.inj q)
  rw[decide_eq_false h,decide_eq_false e]
def XY(a:Int) (b:Str):decide ((ar a:pE)=gn b)=false:=decide_eq_false (λq=>nomatch q)
def Xy(a:Str) (b:Int):decide ((gn a:pE)=ar b)=false:=decide_eq_false (λq=>nomatch q)
def qR(prog:jC) (w:jF):PySem.KeyKind prog w pE where
 is:=Hi
 hash:=aaD w
 inj:=λv a b ha r=>by
  rcases qV ha with ⟨i,t,rfl,rfl⟩|⟨x,t,rfl,rfl⟩
  .rcases qV r with ⟨j,u,rfl,e⟩|⟨y,u,rfl,e⟩
   .injection e with l _;rw[l]
   .exact nomatch e
  .rcases qV r with ⟨j,u,rfl,e⟩|⟨y,u,rfl,e⟩
   .exact nomatch e
   .injection e with l _;rw[l]
 byValue:=λk v h=>by
  rcases qV h with ⟨i,t,rfl,rfl⟩|⟨x,t,rfl,rfl⟩ <;> rfl
 pyHash:=λn h=>by
  rcases qV n with ⟨i,t,rfl,rfl⟩|⟨x,t,rfl,rfl⟩
  .exact wpAny_pyHash_int h
  .exact wpAny_pyHash_str h
 eqBool:=λs n h=>by
  rcases qV s with ⟨i,t,rfl,rfl⟩|⟨x,t,rfl,rfl⟩
  .rcases qV n with ⟨j,u,rfl,rfl⟩|⟨y,u,rfl,rfl⟩
   .rw [XW]at h;exact wpAny_eqBool_int h
   .rw [XY]at h;exact SeqAt.EqAt.int_str i t y u _ _ _ _ h
  .rcases qV n with ⟨j,u,rfl,rfl⟩|⟨y,u,rfl,rfl⟩
   .rw [Xy]at h;exact SeqAt.EqAt.str_int x t j u _ _ _ _ h
   .rw [Yx]at h;exact wpAny_eqBool_str h
 «strs»:=λk x t v h=>by
  rcases qV h with ⟨i,u,rfl,e⟩|⟨y,u,rfl,e⟩
  .exact nomatch e
  .injection e with l _
   subst l;cases v <;> rfl
def KR(prog:jC) (w:jF) (i:Int) (t:Tok):(qR prog w).is (.inl i) (.int i t)=true:=C4 i t
def KW(prog:jC) (w:jF) (x:Str) (t:Tok):(qR prog w).is (.inr x) (.str x t)=true:=Pb x t
inductive V where
 |non|bl (b:Bool)|int (i:Int)|str (x:Str)|byt (b:Array UInt8)|flt (b:UInt64)|ref (a:Addr)|ty (n:String)
 deriving DecidableEq
def qk:V->Value->Prop
 | .non,u=>u=fV
 | .bl b,u=>u=iZ b
 | .int i,u=>∃t,u=gM i t
 | .str x,u=>∃t,u=ji x t
 | .byt b,u=>∃t,u=Value.bytes b t
 | .flt b,u=>∃t,u=Value.float b t
 | .ref a,u=>u=aj a
 | .ty n,u=>u=gu n
abbrev pS:List V->Ξ->Prop:=Paired qk
theorem pS.length{xs:List V}{us:Ξ}(r:pS xs us):xs.length=us.length:=Paired.length r
theorem pS.get:∀{xs:List V}{us:Ξ}{i:Nat}{x:V},pS xs us->xs[i]?=some x->∃u,us[i]?=some u/\qk x u
 |_,_,_,_,.nil,e=>by simp at e
 |_,_,0,_,.cons r _,e=>by simp at e;subst e;exact⟨_,rfl,r⟩
 |_,_,i+1,x,.cons _ t,e=>by
  obtain⟨u,h1,h2⟩:=pS.get (i:=i) (x:=x) t (by simpa using e)
  exact⟨u,by simpa using h1,h2⟩
theorem pS.set{x:V}{u:Value}(r:qk x u):∀{xs:List V}{us:Ξ}(i:Nat),pS xs us->pS (xs.set i x) (us.set i u)
 |_,_,_,.nil=>.nil
 |_,_,0,.cons _ t=>.cons r t
 |_,_,i+1,.cons q t=>.cons q (pS.set r i t)
theorem pS.append:∀{xs ys:List V}{us ws:Ξ},pS xs us->pS ys ws->pS (xs++ys) (us++ws)
 |_,_,_,_,.nil,s=>s
 |_,_,_,_,.cons r t,s=>.cons r (pS.append t s)
theorem pS.take:∀{xs:List V}{us:Ξ}(n:Nat),pS xs us->pS (xs.take n) (us.take n)
 |_,_,0,_=>.nil
 |_,_,_+1,.nil=>.nil
 |_,_,n+1,.cons r t=>.cons r (pS.take n t)
theorem pS.drop:∀{xs:List V}{us:Ξ}(n:Nat),pS xs us->pS (xs.drop n) (us.drop n)
 |_,_,0,r=>r
 |_,_,_+1,.nil=>.nil
 |_,_,n+1,.cons _ t=>pS.drop n t
def Gp:Option V->Υ->Prop
 |some v,some u=>qk v u
 |none,none=>True
 |_,_=>False
def KV{κ:Type}:List (κ×V)->List (κ×Value)->Prop:=Paired λ(p:κ×V) (q:κ×Value)=>p.1=q.1/\qk p.2 q.2
def kV:pE->V
 | .inl i=>.int i
 | .inr x=>.str x
inductive HO where
 /-- a list -/
 |lst (xs:List V)
 /-- a tuple (never changes) -/
 |tup (xs:List V)
 /-- a dict whose keys are ints and texts;one whose keys are tuples of ints and texts (the empty one is both) -/
 |dK (kvs:List (pE×V))|dT (kvs:List (List pE×V))
 /-- a set of ints: its members,its size -/
 |set (S:Int->Bool) (n:Nat)
 /-- an instance of the class at C,its dict at dx,its attributes -/
 |ins (C dx:Addr) (fs:List (Str×V))
 /-- the dict of the instance at x -/
 |own (x:Addr)
 /-- the dict of an exception -/
 |xd (fs:List (Str×V))
 /-- a bound method,f of x -/
 |met (f x:Addr)
 /-- a range object lo,lo+1,.. below hi -/
 |rng (lo hi:Int)
 /-- a thing that is known to the object (the script;a dict while a loop walks it): read,never written while it is so -/
 |frz (o:Obj) (u:HO)
 /-- a code object's table -/
 |tbl (q:Str)
 /-- any other thing,by what is true of its one object (a def of one's own: SetO a S n:=HO.ext λh=>..) -/
 |ext (φ:Heap->Prop)
abbrev Hp:=Addr->Option HO
def qP(H:Hp) (a:Addr) (o:HO):Hp:=λb=>if b=a then some o else H b
def oX{H:Hp}{a:Addr}{o:HO}:qP H a o a=some o:=by unfold qP;rw[qd rfl]
def oP{H:Hp}{a b:Addr}{o:HO}(h:b≠a):qP H a o b=H b:=by unfold qP;rw[qh h]
def Zd{H:Hp}{a b:Addr}{o u:HO}(h:H a=some o) (h':H b=some u) (d:o≠u):a≠b:=by
 intro e;subst e;rw[h]at h';exact d (aN.inj h')
def qG{H:Hp}{a b:Addr}{o:HO}(h:H a=some o) (h':H b=none):a≠b:=by
 intro e;subst e;rw[h]at h';cases h'
section
variable (P:jC) (w:jF)
def qW(H:Hp) (h:Heap) (a:Addr):HO->Prop
 | .lst xs=>xs.length<=jD/\∃(l:Ξ) (n:Nat),pS xs l/\h.get? a=some { cls:=.type "list", data:=.seq l.toArray n }
 | .tup xs=>xs.length<=jD/\∃l:Ξ,pS xs l/\IsTup h a l.toArray
 | .dK kvs=>kvs.length<=jD/\(a == kG)=false/\∃vs,KV kvs vs/\h.DictOf (qR P w) a vs
 | .dT kvs=>kvs.length<=jD/\(a == kG)=false/\∃xs:List (List pE×Addr×Value),
   Paired (λ(p:List pE×V) (q:List pE×Addr×Value)=>p.1=q.1/\H q.2.1=some (.tup (p.1.map kV))/\qk p.2 q.2.2) kvs xs /\
   ∃o es ep,h.get? a=some o/\o.ExactDict/\o.data = .dict es ep/\es.toList=xs.map (entryOfKey (mM (qR P w)))/\(xs.map (·.1)).Nodup
 | .set S n=>h.SetOf (intKind P w) a S n
 | .ins C s fs=>H s=some (.own a)/\fs.length<=1000/\s≠a/\h.get? a=some (W.instObj C s) /\
   ∃r,h.Ns1 s r/\(∀f,Gp (fs.lookup f) (r f))/\PySem.Within r (fs.map (·.1))
 | .own _=>∃o,h.get? a=some o
 | .xd fs=>∃r,h.Ns1 a r/\∀f,Gp (fs.lookup f) (r f)
 | .rng lo B=>∃t u v,h.get? a=some { cls:=.type "range", data:=.fields #[.int lo t,.int B u,.int 1 v] }
 | .frz o u=>h.get? a=some o/\qW H h a u
 | .tbl q=>∃ps:Ω,h.get? a=some { cls:=.none,data:=.fields ps }/\PySem.TriplesOk ps.toList/\∀p y,mr p ps.toList=some y->∃b z vs E,y = .ref b/\H b=some (.frz z (.own a))/\z.data = .fields vs/\vs[1]?=some (.str q E)
 | .met f x=>h.get? a=some (W.methodObj (.ref f) (.ref x))
 | .ext φ=>φ h/\(∃o,h.get? a=some o)/\∀h1 h2:Heap,φ h1->(∀o,h1.get? a=some o->h2.get? a=some o)->φ h2
def BM(H:Hp) (h:Heap):Prop:=∀a o,H a=some o->qW P w H h a o
end
section
variable {P:jC}{w:jF}{H H':Hp}{h h':Heap}{a:Addr}{o:HO}
theorem qW.lt(x:qW P w H h a o):a<h.objs.size:=by
 cases o with
 |lst r=>obtain⟨_,_,_,_,e⟩:=x;exact ag e
 |tup r=>obtain⟨_,_,_,p⟩:=x;exact p.lt
 |dK l=>obtain⟨_,_,_,_,o,_,_,e,_⟩:=x;exact ag e
 |dT l=>obtain⟨_,_,_,_,o,_,_,e,_⟩:=x;exact ag e
 |set S n=>obtain⟨o,_,_,_,e,_⟩:=x;exact ag e
 |ins C s fs=>obtain⟨_,_,_,e,_⟩:=x;exact ag e
 |own y=>obtain⟨_,e⟩:=x;exact ag e
 |xd fs=>obtain⟨_,⟨_,_,_,e,_⟩,_⟩:=x;exact ag e
 |rng lo t=>obtain⟨_,_,_,e⟩:=x;exact ag e
 |frz ob u=>obtain⟨e,_⟩:=x;exact ag e
 |tbl q=>obtain⟨_,e,_⟩:=x;exact ag e
 |met f y=>exact ag (show h.get? a=some _ from x)
 |ext φ=>obtain⟨_,⟨_,e⟩,_⟩:=x;exact ag e
theorem Paired.mapP{α β:Type}{F G:α->β->Prop}:∀{l:List α}{n:List β},Paired F l n->(∀a b,F a b->G a b)->Paired G l n
 |_,_,.nil,_=>.nil
 |_,_,.cons r t,f=>.cons (f _ _ r) (Paired.mapP t f)
def qW.stay(x:qW P w H h a o) (k:∀b u,(b=a∨H b=some (.own a))->h.get? b=some u->h'.get? b=some u)
  (L:∀b,H b=some (.own a)->H' b=some (.own a)) (ht:∀b xs,H b=some (.tup xs)->H' b=some (.tup xs)) (M:∀b ob,H b=some (.frz ob (.own a))->H' b=some (.frz ob (.own a))):qW P w H' h' a o:=by
 induction o with
 |lst xs=>obtain⟨z,B,n,r,e⟩:=x;exact⟨z,B,n,r,k _ _ (.inl rfl) e⟩
 |tup xs=>obtain⟨z,B,r,ob,e,c⟩:=x;exact⟨z,B,r,ob,k _ _ (.inl rfl) e,c⟩
 |dK E=>obtain⟨z,y,G,r,ob,l,s,e,c⟩:=x;exact⟨z,y,G,r,ob,l,s,k _ _ (.inl rfl) e,c⟩
 |dT E =>
  obtain⟨z,y,xs,r,ob,l,s,e,c⟩:=x;exact⟨z,y,xs,Paired.mapP r λp q z=>⟨z.1,ht _ _ z.2.1,z.2.2⟩,ob,l,s,k _ _ (.inl rfl) e,c⟩
 |set S n=>obtain⟨ob,l,s,t,e,c⟩:=x;exact⟨ob,l,s,t,k _ _ (.inl rfl) e,c⟩
 |ins C dx fs =>
  obtain⟨d,z,ne,e,I,⟨od,l,s,J,c⟩,r⟩:=x;exact⟨L _ d,z,ne,k _ _ (.inl rfl) e,I,⟨od,l,s,k _ _ (.inr d) J,c⟩,r⟩
 |own y=>obtain⟨ob,e⟩:=x;exact⟨ob,k _ _ (.inl rfl) e⟩
 |xd fs=>obtain⟨I,⟨od,l,s,e,c⟩,r⟩:=x;exact⟨I,⟨od,l,s,k _ _ (.inl rfl) e,c⟩,r⟩
 |rng lo hi=>obtain⟨t,u,v,e⟩:=x;exact⟨t,u,v,k _ _ (.inl rfl) e⟩
 |frz ob u O=>obtain⟨e,q⟩:=x;exact⟨k _ _ (.inl rfl) e,O q⟩
 |tbl q =>
  obtain⟨ps,e,t,r⟩:=x;refine⟨ps,k _ _ (.inl rfl) e,t,λp Q R=>?_⟩
  obtain⟨b,U,G,X,Y,J,e4⟩:=r p Q R;exact⟨b,U,G,X,Y,M _ _ J,e4⟩
 |met f y =>
  have e:h.get? a=some (W.methodObj (.ref f) (.ref y)):=x;show h'.get? a=some (W.methodObj (.ref f) (.ref y));exact k a _ (.inl rfl) e
 |ext φ=>obtain⟨p,⟨o,e⟩,st⟩:=x;exact⟨st _ _ p λo q=>k _ _ (.inl rfl) q,⟨o,k _ _ (.inl rfl) e⟩,st⟩
theorem BM.lt(x:BM P w H h) (e:H a=some o):a<h.objs.size:=(x a o e).lt
def BM.fresh(x:BM P w H h) (e:h.objs.size<=a):H a=none:=by
 cases q:H a with
 |none=>rfl
 |some u=>exact absurd (aK (x.lt q) e) (cL _)
def BM.kept(x:BM P w H h) (k:∀b u,h.get? b=some u->h'.get? b=some u):BM P w H h':=λa o e =>
 (x a o e).stay (λb u _ q=>k b u q) (λ_ q=>q) (λ_ _ q=>q) λ_ _ q=>q
def BM.laid(x:BM P w H h) (k:∀b u,h.get? b=some u->h'.get? b=some u) (n:h.objs.size<=a) (new:qW P w (qP H a o) h' a o):BM P w (qP H a o) h':=λb u e=>by
 have hn:=x.fresh n
 by_cases l:b=a
 .subst l;rw[oX]at e;cases e;exact new
 .rw [oP l]at e;exact(x b u e).stay (λc v _ q=>k c v q) (λc q=>by rw[oP (qG q hn)];exact q) (λc r q=>by rw[oP (qG q hn)];exact q) λc r q=>by rw[oP (qG q hn)];exact q
end
def Rd(H:Hp) (a:Addr) (u:HO):Prop:=H a=some u∨∃o,H a=some (.frz o u)
def Rd.ok{P:jC}{w:jF}{H:Hp}{h:Heap}{a:Addr}{u:HO}(r:Rd H a u) (x:BM P w H h):qW P w H h a u:=by
 rcases r with r|⟨o,r⟩
 .exact x a u r
 .obtain ⟨_,q⟩:=x a _ r;exact q
def Zf:Option HO->Prop
 |some (.lst _)=>True
 |some (.dK _)=>True
 |some (.dT _)=>True
 |some (.set _ _)=>True
 |some (.ins _ _ _)=>True
 |some (.ext _)=>True
 |_=>False
section
variable {P:jC}{w:jF}{H:Hp}{h h':Heap}{x e:Addr}{o':HO}
def BM.write(ok:BM P w H h) (mu:Zf (H x)) (G:e=x∨H e=some (.own x)) (k:∀b u,b≠e->h.get? b=some u->h'.get? b=some u) (E:∃u,h'.get? e=some u)
  (new:qW P w (qP H x o') h' x o'):BM P w (qP H x o') h':=λb u q=>by
 have n:∀c y,H c=some (.own y)->c≠x:=λc y r z=>by subst z;rw[r]at mu;exact mu
 have s:∀c t,H c=some (.tup t)->c≠x:=λc t r z=>by subst z;rw[r]at mu;exact mu
 by_cases B:b=x
 .subst B;rw[oX]at q;cases q;exact new
 .rw [oP B]at q
  by_cases l:b=e
  .have I:H b=some (.own x):=by
    rcases G with z|z
    .exact absurd (l.trans z) B
    .rw [l];exact z
   rw[q]at I;cases I;obtain⟨v,J⟩:=E;exact⟨v,by rw[l];exact J⟩
  .refine (ok b u q).stay (λc v C r=>k c v ?_ r) (λc r=>by rw[oP (n c b r)];exact r) (λc t r=>by rw[oP (s c t r)];exact r) λc ob r=>by rw[oP (show c≠x from λz=>by subst z;rw[r]at mu;exact mu)];exact r
   rcases C with rfl|C
   .exact l
   .rintro rfl;rcases G with z|z
    .exact n c b C z
    .rw [C]at z;cases z;exact B rfl
end
structure Un (fs ex:Δ) (H H':Hp) (h h':Heap):Prop where
 keep:∀b o,h.get? b=some o->H b=none->b∉fs->b∉ex->h'.get? b=some o
 slot:∀b o,h.get? b=some o->H b=none->b∈fs->b∉ex->∃sl,h'.get? b=some { o with slots:=sl }
 free:∀b o,h.get? b=some o->H b=none->b∉ex->H' b=none
 there:∀b o,h.get? b=some o->b∉ex->∃o',h'.get? b=some o'
 tups:∀b xs,H b=some (.tup xs)->H' b=some (.tup xs)
 frzs:∀b o u,H b=some (.frz o u)->H' b=some (.frz o u)
 tbls:∀b q,H b=some (.tbl q)->H' b=some (.tbl q)
section
variable {fs fs' ex ex':Δ}{H H1 H2:Hp}{h h1 h2 h':Heap}{a x e:Addr}{o:HO}
def Un.any(u:Un fs ex H H1 h h1) {b:Addr}{ob:Obj}(q:h.get? b=some ob) (n:H b=none) (l:b∉ex):∃sl,h1.get? b=some { ob with slots:=sl }:=by
 by_cases r:b∈fs
 .exact u.slot b ob q n r l
 .exact ⟨ob.slots,u.keep b ob q n r l⟩
def Un.kept(k:∀b u,h.get? b=some u->h'.get? b=some u):Un fs ex H H h h' :=
 ⟨λb ob q _ _ _=>k b ob q,λb ob q _ _ _=>⟨ob.slots,k b ob q⟩,λ_ _ _ n _=>n,λb ob q _=>⟨ob,k b ob q⟩,λ_ _ q=>q,λ_ _ _ q=>q,λ_ _ q=>q⟩
def Un.refl:Un fs ex H H h h:=Un.kept λ_ _ q=>q
def Un.laid(k:∀b u,h.get? b=some u->h'.get? b=some u) (l:h.objs.size<=a) (hn:H a=none):Un fs ex H (qP H a o) h h' where
 keep:=λb u q _ _ _=>k b u q
 slot:=λb u q _ _ _=>⟨u.slots,k b u q⟩
 free:=λb u q n _=>by rw[oP (ao (aK (ag q) l))];exact n
 there:=λb u q _=>⟨u,k b u q⟩
 tups:=λb xs q=>by rw[oP (qG q hn)];exact q
 frzs:=λb u xs q=>by rw[oP (qG q hn)];exact q
 tbls:=λb _ q=>by rw[oP (qG q hn)];exact q
def Un.write(mu:Zf (H x)) (C:e=x∨H e=some (.own x)) (k:∀b u,b≠e->h.get? b=some u->h'.get? b=some u) (s:∃u,h'.get? e=some u):Un fs ex H (qP H x o) h h':=by
 have y:∀b,H b=none->b≠x:=λb n z=>by subst z;rw[n]at mu;exact mu
 have B:∀b,H b=none->b≠e:=λb n z=>by
  subst z;rcases C with r|r
  .exact y b n r
  .rw [n]at r;cases r
 have t:∀b u,H b=some u->¬ Zf (some u)->b≠x:=λb u q nm z=>by subst z;rw[q]at mu;exact nm mu
 refine⟨λb u q n _ _=>k b u (B b n) q,λb u q n _ _=>⟨u.slots,k b u (B b n) q⟩,λb u q n _=>by rw[oP (y b n)];exact n,λb u q _=>?_,
  λb E q=>by rw[oP (t b _ q λz=>z)];exact q,λb u E q=>by rw[oP (t b _ q λz=>z)];exact q,λb _ q=>by rw[oP (t b _ q λz=>z)];exact q⟩
 by_cases l:b=e
 .subst l;exact s
 .exact ⟨u,k b u l q⟩
end
def trk(h:Heap) (H:Hp):Δ:=(bJ h.objs.size).filter λa=>(H a).isSome
def JO(h:Heap) (H:Hp):Heap:=W.hideAll h (trk h H)
def OW(h:Heap) (H:Hp):(JO h H).objs.size=h.objs.size:=W.hideAll_size _ _
def FV{h:Heap}{H:Hp}{b:Addr}{o:Obj}(e:h.get? b=some o) (n:H b=none):(JO h H).get? b=some o :=
 W.hideAll_get _ e λl=>by
  have q:(H b).isSome=true:=(iU.mp l).2;rw[n]at q;simp at q
def TX{h:Heap}{H:Hp}{b:Addr}{o:Obj}(e:(JO h H).get? b=some o):h.get? b=some o/\H b=none:=by
 have l:h.get? b=some o:=W.of_hideAll (trk h H) e;refine⟨l,?_⟩;cases q:H b with
 |none=>rfl
 |some x =>
  have n:b∈trk h H:=iU.mpr ⟨cZ.mpr (ag l),by simp[q]⟩
  have z:(JO h H).get? b=none:=W.hideAll_none (trk h H) n;rw[z]at e;cases e
def TN(g h:Heap) (L:Addr):Φ:=(bJ h.objs.size).filterMap λa=>if a=L∨(g.get? a).isSome=true then none else (h.get? a).map λo=>(a,o)
def sA(g h:Heap) (L d:Addr):Φ:=(TN g h L).filter λp=>decide (p.1≠d)
def RY:List Str:=["least_round","rarest"]
def Y7(K:Ζ) (o:Obj):Option (Addr×Str):=match o.data with
 | .func fd=>if RY.contains fd.name then (match fd.code with
  | .ref c=>(match K.lookup c with
   |some l=>(match l.data with
    | .fields vs=>(match (vs[11]?:Υ) with
     |some (.ref P)=>some (P,fd.qualname ++ ".<locals>." ++ "<lambda>")
     |_=>none)
    |_=>none)
   |none=>none)
  |_=>none) else none
 |_=>none
def vg(K:Ζ):List (Addr×Str):=K.filterMap λp=>Y7 K p.2
def TM(K:Ζ) (H:Hp):Prop:=∀q∈vg K,H q.1=some (.tbl q.2)
structure Mod (K:Ζ) (mg:Str->Υ) (base:Heap):Prop where
 kin:K.In base
 glob:base.Ns jG mg
 blt:∃mb,base.Ns kH mb/\∀x:Str,x ≠ "__name__" -> mb x=kM x
 nolimit:base.NoLimit
 bmod:∃bm o,mg "__builtins__" = some (.ref bm)/\bm≠kH/\base.get? bm=some o/\o.cls = .type "module" /\ o.dict=some kH/\o.data = .plain
structure Cx where
 prog:jC
 w:jF
 K:Ζ
 mg:Str->Υ
 base:Heap
 A:Around
 N:List Str
 s₀:Shared
 H₀:Hp
 env:Env
 outer:List Env
 stack:List Env
 ex:Δ
 fn:Str->Bool
 calm:Bool
 pn:Φ
 xe:Ψ
def P9(l:List Env):Δ:=l.filterMap (·.frame)
abbrev Cx.fs(X:Cx):Δ:=P9 X.outer
def Zr(l:km) (x:Str):Prop:=l.names.lookup x=some .local∨l.names.lookup x=some .cell∨l.names.lookup x=some .free
def VQ(l:km) (x:Str):Prop:=l.names.lookup x=some .local∨l.names.lookup x=some .cell
def aaT(env:Env) (h:Heap) (m:Str->Υ) (x:Str) (u:Value):Prop :=
 (env.kindOf x=some .local/\m x=some u)∨((env.kindOf x=some .cell∨env.kindOf x=some .free)/\∃c,env.cells.lookup x=some c/\h.IsCell c (some u))
structure Cx.Ok (X:Cx):Prop where
 mod:Mod X.K X.mg X.base
 kind:X.env.scope.kind = .function
 glob:X.env.globals=jG
 blt:X.env.builtins=kH
 above:X.s₀.heap.objs.size<=X.env.locals
 inj:∀x y c,X.env.cells.lookup x=some c->X.env.cells.lookup y=some c->x=y
 has:∀x,(X.env.kindOf x=some .cell∨X.env.kindOf x=some .free)->∃c,X.env.cells.lookup x=some c
 cab:∀x c,X.fn x=true->X.env.cells.lookup x=some c->X.s₀.heap.objs.size<=c
 hd:X.calm=true->X.A.handled=none
 frames:X.A.frames=some X.stack
 stk:X.stack=X.outer∨(X.stack=X.env::X.outer/\X.env.frame=some X.env.locals)
 exf:∀b∈X.ex,b≠X.env.locals/\∀x c,X.env.cells.lookup x=some c->c≠b
 bs:∀b o,X.base.get? b=some o->X.s₀.heap.get? b=some o/\X.H₀ b=none
 bsz:X.base.objs.size<=X.s₀.heap.objs.size
 noex:∀b o,X.base.get? b=some o->b∉X.ex
 exfs:∀b∈X.ex,b∉X.fs
 funs:X.s₀.heap.FunFrames X.base X.outer
 frf:∀b∈X.fs,X.H₀ b=none
 tb:TM X.K X.H₀
structure Inv (X:Cx) (og:Φ) (σ:List (Option V)) (H:Hp) (s:Shared):Prop where
 ok:X.Ok
 os:s.os=X.s₀.os
 bare:lR s.gens
 base:Un X.fs X.ex X.H₀ H X.s₀.heap s.heap
 loc:∃m,s.heap.Ns X.env.locals m/\∀(i:Nat) (x:Str) (v:V),X.N[i]?=some x->σ[i]?=some (some v)->Zr X.env.scope x->∃u,qk v u/\aaT X.env s.heap m x u
 cell:∀x c,X.env.cells.lookup x=some c->∃v,s.heap.IsCell c v
 free:H X.env.locals=none
 freeC:∀x c,X.env.cells.lookup x=some c->H c=none
 pin:∀p∈X.pn++og,s.heap.get? p.1=some p.2/\H p.1=none/\p.1≠X.env.locals/\p.1∉X.fs/\∀v,p.2.data ≠ .cell v
 hok:BM X.prog X.w H s.heap
 len:σ.length=X.N.length
section
variable {X:Cx}{og:Φ}{σ:List (Option V)}{H H':Hp}{s:Shared}{h':Heap}
def Cx.Ok.nofr(ok:X.Ok) {b:Addr}{o:Obj}(e:X.base.get? b=some o):b∉X.fs:=λl=>by
 have:=(ok.funs.mem l).1;rw[e]at this;cases this
theorem Inv.bs(I:Inv X og σ H s):∀b o,X.base.get? b=some o->s.heap.get? b=some o/\H b=none:=λb o e =>
 ⟨I.base.keep b o (I.ok.bs b o e).1 (I.ok.bs b o e).2 (I.ok.nofr e) (I.ok.noex b o e),I.base.free b o (I.ok.bs b o e).1 (I.ok.bs b o e).2 (I.ok.noex b o e)⟩
def Inv.bk(I:Inv X og σ H s):∀b o,X.base.get? b=some o->s.heap.get? b=some o:=λb o e=>(I.bs b o e).1
theorem Inv.tb(I:Inv X og σ H s):TM X.K H:=λq l=>I.base.tbls _ _ (I.ok.tb q l)
theorem Inv.mod(I:Inv X og σ H s):Mod X.K X.mg X.base:=I.ok.mod
def Inv.kIn(I:Inv X og σ H s):X.K.In s.heap:=I.ok.mod.kin.keeps I.bk
theorem Inv.nolimit(I:Inv X og σ H s):s.heap.NoLimit:=I.ok.mod.nolimit.keeps I.bk
theorem Inv.lt(I:Inv X og σ H s):X.env.locals<s.heap.objs.size:=let ⟨_,hn,_⟩:=I.loc;hn.lt
def Inv.sz(I:Inv X og σ H s):X.s₀.heap.objs.size<=s.heap.objs.size:=bq I.ok.above (bH I.lt)
def Inv.nofs(I:Inv X og σ H s) {a:Addr}(h:s.heap.objs.size<=a):a∉X.fs:=λl=>by
 obtain⟨_,o,n,_⟩:=I.ok.funs.mem l;exact absurd (aK (ag n) (bq I.sz h)) (cL _)
def Inv.cne(I:Inv X og σ H s):∀x c,X.env.cells.lookup x=some c->c≠X.env.locals:=λx c e z=>by
 obtain⟨v,o,r,hd⟩:=I.cell x c e;obtain⟨m,⟨t,u,y,l,n,_⟩,_⟩:=I.loc;rw[z,l]at r;cases r;rw[n]at hd;cases hd
theorem Inv.funs(I:Inv X og σ H s):s.heap.FunFrames X.base X.outer:=by
 have all:∀(l:List Env),(∀b∈P9 l,b∈X.fs)->X.s₀.heap.FunFrames X.base l->s.heap.FunFrames X.base l:=by
  intro l
  induction l with
  |nil=>intro _ _;trivial
  |cons env r x =>
   intro u hl;obtain⟨hk,⟨L,o,hf,hn,y,hd⟩,hr⟩:=hl;have n:L∈X.fs:=u L (by unfold P9;rw[fW,hf];exact ai)
   obtain⟨B,e⟩:=I.base.slot L o y (I.ok.frf L n) n λz=>I.ok.exfs L z n
   exact⟨hk,⟨L,_,hf,hn,e,hd⟩,x (λb t=>u b (by unfold P9;rw[fW,hf];exact mCo _ t)) hr⟩
 exact all X.outer (λ_ t=>t) I.ok.funs
theorem Inv.stack(I:Inv X og σ H s):s.heap.FunFrames X.base X.stack:=by
 rcases I.ok.stk with e|⟨e,hf⟩
 .rw [e];exact I.funs
 .rw [e];obtain⟨m,hn,_⟩:=I.loc;refine .cons (by rw[I.ok.kind];decide) hf hn ?_ I.funs
  exact Heap.get?_none_of_le (bq I.ok.bsz I.ok.above)
def Inv.stkSub(I:Inv X og σ H s):∀b∈P9 X.stack,b∈X.env.locals::X.fs:=λb l=>by
 rcases I.ok.stk with e|⟨e,hf⟩
 .rw [e]at l;exact mCo _ l
 .rw [e]at l;unfold P9 at l;rw[fW,hf]at l;exact l
def Inv.stkFree(I:Inv X og σ H s):∀b∈P9 X.stack,H b=none:=λb l=>by
 rcases ah.mp (I.stkSub b l) with e|l
 .rw [e];exact I.free
 .obtain ⟨_,o,n,_⟩:=I.ok.funs.mem l;exact I.base.free b o n (I.ok.frf b l) λz=>I.ok.exfs b z l
def Inv.step{g':Array GenState}{t':Nat}{d':Drawn}{ch:Δ}(I:Inv X og σ H s)
  (y:∀b∈ch,(b∈X.ex∨X.s₀.heap.objs.size<=b)/\b≠X.env.locals/\(∀x c,X.env.cells.lookup x=some c->c≠b)/\∀p∈X.pn++og,p.1≠b)
  (keep:∀b o,b≠X.env.locals->b∉X.fs->b∉ch->s.heap.get? b=some o->H b=none->h'.get? b=some o)
  (slot:∀b o,b≠X.env.locals->b∈X.fs->b∉ch->s.heap.get? b=some o->H b=none->∃sl,h'.get? b=some { o with slots:=sl }) (free:∀b o,b∉ch->s.heap.get? b=some o->H b=none->H' b=none)
  (there:∀b o,b∉ch->s.heap.get? b=some o->∃M,h'.get? b=some M)
  (tups:∀b xs,H b=some (.tup xs)->H' b=some (.tup xs)) (frzs:∀b o u,H b=some (.frz o u)->H' b=some (.frz o u)) (tbls:∀b q,H b=some (.tbl q)->H' b=some (.tbl q))
  (ns:∀m,s.heap.Ns X.env.locals m->h'.Ns X.env.locals m) (hok:BM X.prog X.w H' h') (Y:lR g') :
  Inv X og σ H' { s with heap:=h',gens:=g',drawn:=d',toks:=t' }:=by
 have O:∀b o,X.s₀.heap.get? b=some o->b≠X.env.locals:=λb o e=>ao (aK (ag e) I.ok.above)
 have E:∀b o,X.s₀.heap.get? b=some o->b∉X.ex->b∉ch:=λb o e t G=>by
  rcases (y b G).1 with z|z
  .exact t z
  .exact absurd (aK (ag e) z) (cL _)
 have B:∀x c,X.env.cells.lookup x=some c->∀v,s.heap.IsCell c v->h'.IsCell c v:=λx c e v ⟨o,L,hd⟩=>by
  have C:c∉ch:=λz=>(y c z).2.2.1 x c e rfl
  by_cases R:c∈X.fs
  .obtain ⟨sl,q⟩:=slot c o (I.cne x c e) R C L (I.freeC x c e);exact⟨_,q,hd⟩
  .exact ⟨o,keep c o (I.cne x c e) R C L (I.freeC x c e),hd⟩
 refine⟨I.ok,I.os,Y,⟨λb o e n G t=>?_,λb o e n G t=>?_,λb o e n t=>?_,λb o e t=>?_,λb xs e=>tups b xs (I.base.tups b xs e),λb o xs e=>frzs b o xs (I.base.frzs b o xs e),λb q e=>tbls b q (I.base.tbls b q e)⟩,?_,λx c e=>?_,?_,λx c e=>?_,λp S=>?_,hok,I.len⟩
 .exact keep b o (O b o e) G (E b o e t) (I.base.keep b o e n G t) (I.base.free b o e n t)
 .obtain ⟨sl,J⟩:=I.base.slot b o e n G t;obtain⟨P,Q⟩:=slot b _ (O b o e) G (E b o e t) J (I.base.free b o e n t);exact⟨P,Q⟩
 .obtain ⟨M,J⟩:=I.base.there b o e t;exact free b M (E b o e t) J (I.base.free b o e n t)
 .obtain ⟨M,J⟩:=I.base.there b o e t;exact there b M (E b o e t) J
 .obtain ⟨m,hn,hl⟩:=I.loc;refine⟨m,ns m hn,λi x v J Q e3=>?_⟩
  obtain⟨u,r,l⟩:=hl i x v J Q e3;refine⟨u,r,?_⟩;rcases l with l|⟨k,c,e,z⟩
  .exact .inl l
  .exact .inr ⟨k,c,e,B x c e _ z⟩
 .obtain ⟨v,z⟩:=I.cell x c e;exact⟨v,B x c e v z⟩
 .obtain ⟨m,⟨o,_,_,L,_⟩,_⟩:=I.loc;exact free _ o (λz=>(y _ z).2.1 rfl) L I.free
 .obtain ⟨v,o,L,hd⟩:=I.cell x c e;exact free c o (λz=>(y c z).2.2.1 x c e rfl) L (I.freeC x c e)
 .obtain ⟨e,n,ne,U,d⟩:=I.pin p S;have C:p.1∉ch:=λz=>(y p.1 z).2.2.2 p S rfl
  exact⟨keep p.1 p.2 ne U C e n,free p.1 p.2 C e n,ne,U,d⟩
def Inv.un{t':Nat}(I:Inv X og σ H s) (u:Un X.fs [] H H' s.heap h') (hok:BM X.prog X.w H' h'):Inv X og σ H' { s with heap:=h',toks:=t' }:=by
 obtain⟨m,⟨o,J,L,B,r⟩,_⟩:=id I.loc;obtain⟨M,C⟩:=u.any B I.free (by simp)
 exact I.step (g':=s.gens) (d':=s.drawn) (ch:=[]) (λ_ z=>nomatch z) (λb o _ t _ e n=>u.keep b o e n t (by simp)) (λb o _ t _ e n=>u.slot b o e n t (by simp)) (λb o _ e n=>u.free b o e n (by simp)) (λb o _ e=>u.there b o e (by simp)) u.tups u.frzs u.tbls (λO E=>by
  obtain⟨P,x,y,l,G⟩:=E;rw[B]at l;cases l;exact⟨_,x,y,C,G⟩) hok I.bare
def Inv.call{g':Array GenState}{t':Nat}{d':Drawn}{ch:Δ}(I:Inv X og σ H s) (u:Un (P9 X.stack) ch H H' s.heap h') (hok:BM X.prog X.w H' h') (J:lR g')
  (t:∀b∈ch,(b∈X.ex∨X.s₀.heap.objs.size<=b)/\b≠X.env.locals/\(∀x c,X.env.cells.lookup x=some c->c≠b)/\∀p∈X.pn++og,p.1≠b) :
  Inv X og σ H' { s with heap:=h',gens:=g',drawn:=d',toks:=t' }:=by
 obtain⟨m,⟨o,P,Q,G,r⟩,_⟩:=id I.loc;obtain⟨R,B⟩:=u.any G I.free λz=>(t _ z).2.1 rfl
 exact I.step (ch:=ch) t (λb o B L l e n=>u.keep b o e n (λz=>(ah.mp (I.stkSub b z)).elim B L) l) (λb o _ _ l e n=>u.any e n l) (λb o l e n=>u.free b o e n l) (λb o l e=>u.there b o e l) u.tups u.frzs u.tbls (λS M=>by
  obtain⟨U,C,E,y,O⟩:=M;rw[G]at y;cases y;exact⟨_,C,E,B,O⟩) hok J
def Inv.turned{t':Nat}{l:Addr}(I:Inv X og σ H s) (k:∀b o,b≠l->s.heap.get? b=some o->h'.get? b=some o) (hn:H l=none) (B:l≠X.env.locals)
  (h1:l∈X.ex∨X.s₀.heap.objs.size<=l) (h2:∀x c,X.env.cells.lookup x=some c->c≠l) (C:∀p∈X.pn++og,p.1≠l):Inv X og σ H { s with heap:=h',toks:=t' }:=by
 have y:∀b u,H b=some u->b≠l:=λb u e z=>by rw[z,hn]at e;cases e
 refine I.step (g':=s.gens) (d':=s.drawn) (ch:=[l]) (λb E=>?_) (λb o _ _ t e _=>k b o (λz=>t (by simp[z])) e) (λb o _ _ t e _=>⟨o.slots,k b o (λz=>t (by simp[z])) e⟩) (λ_ _ _ _ n=>n)
  (λb o t e=>⟨o,k b o (λz=>t (by simp[z])) e⟩) (λ_ _ e=>e) (λ_ _ _ e=>e) (λ_ _ e=>e) (λm G=>?_) (λb u e=>?_) I.bare
 .have e:b=l:=by simpa using E
  subst e;exact⟨h1,B,h2,C⟩
 .obtain ⟨o,J,L,M,r⟩:=G;exact⟨o,J,L,k _ o (Ne.symm B) M,r⟩
 .refine (I.hok b u e).stay (λc v t q=>k c v ?_ q) (λ_ q=>q) (λ_ _ q=>q) λ_ _ q=>q
  rcases t with z|z
  .rw [z];exact y b u e
  .exact y c _ z
def Inv.tok(I:Inv X og σ H s) (t:Nat):Inv X og σ H { s with toks:=t }:=I.un (h':=s.heap) (t':=t) Un.refl I.hok
theorem Inv.kept{t':Nat}(I:Inv X og σ H s) (k:∀b u,s.heap.get? b=some u->h'.get? b=some u):Inv X og σ H { s with heap:=h',toks:=t' }:=I.un (Un.kept k) (I.hok.kept k)
theorem Inv.laid{a:Addr}{o:HO}{t':Nat}(I:Inv X og σ H s) (k:∀b u,s.heap.get? b=some u->h'.get? b=some u) (l:s.heap.objs.size<=a) (new:qW X.prog X.w (qP H a o) h' a o) :
  Inv X og σ (qP H a o) { s with heap:=h',toks:=t' }:=I.un (Un.laid k l (I.hok.fresh l)) (I.hok.laid k l new)
theorem Inv.write{x e:Addr}{o:HO}{t':Nat}(I:Inv X og σ H s) (mu:Zf (H x)) (n:e=x∨H e=some (.own x)) (k:∀b u,b≠e->s.heap.get? b=some u->h'.get? b=some u) (l:∃u,h'.get? e=some u)
  (new:qW X.prog X.w (qP H x o) h' x o):Inv X og σ (qP H x o) { s with heap:=h',toks:=t' }:=I.un (Un.write mu n k l) (I.hok.write mu n k l new)
def Inv.pins_of{l:Φ}(I:Inv X og σ H s) (h:∀p∈l,s.heap.get? p.1=some p.2/\H p.1=none/\p.1≠X.env.locals/\p.1∉X.fs/\∀v,p.2.data ≠ .cell v):Inv X l σ H s :=
 ⟨I.ok,I.os,I.bare,I.base,I.loc,I.cell,I.free,I.freeC,λp n=>(mAq.mp n).elim (λz=>I.pin p (cE _ z)) (h p),I.hok,I.len⟩
def Kj{N:List Str}(l:N.Nodup) {i j:Nat}{x:Str}(a:N[i]?=some x) (b:N[j]?=some x):i=j:=by
 obtain⟨h1,n⟩:=gSq.mp a;obtain⟨h2,r⟩:=gSq.mp b;exact(List.getElem_inj l).mp (n.trans r.symm)
def Pi{M:Model}{A:Around}{E:Ψ}{i:Nat}{x:Str}{v:V}{u:Value}{Q:Unit->Shared->Prop}(I:Inv X og σ H s) (hN:X.N.Nodup) (U:X.N[i]?=some x) (G:VQ X.env.scope x) (r:qk v u)
  (h:∀s',Inv X og (σ.set i (some v)) H s'->(∃a,cg a s.heap s'.heap/\(a=X.env.locals∨X.env.cells.lookup x=some a))->Q () s') (hf:X.fn x=true∨X.env.scope.names.lookup x=some .local:=by trivial):jy M A (storeName X.env x u) Q E s:=by
 obtain⟨m,hn,hl⟩:=id I.loc;have Y:(X.env.scope.kind == .class || (X.env.scope.kind == .module && X.env.locals != X.env.globals))=false:=by rw[I.ok.kind];rfl
 have O:i<σ.length:=by rw[I.len];exact(gSq.mp U).1
 have cne:=I.cne;have t:∀{a:Addr}{h':Heap},(∃o,s.heap.get? a=some o/\H a=none)->cg a s.heap h'->BM X.prog X.w H h':=λ{a h'} ha l b ob e=>by
  obtain⟨_,_,J⟩:=ha;refine(I.hok b ob e).stay (λc w' C q=>(l.2 c ?_).trans q) (λ_ q=>q) (λ_ _ q=>q) λ_ _ q=>q
  rintro rfl;rcases C with rfl|C
  .rw [J]at e;cases e
  .rw [J]at C;cases C
 rcases G with hk|hk
 .refine wpAny_storeName_local hk hn (λh' hn' l=>?_) Y
  obtain⟨oL,_,_,hoL,_⟩:=id hn;refine h _ ⟨I.ok,I.os,I.bare,⟨λb o e n P G=>?_,λb o e n P G=>?_,I.base.free,λb o e G=>?_,I.base.tups,I.base.frzs,I.base.tbls⟩,⟨_,hn',λj y v' B L e3=>?_⟩,λy c e=>?_,I.free,I.freeC,λp hp=>?_,t ⟨oL,hoL,I.free⟩ l,by simpa using I.len⟩ ⟨_,l,.inl rfl⟩
  .exact (l.2 b (ao (aK (ag e) I.ok.above))).trans (I.base.keep b o e n P G)
  .obtain ⟨sl,B⟩:=I.base.slot b o e n P G;exact⟨sl,(l.2 b (ao (aK (ag e) I.ok.above))).trans B⟩
  .obtain ⟨o',B⟩:=I.base.there b o e G;exact⟨o',(l.2 b (ao (aK (ag e) I.ok.above))).trans B⟩
  .by_cases R:j=i
   .subst R;rw[U]at B;cases B;rw[aM O]at L;cases L;exact⟨u,r,.inl ⟨hk,by simp⟩⟩
   .rw [aD (Ne.symm R)]at L;obtain⟨u',r',q⟩:=hl j y v' B L e3;refine⟨u',r',?_⟩;rcases q with ⟨k,e⟩|⟨k,c,e,z⟩
    .refine .inl ⟨k,?_⟩;have:y≠x:=λe=>R (Kj hN B (e ▸ U))
     simp[this,e]
    .exact .inr ⟨k,c,e,z.sameBut l (cne y c e)⟩
  .obtain ⟨w',z⟩:=I.cell y c e;exact⟨w',z.sameBut l (cne y c e)⟩
  .obtain ⟨e,n,ne,nf,d⟩:=I.pin p hp;exact⟨(l.2 p.1 ne).trans e,n,ne,nf,d⟩
 .have S:X.fn x=true:=by
   rcases hf with z|z
   .exact z
   .rw [z]at hk;cases hk
  obtain⟨c,C⟩:=I.ok.has x (.inl hk);obtain⟨w',z⟩:=I.cell x c C;refine wpAny_storeName_cell I.ok.kind hk C z (λh' hc' l=>?_)
  obtain⟨oc,hoc,hocd⟩:=id z;refine h { s with heap:=h' } ⟨I.ok,I.os,I.bare,⟨λb o e n P G=>?_,λb o e n P G=>?_,I.base.free,λb o e G=>?_,I.base.tups,I.base.frzs,I.base.tbls⟩,⟨m,hn.sameBut l (Ne.symm (cne x c C)),λj y v' B L e3=>?_⟩,λy c' e=>?_,I.free,I.freeC,λp hp=>?_,t ⟨oc,hoc,I.freeC x c C⟩ l,by simpa using I.len⟩ ⟨c,l,.inr C⟩
  .exact (l.2 b (ao (aK (ag e) (I.ok.cab x c S C)))).trans (I.base.keep b o e n P G)
  .obtain ⟨sl,B⟩:=I.base.slot b o e n P G;exact⟨sl,(l.2 b (ao (aK (ag e) (I.ok.cab x c S C)))).trans B⟩
  .obtain ⟨o',B⟩:=I.base.there b o e G;exact⟨o',(l.2 b (ao (aK (ag e) (I.ok.cab x c S C)))).trans B⟩
  .by_cases R:j=i
   .subst R;rw[U]at B;cases B;rw[aM O]at L;cases L;exact⟨u,r,.inr ⟨.inl hk,c,C,hc'⟩⟩
   .rw [aD (Ne.symm R)]at L;obtain⟨u',r',q⟩:=hl j y v' B L e3;refine⟨u',r',?_⟩;rcases q with q|⟨k,c',e,z'⟩
    .exact .inl q
    .refine .inr ⟨k,c',e,z'.sameBut l ?_⟩;rintro rfl;exact R (Kj hN B (I.ok.inj _ _ _ e C ▸ U))
  .by_cases hcc:c'=c
   .subst hcc;exact⟨_,hc'⟩
   .obtain ⟨w2,z2⟩:=I.cell y c' e;exact⟨w2,z2.sameBut l hcc⟩
  .obtain ⟨e,n,ne,nf,d⟩:=I.pin p hp;refine⟨(l.2 p.1 ?_).trans e,n,ne,nf,d⟩;intro q;rw[q,hoc]at e;have q':oc=p.2:=aN.inj e;exact d w' (by rw[←q'];exact hocd)
def Ff{M:Model}{A:Around}{E:Ψ}{i:Nat}{x:Str}{v:V}{u:Value}{Q:Unit->Shared->Prop}(I:Inv X og σ H s) (n:X.N.Nodup) (t:X.N[i]?=some x) (y:VQ X.env.scope x) (r:qk v u)
  (h:∀l,Inv X og (σ.set i (some v)) H l->Q () l) (hf:X.fn x=true∨X.env.scope.names.lookup x=some .local:=by trivial):jy M A (storeName X.env x u) Q E s :=
 Pi I n t y r (λl z _=>h l z) hf
def Inv.call'{l:Shared}{ch:Δ}(I:Inv X og σ H s) (r:l.os=s.os) (u:Un (P9 X.stack) ch H H' s.heap l.heap) (hok:BM X.prog X.w H' l.heap) (t:lR l.gens)
  (n:∀b∈ch,(b∈X.ex∨X.s₀.heap.objs.size<=b)/\b≠X.env.locals/\(∀x c,X.env.cells.lookup x=some c->c≠b)/\∀p∈X.pn++og,p.1≠b):Inv X og σ H' l:=by
 obtain⟨h',y,z,B,C⟩:=l;have e:C=s.os:=r;subst e;exact I.call (g':=y) (t':=B) (d':=z) u hok t n
end
abbrev XK:=Value->Option Addr->Hp->Prop
abbrev St:=List (Option V)
abbrev VK:=V->Hp->Prop
abbrev TE:=St->Hp->VK->Prop
abbrev TT:=St->Hp->(Bool->Hp->Prop)->Prop
abbrev TA:=St->Hp->(List V->Hp->Prop)->Prop
structure A5 where
 nx:St->Hp->Prop
 rt:VK
 bk:St->Hp->Prop:=λ_ _=>False
 ct:St->Hp->Prop:=λ_ _=>False
abbrev TS:=A5->St->Hp->Prop
def EP(X:Cx) (n:Φ) (σ:St) (Q:VK) (u:Value) (r:Shared):Prop:=∃v l,Inv X n σ l r/\qk v u/\Q v l
def TP(X:Cx) (n:Φ) (σ:St) (Q:Bool->Hp->Prop) (b:Bool) (r:Shared):Prop:=∃l,Inv X n σ l r/\Q b l
def AP(X:Cx) (n:Φ) (σ:St) (Q:List V->Hp->Prop) (us:Ξ) (r:Shared):Prop:=∃vs l,Inv X n σ l r/\pS vs us/\Q vs l
def SP(X:Cx) (r:Φ) (D:A5) (f:Flow) (s:Shared):Prop :=
 match f with
 | .next=>∃l n,Inv X r l n s/\D.nx l n
 | .brk=>∃l n,Inv X r l n s/\D.bk l n
 | .cont=>∃l n,Inv X r l n s/\D.ct l n
 | .ret u=>∃v l n,Inv X r l n s/\qk v u/\D.rt v n
def PE(X:Cx) (e:Expr) (t:TE):Prop :=
 ∀(l:Φ) (s:Shared) (σ:St) (H:Hp) (Q:VK),Inv X l σ H s->t σ H Q->jy (jA X.prog X.w) X.A (eval e X.env) (EP X l σ Q) X.xe s
def PT(X:Cx) (e:Expr) (t:TT):Prop :=
 ∀(l:Φ) (s:Shared) (σ:St) (H:Hp) (Q:Bool->Hp->Prop),Inv X l σ H s->t σ H Q->jy (jA X.prog X.w) X.A (isTrue e X.env (eval e X.env)) (TP X l σ Q) X.xe s
def PW(X:Cx) (e:Expr) (t:TT):Prop :=
 ∀(l:Sem Value) (n:Φ) (s:Shared) (σ:St) (H:Hp) (Q:Bool->Hp->Prop),Inv X n σ H s->t σ H Q->jy (jA X.prog X.w) X.A (isTrue e X.env l) (TP X n σ Q) X.xe s
def PW.pt{X:Cx}{e:Expr}{t:TT}(h:PW X e t):PT X e t:=h _
def PA(X:Cx) (es:List Expr) (t:TA):Prop :=
 ∀(pos:Pos) (l:Φ) (s:Shared) (σ:St) (H:Hp) (Q:List V->Hp->Prop),Inv X l σ H s->t σ H Q->jy (jA X.prog X.w) X.A (spliced (kx pos (jH es X.env))) (AP X l σ Q) X.xe s
def PS(X:Cx) (st:Stmt) (t:TS):Prop :=
 ∀(l:Φ) (s:Shared) (σ:St) (H:Hp) (D:A5),Inv X l σ H s->t D σ H->jy (jA X.prog X.w) X.A (exec st X.env) (SP X l D) X.xe s
def Me(X:Cx) (st:List Stmt) (t:TS):Prop :=
 ∀(l:Φ) (s:Shared) (σ:St) (H:Hp) (D:A5),Inv X l σ H s->t D σ H->jy (jA X.prog X.w) X.A (execs st X.env) (SP X l D) X.xe s
def sV{α:Type}{t:Sem α}{Q l:α->Shared->Prop}{M:Model}{A:Around}{E:Ψ}{s:Shared}(h:jy M A t Q E s) (n:∀a s,Q a s->l a s):jy M A t l E s:=jO h n λ_ _ x=>x
section
variable {X:Cx}
def yV(i:Nat):TE:=λσ H Q=>∃v,σ[i]?=some (some v)/\Q v H
def tC(v:V):TE:=λ_ H Q=>Q v H
def X0{i:Nat}{x:Str}{pos:Pos}(z:X.N[i]?=some x) (B:Zr X.env.scope x) (hd:(x == ("__debug__" : Str))=false:=by decide) (t:(x == ("__classdict__" : Str))=false:=by decide):PE X (.Name x pos) (yV i):=by
 intro C s σ H Q I h;obtain⟨v,e,h⟩:=h;obtain⟨m,hn,hl⟩:=I.loc;obtain⟨u,r,l⟩:=hl i x v z e B;have fin:EP X C σ Q u s:=⟨v,H,I,r,h⟩;rcases l with ⟨hk,E⟩|⟨hk,c,y,n⟩
 .exact wpAny_Name (nv I.ok.kind hk hn E fin) hd
 .rcases hk with hk|hk
  .exact wpAny_Name (nL I.ok.kind hk y n fin) hd
  .exact wpAny_Name (wpAny_loadName_free I.ok.kind hk y n fin t) hd
def oA{i j pos}:PE X (.Constant (.int i) j pos) (tC (.int i)):=λ_ _ _ H _ I h=>wpAny_Constant_int ⟨.int i,H,I.tok _,⟨_,rfl⟩,h⟩
def vZ{b j pos}:PE X (.Constant (.bool b) j pos) (tC (.bl b)):=λ_ _ _ H _ I h=>Constant_bool ⟨.bl b,H,I,rfl,h⟩
def FX{j pos}:PE X (.Constant .none j pos) (tC .non):=λ_ _ _ H _ I h=>Constant_none ⟨.non,H,I,rfl,h⟩
def R7{x j pos}:PE X (.Constant (.str x) j pos) (tC (.str x)):=λ_ _ _ H _ I h=>Calls.Constant_str ⟨.str x,H,I.tok _,⟨_,rfl⟩,h⟩
def Gl(X:Cx) (x:Str):Prop:=X.env.kindOf x=some .globalImplicit
def Nh{E:Ψ}{l:Φ}{s:Shared}{σ:St}{H:Hp}{x:Str}{u:Value}{pos:Pos}{Q:Ψ}(I:Inv X l σ H s) (n:Gl X x) (r:X.mg x=some u) (h:Q u s)
  (hd:(x == ("__debug__" : Str))=false:=by decide):jy (jA X.prog X.w) X.A (eval (.Name x pos) X.env) Q E s :=
 Calls.Name_function_global I.ok.kind n (Calls.loadGlobal_global (by rw[I.ok.glob];exact I.mod.glob.keeps I.bk) r h) hd
def vt{E:Ψ}{l:Φ}{s:Shared}{σ:St}{H:Hp}{x:Str}{u:Value}{pos:Pos}{Q:Ψ}(I:Inv X l σ H s) (n:Gl X x) (r:X.mg x=none) (t:kM x=some u) (h:Q u s)
  (hn:x ≠ "__name__" := by decide) (hd:(x == ("__debug__" : Str))=false:=by decide):jy (jA X.prog X.w) X.A (eval (.Name x pos) X.env) Q E s:=by
 obtain⟨y,h1,h2⟩:=I.mod.blt;exact Calls.Name_function_global I.ok.kind n (Calls.loadGlobal_builtin (by rw[I.ok.glob];exact I.mod.glob.keeps I.bk) r (by rw[I.ok.blt];exact h1.keeps I.bk) ((h2 x hn).trans t) h) hd
def BW{x:Str}{v:V}{u:Value}{pos:Pos}(l:Gl X x) (n:X.mg x=none) (s:kM x=some u) (r:qk v u) (hn:x ≠ "__name__" := by decide) (hd:(x == ("__debug__" : Str))=false:=by decide):PE X (.Name x pos) (tC v) :=
 λ_ _ _ H _ I h=>vt I l n s ⟨v,H,I,r,h⟩ hn hd
variable {a b:Expr}{ta tb:TE}{pos:Pos}
def PC(X:Cx) (op:CmpOp) (a b:Expr) (t:TE):Prop :=
 ∀(r:Φ) (s:Shared) (σ:St) (H:Hp) (Q:VK),Inv X r σ H s->t σ H Q ->
  jy (jA X.prog X.w) X.A (eval a X.env) (λv l=>jy (jA X.prog X.w) X.A (eval b X.env) (λu n=>jy (jA X.prog X.w) X.A (ko op v u) (EP X r σ Q) X.xe n) X.xe l) X.xe s
def tB(t:TE):TT:=λσ H Q=>t σ H λx l=>∃c,x = .bl c/\Q c l
def FB{op:CmpOp}{t:TE}(h:PC X op a b t) (h1:lJ op b=false:=by first|exact l _ (by decide) (by decide)|rfl):PT X (.Compare a [op] [b] pos) (tB t):=by
 intro r s σ H Q I hw;refine mV (sV (h r s σ H _ I hw) λv E h1=>sV h1 λu G h2=>sV h2 λc J n=>?_) h1
 obtain⟨x,y,z,B,C⟩:=n;obtain⟨d,rfl,q⟩:=C;cases B;exact jY ⟨y,z,q⟩
def Az{e:Expr}{t:TE}(h:PE X e t) (r:∀l,isTrue e X.env l=(do let v ←l;standAt e.pos;nU [v] (truthy v)):=by intro _;rfl):PT X e (tB t):=by
 intro u s σ H Q I hw;refine isTrue_plain (sV (h u s σ H _ I hw) λv E n=>?_) (r _)
 obtain⟨x,y,z,B,C⟩:=n;obtain⟨d,rfl,q⟩:=C;cases B;exact jY ⟨y,z,q⟩
variable {tA tB':TT}{sA:List Expr}
def YH(t u:TT):TT:=λσ H Q=>t σ H λc l=>if c=true then u σ l Q else Q false l
def tOr(t u:TT):TT:=λσ H Q=>t σ H λc l=>if c=true then Q true l else u σ l Q
def Z1(t:TT):TT:=λσ H Q=>t σ H λc l=>Q (!c) l
def Oo(ha:PT X a tA):PW X (.BoolOp .And [a] pos) tA:=by
 intro n l s σ H Q I h;refine isTrue_and (sV (ha l s σ H Q I h) λc r e=>?_)
 cases c with
 |true=>exact isTrue_and_nil e
 |false=>exact e
def Dc(ha:PT X a tA):PW X (.BoolOp .Or [a] pos) tA:=by
 intro n l s σ H Q I h;refine isTrue_or (sV (ha l s σ H Q I h) λc r e=>?_)
 cases c with
 |false=>exact isTrue_or_nil e
 |true=>exact e
def Ql(ha:PT X a tA) (x:PW X (.BoolOp .And (b::sA) pos) tB'):PW X (.BoolOp .And (a::b::sA) pos) (YH tA tB'):=by
 intro y n s σ H Q I h;refine isTrue_and (sV (ha n s σ H _ I h) λc z l=>?_)
 obtain⟨r,t,u⟩:=l;cases c with
 |true=>exact x y n z σ r Q t u
 |false=>exact⟨r,t,u⟩
def Bj(ha:PT X a tA) (x:PW X (.BoolOp .Or (b::sA) pos) tB'):PW X (.BoolOp .Or (a::b::sA) pos) (tOr tA tB'):=by
 intro y n s σ H Q I h;refine isTrue_or (sV (ha n s σ H _ I h) λc z l=>?_)
 obtain⟨r,t,u⟩:=l;cases c with
 |true=>exact⟨r,t,u⟩
 |false=>exact x y n z σ r Q t u
def Bs(ha:PT X a tA):PT X (.UnaryOp .Not a pos) (Z1 tA):=by
 intro l s σ H Q I h;exact isTrue_not (ha l s σ H (λc n=>Q (!c) n) I h)
def Wi(ta tb:TE):TE:=λσ H Q=>ta σ H λx l=>∃c,x = .bl c/\if c=true then tb σ l Q else Q (.bl false) l
def Wr(ta:TE):TE:=λσ H Q=>ta σ H λx l=>∃c,x = .bl c/\Q (.bl (!c)) l
def Xm{op} {t:TE}(h:PE X a t):PE X (.BoolOp op [a] pos) t:=λl s σ H Q I hw=>BoolOp_one (h l s σ H Q I hw)
def WV(ha:PE X a ta) (y:PE X (.BoolOp .And (b::sA) pos) tb):PE X (.BoolOp .And (a::b::sA) pos) (Wi ta tb):=by
 intro r s σ H Q I h;refine BoolOp_and (sV (ha r s σ H _ I h) λv z n=>?_)
 obtain⟨x,t,u,B,l⟩:=n;obtain⟨c,rfl,l⟩:=l;cases B;refine jY ?_;cases c with
 |true=>exact y r z σ t Q u l
 |false=>exact⟨.bl false,t,u,rfl,l⟩
def Yn(ha:PE X a ta):PE X (.UnaryOp .Not a pos) (Wr ta):=by
 intro r s σ H Q I h;refine UnaryOp_ (sV (ha r s σ H _ I h) λv z l=>?_)
 obtain⟨x,t,u,y,n⟩:=l;obtain⟨c,rfl,n⟩:=n;cases y;exact not_of (jY ⟨.bl (!c),t,u,rfl,n⟩)
end
def rN(K:Ζ) (H:Hp) (a:Addr) (xs:List V):Prop :=
 Rd H a (.lst xs) ∨
  ∃(o:Obj) (l:Ω) (n:Nat),K.lookup a=some o/\o.cls = .type "list" /\ o.dict=none/\o.data = .seq l n/\l.size<=jD/\pS xs l.toList
def BN(K:Ζ) (H:Hp) (a:Addr) (xs:List V):Prop :=
 Rd H a (.tup xs) ∨
  ∃(o:Obj) (l:Ω) (n:Nat),K.lookup a=some o/\o.cls = .type "tuple" /\ o.data = .seq l n/\l.size<=jD/\pS xs l.toList
def aaR:Value->Option V
 | .none=>some .non
 | .bool b=>some (.bl b)
 | .int i _=>some (.int i)
 | .str x _=>some (.str x)
 | .bytes b _=>some (.byt b)
 | .float b _=>some (.flt b)
 | .ref a=>some (.ref a)
 | .type n=>some (.ty n)
 |_=>none
def qk.abs{x:V}{u:Value}(r:qk x u):aaR u=some x:=by
 cases x with
 |non=>cases r;rfl
 |bl _=>cases r;rfl
 |int _=>obtain⟨t,rfl⟩:=r;rfl
 |str _=>obtain⟨t,rfl⟩:=r;rfl
 |byt _=>obtain⟨t,rfl⟩:=r;rfl
 |flt _=>obtain⟨t,rfl⟩:=r;rfl
 |ref _=>cases r;rfl
 |ty _=>cases r;rfl
theorem qk.inj{x y:V}{u:Value}(r:qk x u) (q:qk y u):x=y:=aN.inj (r.abs.symm.trans q.abs)
theorem pS.inj:∀{xs ys:List V}{us:Ξ},pS xs us->pS ys us->xs=ys
 |_,_,_,.nil,.nil=>rfl
 |_,_,_,.cons r t,.cons l n=>by rw[r.inj l,pS.inj t n]
section
variable {X:Cx}{og:Φ}{σ:St}{H:Hp}{s:Shared}{a:Addr}{xs ys:List V}
def rN.of{K:Ζ}(h:H a=some (.lst xs)):rN K H a xs:=.inl (.inl h)
def BN.of{K:Ζ}(h:H a=some (.tup xs)):BN K H a xs:=.inl (.inl h)
def Inv.list(I:Inv X og σ H s) (h:rN X.K H a xs):∃l:Ξ,pS xs l/\PlainL s.heap a l.toArray/\xs.length<=jD:=by
 rcases h with h|⟨o,l,n,hk,t,hd,u,x,r⟩
 .obtain ⟨z,l,n,r,e⟩:=h.ok I.hok;exact⟨l,r,⟨_,n,e,rfl,rfl,rfl⟩,z⟩
 .refine ⟨l.toList,r,⟨o,n,I.kIn a o hk,t,hd,by simpa using u⟩,?_⟩
  have e:=r.length;simp only[cH]at e;lia
def Inv.tuple(I:Inv X og σ H s) (h:BN X.K H a xs):∃l:Ξ,pS xs l/\IsTup s.heap a l.toArray/\xs.length<=jD:=by
 rcases h with h|⟨o,l,n,hk,t,u,x,r⟩
 .obtain ⟨z,l,r,p⟩:=h.ok I.hok;exact⟨l,r,p,z⟩
 .refine ⟨l.toList,r,⟨o,I.kIn a o hk,t,n,by simpa using u⟩,?_⟩
  have e:=r.length;simp only[cH]at e;lia
def Inv.list_inj(I:Inv X og σ H s) (h:rN X.K H a xs) (h':rN X.K H a ys):xs=ys:=by
 obtain⟨t,r,⟨o,n,e,_,_,d⟩,_⟩:=I.list h;obtain⟨l,y,⟨z,B,u,_,_,x⟩,_⟩:=I.list h';rw[e]at u;cases u;rw[d]at x;injection x with d1 _
 have:t=l:=by simpa using congrArg Array.toList d1
 subst this;exact r.inj y
end
abbrev Cx.wish(X:Cx) (E:Ψ):Cx:={ X with xe:=E }
abbrev Cx.nox(X:Cx):Cx:=X.wish λ_ _=>False
theorem Cx.Ok.wish{X:Cx}(ok:X.Ok) (E:Ψ):(X.wish E).Ok :=
 ⟨ok.mod,ok.kind,ok.glob,ok.blt,ok.above,ok.inj,ok.has,ok.cab,ok.hd,ok.frames,ok.stk,ok.exf,ok.bs,ok.bsz,ok.noex,ok.exfs,ok.funs,ok.frf,ok.tb⟩
def Cx.Ok.unwish{X:Cx}{E:Ψ}(ok:(X.wish E).Ok):X.Ok :=
 ⟨ok.mod,ok.kind,ok.glob,ok.blt,ok.above,ok.inj,ok.has,ok.cab,ok.hd,ok.frames,ok.stk,ok.exf,ok.bs,ok.bsz,ok.noex,ok.exfs,ok.funs,ok.frf,ok.tb⟩
section
variable {X:Cx}{og:Φ}{σ:St}{H:Hp}{s:Shared}{E:Ψ}
theorem Inv.wish(I:Inv X og σ H s) (E:Ψ):Inv (X.wish E) og σ H s:=⟨I.ok.wish E,I.os,I.bare,I.base,I.loc,I.cell,I.free,I.freeC,I.pin,I.hok,I.len⟩
theorem Inv.unwish(I:Inv (X.wish E) og σ H s):Inv X og σ H s:=⟨I.ok.unwish,I.os,I.bare,I.base,I.loc,I.cell,I.free,I.freeC,I.pin,I.hok,I.len⟩
theorem SP.unwish{D:A5}{f:Flow}{t:Shared}(h:SP (X.wish E) og D f t):SP X og D f t:=by
 cases f with
 |next=>obtain⟨l,n,I,q⟩:=h;exact⟨l,n,I.unwish,q⟩
 |brk=>obtain⟨l,n,I,q⟩:=h;exact⟨l,n,I.unwish,q⟩
 |cont=>obtain⟨l,n,I,q⟩:=h;exact⟨l,n,I.unwish,q⟩
 |ret u=>obtain⟨v,l,n,I,r,q⟩:=h;exact⟨v,l,n,I.unwish,r,q⟩
theorem Me.nox{st:List Stmt}{t:TS}(h:Me X.nox st t):Me X st t:=λog s σ H D I hw =>
 jO (h og s σ H D (I.wish _) hw) (λ_ _ q=>q.unwish) λ_ _ z=>False.elim z
end
section
variable {X:Cx}{st:Stmt}{sA:List Stmt}{t u:TS}{e:Expr}{te:TE}{pos:Pos}
def V6:TS:=λD σ H=>D.nx σ H
def Ra(t u:TS):TS:=λD σ H=>t { D with nx:=u D } σ H
def qi:Me X [] V6:=λ_ _ σ H _ I h=>lU ⟨σ,H,I,h⟩
def oi(h1:PS X st t) (h2:Me X sA u):Me X (st::sA) (Ra t u):=by
 intro n s σ H D I h;refine wpAny_execs_cons (sV (h1 n s σ H { D with nx:=u D } I h) λf r q=>?_)
 cases f with
 |next =>
  obtain⟨l,x,y,q⟩:=q;exact h2 n r l x D y q
 |ret v=>exact q
 |brk=>exact q
 |cont=>exact q
def oz(h1:PS X st t):Me X [st] t:=by
 intro l s σ H D I h;refine wpAny_execs_cons (sV (h1 l s σ H D I h) λf n q=>?_)
 cases f with
 |next=>exact lU q
 |ret v=>exact q
 |brk=>exact q
 |cont=>exact q
def Inv.quiet{l:Φ}{σ:St}{H:Hp}{s:Shared}(I:Inv X l σ H s):interactive X.env=false:=by simp[interactive,I.ok.kind]
def BP(te:TE):TS:=λD σ H=>te σ H λ_ l=>D.nx σ l
def qM(n:PE X e te) (r:mN e none pos.line X.env=pure false:=by rfl):PS X (.Expr e pos) (BP te):=by
 intro y s σ H D I h;refine wpAny_Expr_any (sV (n y s σ H _ I h) λv E l=>?_) I.quiet r
 obtain⟨x,z,B,G,C⟩:=l;exact⟨σ,z,B,C⟩
def YU(te:TE):TS:=λD σ H=>te σ H D.rt
def pH(n:PE X e te):PS X (.Return (some e) pos) (YU te):=by
 intro r s σ H D I h;refine wpAny_Return_some (sV (n r s σ H _ I h) λv E l=>?_)
 obtain⟨x,y,z,B,C⟩:=l;exact⟨x,σ,y,z,B,C⟩
def Uz(c:TT) (t u:TS):TS:=λD σ H=>c σ H λb l=>if b=true then t D σ l else u D σ l
def rR{c:Expr}{a b:List Stmt}{tc:TT}(B:PT X c tc) (ha:Me X a t) (C:Me X b u):PS X (.If c a b pos) (Uz tc t u):=by
 intro l s σ H D I h;refine wpAny_If (sV (B l s σ H _ I h) λd r n=>?_)
 obtain⟨x,y,z⟩:=n;cases d with
 |true=>exact ha l r σ x D y z
 |false=>exact C l r σ x D y z
def QE:TS:=λ_ _ _=>False
def Ck:PS X st QE:=λ_ _ _ _ _ _ h=>h.elim
end
abbrev TG:=V->St->Hp->(St->Hp->Prop)->Prop
abbrev Xl:=List V->St->Hp->(St->Hp->Prop)->Prop
def PG(X:Cx) (l:Expr) (t:TG):Prop :=
 ∀(r:Φ) (s:Shared) (σ:St) (H:Hp) (v:V) (u:Value) (Q:St->Hp->Prop),Inv X r σ H s->qk v u->t v σ H Q ->
  jy (jA X.prog X.w) X.A (nr l X.env u) (λ_ y=>∃n x,Inv X r n x y/\Q n x) X.xe s
def PGs(X:Cx) (u:List Expr) (t:Xl):Prop :=
 ∀(n:Φ) (s:Shared) (σ:St) (H:Hp) (vs:List V) (us:Ξ) (Q:St->Hp->Prop),Inv X n σ H s->pS vs us->t vs σ H Q ->
  jy (jA X.prog X.w) X.A (assignInOrder ((lW u X.env).map (·.2)) us) (λ_ x=>∃l r,Inv X n l r x/\Q l r) X.xe s
abbrev TIp:=V->V->Hp->VK->Prop
def PIp(X:Cx) (op:Operator) (t:TIp):Prop :=
 ∀(l:Φ) (s:Shared) (σ:St) (H:Hp) (x y:V) (v u:Value) (Q:VK),Inv X l σ H s->qk x v->qk y u->t x y H Q ->
  jy (jA X.prog X.w) X.A (inplaceOp op v u) (EP X l σ Q) X.xe s
section
variable {X:Cx}{pos:Pos}
def sq(i:Nat):TG:=λv σ H Q=>Q (σ.set i (some v)) H
def HN{i:Nat}{x:Str}(l:X.N.Nodup) (n:X.N[i]?=some x) (t:VQ X.env.scope x) (hf:X.fn x=true∨X.env.scope.names.lookup x=some .local:=by trivial):PG X (.Name x pos) (sq i):=by
 intro z s σ H v u Q I r h;exact wpAny_assign_Name (Ff I l n t r (λB y=>⟨_,H,y,h⟩) hf)
def Md:Xl:=λvs σ H Q=>vs=[]/\Q σ H
def yA(t:TG) (u:Xl):Xl:=λvs σ H Q=>∃v r,vs=v::r/\t v σ H λl n=>u r l n Q
def BO:PGs X [] Md:=by
 intro l s σ H n t Q I r h;obtain⟨e,h⟩:=h;subst e;cases r;exact assignInOrder_nil ⟨σ,H,I,h⟩
def uA{e:Expr}{es:List Expr}{t:TG}{u:Xl}(h1:PG X e t) (h2:PGs X es u)
  (y:(lW (e::es) X.env).map (·.2)=nr e X.env::(lW es X.env).map (·.2):=by rfl):PGs X (e::es) (yA t u):=by
 intro x s σ H L M Q I r h;obtain⟨v,O,z,h⟩:=h;subst z;cases r with
 |cons r B =>
  rw[y];refine assignInOrder_cons (sV (h1 x s σ H _ _ _ I r h) λ_ C l=>?_)
  obtain⟨n,E,G,J⟩:=l;exact h2 x C n E _ _ Q G B J
def Lg(K:Ζ) (n:Nat) (t:Xl):TG:=λv σ H Q=>∃a xs,v = .ref a/\BN K H a xs/\xs.length=n/\t xs σ H Q
def En{es:List Expr}{k:Nat}{t:Xl}{n:Nat}(z:X.calm=true) (h:PGs X es t)
  (hn:(lW es X.env).length=n:=by rfl) (l:(lW es X.env).findIdx? (·.1)=none:=by rfl):PG X (.Tuple es k pos) (Lg X.K n t):=by
 intro x s σ H v u Q I r hw;obtain⟨a,B,C,E,hl,hw⟩:=hw;subst C;cases r;obtain⟨G,y,ht,O⟩:=I.tuple E;refine assign_Tuple_tuple (I.ok.hd z) ht (by simp[hn,←hl,y.length]) l λJ L=>?_
 have M:Inv X x σ H { s with heap:=J }:=I.kept (t':=s.toks) λb o e=>L b o (ao (ag e)) e
 exact h x _ σ H B _ Q M (by simpa using y) hw
def Gv(te:TE) (g:TG):TS:=λD σ H=>te σ H λx l=>g x σ l D.nx
def QL{l e:Expr}{te:TE}{g:TG}(t:PE X e te) (u:PG X l g) (y:swapsWithSole [l] e pos.line X.env=pure false:=by rfl) (hw:swappedStores [l] e X.env=pure none:=by rfl)
  (h1:(lW [l] X.env).map (·.2)=[nr l X.env]:=by rfl):PS X (.Assign [l] e pos) (Gv te g):=by
 intro r s σ H D I h;refine wpAny_Assign_stores (sV (t r s σ H _ I h) λv z n=>?_) y hw
 obtain⟨x,B,C,E,G⟩:=n;rw[h1];exact sV (u r z σ B x v _ C E G) λ_ J q=>q
def Yb{i:Nat}{x:Str}{e:Expr}{te:TE}{l:Pos}(r:X.N.Nodup) (t:X.N[i]?=some x) (u:VQ X.env.scope x) (z:PE X e te) (B:mN e (some (.Name x l)) pos.line X.env=pure false:=by rfl) (hf:X.fn x=true∨X.env.scope.names.lookup x=some .local:=by trivial) :
  PS X (.Assign [.Name x l] e pos) (Gv te (sq i)):=by
 intro C s σ H D I h;refine wpAny_Assign_Name (sV (z C s σ H _ I h) λv O n=>?_) B
 obtain⟨y,E,G,J,L⟩:=n;exact Ff G r t u J (λP M=>⟨_,E,M,L⟩) hf
def Y3(i:Nat) (te:TE) (ti:TIp):TS:=λD σ H=>∃x,σ[i]?=some (some x)/\te σ H λy l=>ti x y l λz n=>D.nx (σ.set i (some z)) n
def WG{i:Nat}{x:Str}{e:Expr}{te:TE}{op:Operator}{ti:TIp}{B:Pos}(M:X.N.Nodup) (L:X.N[i]?=some x) (G:VQ X.env.scope x) (O:PE X e te) (P:PIp X op ti) (hf:X.fn x=true∨X.env.scope.names.lookup x=some .local:=by trivial) :
  PS X (.AugAssign (.Name x B) op e pos) (Y3 i te ti):=by
 intro J s σ H D I h;obtain⟨v,Q,h⟩:=h;obtain⟨m,hn,hl⟩:=I.loc;have vis:Zr X.env.scope x:=by rcases G with k|k;exact .inl k;exact .inr (.inl k)
 obtain⟨u,r,l⟩:=hl i x v L Q vis;refine wpAny_AugAssign_Name ?_;have go:jy (jA X.prog X.w) X.A (eval e X.env) (λw C=>jy (jA X.prog X.w) X.A (inplaceOp op u w) (λr E=>jy (jA X.prog X.w) X.A (storeName X.env x r) (λ_=>SP X J D .next) X.xe E) X.xe C) X.xe s:=by
  refine sV (O J s σ H _ I h) λw R n=>?_
  obtain⟨y,S,U,Y,q1⟩:=n;refine sV (P J R σ S v y u w _ U r Y q1) λz s2 n=>?_
  obtain⟨zv,H2,I2,r2,q2⟩:=n;exact Ff I2 M L G r2 (λs3 I3=>⟨_,H2,I3,q2⟩) hf
 rcases l with ⟨hk,hm⟩|⟨hk,c,hc,t⟩
 .exact nv I.ok.kind hk hn hm go
 .rcases hk with hk|hk
  .exact nL I.ok.kind hk hc t go
  .rcases G with k|k
   .have:X.env.scope.names.lookup x=some .free:=hk;rw[k]at this;cases this
   .have:X.env.scope.names.lookup x=some .free:=hk;rw[k]at this;cases this
def ipI(f:Int->Int->Int):TIp:=λx y H Q=>∃i j,x = .int i/\y = .int j/\Q (.int (f i j)) H
def XG:PIp X .Add (ipI λi j=>i+j):=by
 intro B s σ H x y v u Q I l n h;obtain⟨i,j,r,z,q⟩:=h;subst r;subst z;obtain⟨t,rfl⟩:=l;obtain⟨C,rfl⟩:=n;exact iadd_int ⟨.int _,H,I.tok _,⟨_,rfl⟩,q⟩
end
section
variable {X:Cx}{pos:Pos}
def RW(c:TT) (tb:TS):TS:=λD σ H=>∃W:Nat->St->Hp->Prop,(∃m,W m σ H)/\∀m σ H,W m σ H ->
 c σ H λb n=>if b=true then ∃N:St->Hp->Prop,(∀l r,N l r->∃s,s<m/\W s l r)/\tb { D with nx:=N,ct:=N,bk:=D.nx } σ n else D.nx σ n
def B0{c:Expr}{body:List Stmt}{tc:TT}{tb:TS}(M:PassesOwn (jA X.prog X.w) X.A X.env X.xe) (U:PT X c tc) (Y:Me X body tb):PS X (.While c body [] pos) (RW tc tb):=by
 intro z s σ H D I h;obtain⟨W,⟨m0,w0⟩,turn⟩:=h;refine wpAny_While (codeAny_whileLoop (λn s'=>∃t O,Inv X z t O s'/\W n t O) ?_ m0 ⟨σ,H,I,w0⟩)
 rintro n s1 ⟨r,P,I1,w1⟩;refine kC M (sV (U z s1 r P _ I1 (turn n r P w1)) λb s2 B=>?_)
 obtain⟨Q,R,x⟩:=B;cases b with
 |true =>
  obtain⟨N,S,x⟩:=x;rw[qd rfl];refine kC M (sV (Y z s2 r Q _ R x) λf s3 y=>?_)
  cases f with
  |next =>
   obtain⟨l,u,C,E⟩:=y;obtain⟨G,J,L⟩:=S l u E;exact⟨G,J,l,u,C,L⟩
  |cont =>
   obtain⟨l,u,C,E⟩:=y;obtain⟨G,J,L⟩:=S l u E;exact⟨G,J,l,u,C,L⟩
  |brk=>exact y
  |ret v=>exact y
 |false =>
  rw[qh aL];exact lU ⟨r,Q,R,x⟩
end
structure It where
 go:Nat->Hp->Prop
 yld:Nat->Hp->V->Hp->Prop
 stop:Nat->Hp->Prop
def vk(X:Cx) (l:Φ) (H:Hp) (b:Addr):Prop :=
 H b=none/\b≠X.env.locals/\b∉X.fs/\(b∈X.ex∨X.s₀.heap.objs.size<=b)/\(∀x c,X.env.cells.lookup x=some c->c≠b)/\∀p∈X.pn++l,p.1≠b
def Inv.fpOk{X:Cx}{n:Φ}{σ:St}{H r:Hp}{s:Shared}{b:Addr}(I:Inv X n σ H s) (l:s.heap.objs.size<=b) (hn:r b=none):vk X n r b:=by
 refine⟨hn,aO (aK I.lt l),I.nofs l,.inr (bq I.sz l),λx c e z=>?_,λp t z=>?_⟩
 .obtain ⟨v,q⟩:=I.cell x c e;exact absurd (aK q.lt (by rw[z];exact l)) (cL _)
 .exact absurd (aK (ag (I.pin p t).1) (by rw[z];exact l)) (cL _)
structure My (P:jC) (w:jF) (K:Ζ) (tg:Expr) (J:It) (fp:Δ) (it:Addr) (tn:Nat->Heap->Prop):Prop where
 mem:it∈fp
 obj:∀i h,tn i h->∀b∈fp,∃o,h.get? b=some o/\∀v,o.data ≠ .cell v
 keep:∀i h h',tn i h->(∀b∈fp,∀o,h.get? b=some o->h'.get? b=some o)->tn i h'
 item:∀(X:Cx),X.prog=P->X.w=w->X.K=K->X.calm=true->∀(i:Nat) (og:Φ) (s:Shared) (σ:St) (H:Hp) (E:Ψ),Inv X og σ H s->(∀b∈fp,vk X og H b)->tn i s.heap->J.go i H ->
  jy (jA P w) X.A (ke (.ref it)) (λr s1=>∃u,r=some u /\
   jy (jA P w) X.A (lV tg (.ref it) u) (λ_ s2=>∃x H',Inv X og σ H' s2/\qk x u/\J.yld i H x H'/\tn (i+1) s2.heap/\∀b∈fp,H' b=none) E s1) E s
 done:∀(X:Cx),X.prog=P->X.w=w->X.K=K->X.calm=true->∀(i:Nat) (og:Φ) (s:Shared) (σ:St) (H:Hp) (E:Ψ),Inv X og σ H s->(∀b∈fp,vk X og H b)->tn i s.heap->J.stop i H ->
  jy (jA P w) X.A (ke (.ref it)) (λr s1=>r=none/\Inv X og σ H s1) E s
 self:∀(A:Around) (i:Nat) (s:Shared) (Q:Ψ) (E:Ψ),tn i s.heap->Q (.ref it) s->jy (jA P w) A (pyIter (.ref it)) Q E s
abbrev TI:=St->Hp->(It->Hp->Prop)->Prop
def PIE(X:Cx) (r:Φ) (σ:St) (x:Expr) (R:It->Hp->Prop) (l:Value) (s:Shared):Prop :=
 ∃(t:Addr) (fp:Δ) (u:Nat->Heap->Prop) (J:It) (n:Hp),l = .ref t/\Inv X r σ n s/\My X.prog X.w X.K x J fp t u/\u 0 s.heap/\(∀b∈fp,vk X r n b)/\R J n
def PI(X:Cx) (n iter:Expr) (r:TI):Prop :=
 ∀(l:Φ) (s:Shared) (σ:St) (H:Hp) (R:It->Hp->Prop),Inv X l σ H s->r σ H R ->
  jy (jA X.prog X.w) X.A (eval iter X.env) (λv t=>jy (jA X.prog X.w) X.A (pyIter v) (PIE X l σ n R) X.xe t) X.xe s
def RJ{M:Model}{A:Around}{E:Ψ}{s:Shared}{r:Expr}{t:Addr}{u:Value}{o:Obj}{n:String}{vs:Ω}{Q:Unit->Shared->Prop}(x:s.heap.get? t=some o) (y:o.cls = .type n) (hd:o.data = .fields vs)
    (hn:["enumerate","zip","dict_itemiterator","dict_reverseitemiterator","odict_iterator","itertools.zip_longest","itertools.pairwise"].contains n=false) (l:Q () s):jy M A (lV r (.ref t) u) Q E s:=by
  unfold lV;cases r <;> first
    |exact jz l
    | (cases u <;> first
        |exact jz l
        | (refine jx (wpAny_load x ?_)
           rw[y,hd];show jy M A (if (["enumerate","zip","dict_itemiterator","dict_reverseitemiterator","odict_iterator","itertools.zip_longest","itertools.pairwise"].contains n && vs[0]? == some (mH _))=true then _ else _) Q E s
           rw[qh (by intro h;rw[hn,jb]at h;cases h)]
           exact jz l))
def YS(K:Ζ) (a:Addr):It :=
 ⟨λi H=>∃xs x,rN K H a xs/\xs[i]?=some x,λi H x l=>l=H/\∀xs,rN K H a xs->xs[i]?=some x,λi H=>∃xs,rN K H a xs/\xs.length<=i⟩
def UZ(lo:Int) (n:Nat):It:=⟨λi _=>i<n,λi H x l=>l=H/\x = .int (lo+i),λi _=>n<=i⟩
def Pu{P:jC}{w:jF}{K:Ζ}{U:Expr}(a l:Addr):My P w K U (YS K a) [l] l (λi h=>h.IsListIter l a i) where
 mem:=by simp
 obj:=λi h st b n=>by
  have e:b=l:=by simpa using n
  subst e;obtain⟨o,e,c,d⟩:=st;exact⟨o,e,λv z=>by rw[d]at z;cases z⟩
 keep:=λi h h' st k=>st.at λo e=>k l (by simp) o e
 item:=by
  intro X hP hw y R i S s σ H E I hf st B;subst hP hw y;obtain⟨xs,x,t,C⟩:=B;obtain⟨G,J,p,Y⟩:=I.list t;obtain⟨u,hu,ru⟩:=J.get C;obtain⟨L,f1,f2,M,O,Q⟩:=hf l (by simp)
  refine wpAny_pyNext_list_item st p.isList (x:=u) (by simpa using hu) λh' r sb=>?_
  have I1:Inv X S σ H { s with heap:=h' }:=I.turned (t':=s.toks) (λb o n e=>(sb.2 b n).trans e) L f1 M O Q
  obtain⟨o,e,c,d⟩:=id r;exact⟨u,rfl,RJ (s:={ s with heap:=h' }) e c d (by decide) ⟨x,H,I1,ru,⟨rfl,λys hy=>by rw[I.list_inj hy t];exact C⟩,r,λb n=>(hf b n).1⟩⟩
 done:=by
  intro X hP hw y R i S s σ H E I hf st B;subst hP hw y;obtain⟨xs,t,C⟩:=B;obtain⟨G,J,p,Y⟩:=I.list t;obtain⟨L,f1,f2,M,O,Q⟩:=hf l (by simp)
  have hl:=J.length;exact wpAny_pyNext_list_end (I.ok.hd R) st p.isList (by simp;lia) λh' eb=>⟨rfl,I.turned (t':=s.toks) (λb o n e=>eb b o n e) L f1 M O Q⟩
 self:=λ_ _ _ _ _ st h=>wpAny_pyIter_listiter st h
def Mn{P:jC}{w:jF}{K:Ζ}{O:Expr}(l:Addr) (lo:Int) (n:Nat):My P w K O (UZ lo n) [l] l (λi h=>IsRangeIter h l (lo+(i:Nat)*1) ((n:Int)-(i:Nat)) 1) where
 mem:=by simp
 obj:=λi h st b r=>by
  have e:b=l:=by simpa using r
  subst e;exact⟨_,st,λv z=>by
   have Q:Data.fields _=Data.cell v:=z;cases Q⟩
 keep:=λi h h' st k=>k l (by simp) _ st
 item:=by
  intro X hP hw x y i M s σ H E I hf st B;subst hP hw x;obtain⟨C,f1,f2,G,J,L⟩:=hf l (by simp)
  have W:=Walks.range (prog:=X.prog) (w:=X.w) (I.ok.hd y) l lo 1 n;refine W.item i s _ _ B st λv h' tk R u S=>?_
  obtain⟨t,rfl⟩:=R;have U:Inv X M σ H { s with heap:=h',toks:=tk }:=I.turned (λb o r e=>S b o (by simpa using r) e) C f1 G J L
  refine⟨_,rfl,RJ (s:={ s with heap:=h',toks:=tk }) (n := "range_iterator") u rfl rfl (by decide) ⟨.int (lo+i),H,U,⟨t,?_⟩,⟨rfl,rfl⟩,u,λb r=>(hf b r).1⟩⟩
  rw[gh]
 done:=by
  intro X hP hw x y i M s σ H E I hf st B;subst hP hw x;obtain⟨C,f1,f2,G,J,L⟩:=hf l (by simp)
  exact wpAny_pyNext_range_end (I.ok.hd y) st (by have:n<=i:=B;lia) λh' Y=>⟨rfl,I.turned (t':=s.toks) (λb o r e=>Y b o r e) C f1 G J L⟩
 self:=λ_ _ _ _ _ st h=>wpAny_pyIter_rangeiter st h
section
variable {X:Cx}{tg:Expr}
def Ri(K:Ζ) (tl:TE):TI:=λσ H R=>tl σ H λx l=>∃a,x = .ref a/\(∃xs,rN K l a xs)/\R (YS K a) l
def qp{l:Expr}{tl:TE}(hl:PE X l tl):PI X tg l (Ri X.K tl):=by
 intro u s σ H R I h;refine sV (hl u s σ H _ I h) λv n t=>?_
 obtain⟨x,y,r,z,B⟩:=t;obtain⟨a,e,⟨J,C⟩,q⟩:=B;subst e;cases z;obtain⟨E,L,p,M⟩:=r.list C;refine lx p.isList ?_;refine⟨n.heap.objs.size,[n.heap.objs.size],_,_,y,rfl,r.kept (t':=n.toks) λb o e=>ae _ e,Pu a _,⟨_,aC _ rfl,rfl,rfl⟩,λb G=>?_,q⟩
 have e:b=n.heap.objs.size:=by simpa using G
 subst e;exact r.fpOk (ab _) (r.hok.fresh (ab _))
def R8{n:Φ}{σ:St}{H:Hp}{s:Shared}{R:It->Hp->Prop}{E:Ψ}{lo l:Int}{t u v:Tok}{tk:Nat}(I:Inv X n σ H s) (h1:-(2 ^ 62)<=lo) (h2:lo<2 ^ 62) (x:-(2 ^ 62)<=l) (y:l<2 ^ 62)
  (q:R (UZ lo (l-lo).toNat) H):jy (jA X.prog X.w) X.A (pyIter (.ref s.heap.objs.size)) (PIE X n σ tg R) E { s with heap:=s.heap.push { cls:=.type "range", data:=.fields #[.int lo t,.int l u,.int 1 v] },toks:=tk }:=by
 refine wpAny_pyIter_range (IsRange.new ..) (small_one h1 h2 x y) ?_;have r:Inv X n σ H { s with heap:=s.heap.push { cls:=.type "range", data:=.fields #[.int lo t,.int l u,.int 1 v] },toks:=tk }:=I.kept λb o e=>ae _ e
 refine⟨(s.heap.push { cls:=.type "range", data:=.fields #[.int lo t,.int l u,.int 1 v] }).objs.size,[(s.heap.push { cls:=.type "range", data:=.fields #[.int lo t,.int l u,.int 1 v] }).objs.size],_,_,H,rfl,
  r.kept (t':=tk) λb o e=>ae _ e,Mn _ lo (l-lo).toNat,?_,λb z=>?_,q⟩
 .have B:lo+((0:Nat):Int)*1=lo:=by simp
  have C:(((l-lo).toNat:Nat):Int)-((0:Nat):Int)=Builtin.Range.rangeSize lo l 1:=by rw[rangeSize_one];split <;> lia
  show IsRangeIter _ _ (lo+((0:Nat):Int)*1) ((((l-lo).toNat:Nat):Int)-((0:Nat):Int)) 1;rw[B,C];exact aC _ rfl
 .have e:b=(s.heap.push { cls:=.type "range", data:=.fields #[.int lo t,.int l u,.int 1 v] }).objs.size:=by simpa using z
  subst e;exact r.fpOk (ab _) (r.hok.fresh (ab _))
def Q9(l:TA):TI:=λσ H R=>l σ H λvs n=>∃j:Int,vs=[.int j]/\-(2 ^ 62)<=j/\j<2 ^ 62/\R (UZ 0 j.toNat) n
def ui{a:Expr}{u:TA}{p pos:Pos}(x:Gl X "range") (y:X.mg "range" = none) (ha:PA X [a] u) (z:jH [a] X.env=[(false,eval a X.env)]:=by rfl):PI X tg (.Call (.Name "range" p) [a] [] pos) (Q9 u):=by
 intro B s σ H R I h;refine Call_ (vt I x y boot_range (bb (sV (ha pos B s σ H _ I h) λL M l=>?_) z rfl))
 obtain⟨O,P,C,E,n⟩:=l;obtain⟨j,e,n,G,q⟩:=n;subst e;cases E with
 |cons r J =>
  cases J;obtain⟨t,rfl⟩:=r;exact call_range_1 (R8 C (by lia) (by lia) n G (by simpa using q))
def Po(t:TI) (g:TG) (tb:TS):TS:=λD σ H=>t σ H λJ u=>∃W:Nat->Nat->St->Hp->Prop,(∃m,W 0 m σ u)/\∀i m σ H,W i m σ H ->
 (J.stop i H/\D.nx σ H)∨(J.go i H/\∃N:St->Hp->Prop,(∀l n,N l n->∃s,s<m/\W (i+1) s l n)/\∀x n,J.yld i H x n->g x σ n λr y=>tb { D with nx:=N,ct:=N,bk:=D.nx } r y)
def EW(fp:Δ) (h:Heap):Φ:=fp.filterMap λb=>(h.get? b).map λo=>(b,o)
def zp{fp:Δ}{h:Heap}{b:Addr}{o:Obj}(l:b∈fp) (e:h.get? b=some o):(b,o)∈EW fp h:=ic.mpr ⟨b,l,by rw[e];rfl⟩
def Pe{fp:Δ}{h:Heap}{p:Addr×Obj}(l:p∈EW fp h):p.1∈fp/\h.get? p.1=some p.2:=by
 obtain⟨b,n,e⟩:=ic.mp l;cases q:h.get? b with
 |none=>rw[q]at e;cases e
 |some o =>
  rw[q]at e;have r:(b,o)=p:=aN.inj e;subst r;exact⟨n,q⟩
def Inv.pinned{l:Φ}{σ:St}{H:Hp}{s:Shared}{fp:Δ}(I:Inv X l σ H s) (hf:∀b∈fp,vk X l H b) (t:∀b∈fp,∃o,s.heap.get? b=some o/\∀v,o.data ≠ .cell v):Inv X (l++EW fp s.heap) σ H s :=
 I.pins_of λp u=>(mAq.mp u).elim (λz=>I.pin p (ay _ z)) λz=>by
  obtain⟨n,e⟩:=Pe z;obtain⟨x,f1,f2,_⟩:=hf p.1 n;obtain⟨o,r,d⟩:=t p.1 n;rw[e]at r;cases r;exact⟨e,x,f1,f2,d⟩
def Inv.unpinned{l pl:Φ}{σ:St}{H:Hp}{s:Shared}(I:Inv X (l++pl) σ H s):Inv X l σ H s:=I.pins_of λp n=>I.pin p (ay _ (cE _ n))
def rY{iter:Expr}{body:List Stmt}{wi:TI}{g:TG}{tb:TS}{pos:Pos}(Q:PassesOwn (jA X.prog X.w) X.A X.env X.xe) (hc:X.calm=true) (hi:PI X tg iter wi) (hg:PG X tg g) (y:Me X body tb)
  (hs:∀x,mv iter X.env x=pure x:=by intro _;rfl):PS X (.For tg iter body [] pos) (Po wi g tb):=by
 intro O s σ H D I h;refine wpAny_For (sV (hi O s σ H _ I h) λv s1 h1=>sV h1 λitv s2 h2=>?_) hs
 obtain⟨it,R,tn,J,H2,e,I2,T,IR,f2,W,⟨m0,w0⟩,turn⟩:=h2;subst e;have z:∀{L:Hp},(∀b∈R,L b=none)->∀b∈R,vk X O L b:=λhn b y=>⟨hn b y,(f2 b y).2⟩
 refine codeAny_forLoop_any (λn s'=>∃i B L,Inv X O B L s'/\tn i s'.heap/\(∀b∈R,L b=none)/\W i n B L) ?_ m0 ⟨0,σ,H2,I2,IR,λb y=>(f2 b y).1,w0⟩
 rintro n s3 ⟨i,C,Y,I3,st3,S,w3⟩;rcases turn i n C Y w3 with ⟨stop,qn⟩|⟨go,N,hN,step⟩
 .refine kC Q (sV (T.done X rfl rfl rfl hc i O s3 C Y X.xe I3 (z S) st3 stop) λr s4 t=>?_)
  obtain⟨hr,I4⟩:=t;subst hr;exact lU ⟨C,Y,I4,qn⟩
 .refine kC Q (sV (T.item X rfl rfl rfl hc i O s3 C Y X.xe I3 (z S) st3 go) λr s4 t=>?_)
  obtain⟨u,hr,h4⟩:=t;subst hr;refine kC Q (sV h4 λ_ s5 t=>?_)
  obtain⟨x,H5,I5,r5,y5,P,fr5⟩:=t;have I5':=I5.pinned (z fr5) (T.obj _ _ P);refine kC Q (sV (hg _ s5 C H5 x u _ I5' r5 (step x H5 y5)) λ_ s6 t=>?_)
  obtain⟨σ6,H6,I6,q6⟩:=t;refine kC Q (sV (y _ s6 σ6 H6 _ I6 q6) λf s7 M=>?_)
  have again:∀{l:St}{E:Hp},Inv X (O++EW R s5.heap) l E s7->N l E->∃m,m<n/\∃i B L,Inv X O B L s7/\tn i s7.heap/\(∀b∈R,L b=none)/\W i m B L:=λ{l E} G U=>by
   obtain⟨m',hm,w7⟩:=hN l E U;refine⟨m',hm,i+1,l,E,G.unpinned,T.keep _ _ _ P λb y o e=>(G.pin (b,o) (ay _ (ay _ (zp y e)))).1,λb y=>?_,w7⟩
   obtain⟨o,e,d⟩:=T.obj _ _ P b y;exact(G.pin (b,o) (ay _ (ay _ (zp y e)))).2.1
  cases f with
  |next=>obtain⟨l,E,G,U⟩:=M;exact again G U
  |cont=>obtain⟨l,E,G,U⟩:=M;exact again G U
  |brk=>obtain⟨l,E,G,M⟩:=M;exact⟨l,E,G.unpinned,M⟩
  |ret v=>obtain⟨x7,l,E,G,r7,M⟩:=M;exact⟨x7,l,E,G.unpinned,r7,M⟩
end
def Rk{K:Ζ}{a:Addr}{xs:List V}{g:TG}{tb:TS}{D:A5}{σ:St}{H:Hp}(l:Nat->St->Hp->Prop) (B:l 0 σ H) (hl:∀i σ H,i<=xs.length->l i σ H->rN K H a xs)
  (C:∀i x σ H,xs[i]?=some x->l i σ H->g x σ H λn u=>tb { D with nx:=l (i+1),ct:=l (i+1),bk:=D.nx } n u) (hd:∀σ H,l xs.length σ H->D.nx σ H) :
  ∃W:Nat->Nat->St->Hp->Prop,(∃m,W 0 m σ H)/\∀i m σ H,W i m σ H ->
   ((YS K a).stop i H/\D.nx σ H)∨((YS K a).go i H/\∃N:St->Hp->Prop,(∀r s,N r s->∃z,z<m/\W (i+1) z r s)/\∀x s,(YS K a).yld i H x s->g x σ s λn u=>tb { D with nx:=N,ct:=N,bk:=D.nx } n u):=by
 refine⟨λi m σ H=>m=xs.length-i/\i<=xs.length/\l i σ H,⟨xs.length,by simp,aE _,B⟩,?_⟩
 rintro i m σ H ⟨rfl,E,p⟩;have q:=hl i σ H E p
 by_cases t:i<xs.length
 .refine .inr ⟨⟨xs,xs[i],q,by simp[t]⟩,l (i+1),λr s G=>⟨xs.length-(i+1),by lia,rfl,t,G⟩,λx s y=>?_⟩
  obtain⟨e,y⟩:=y;subst e;exact C i x σ _ (y xs q) p
 .have e:i=xs.length:=by lia
  subst e;exact .inl ⟨⟨xs,q,ab _⟩,hd σ H p⟩
def Pt{lo:Int}{n:Nat}{g:TG}{tb:TS}{D:A5}{σ:St}{H:Hp}(l:Nat->St->Hp->Prop) (C:l 0 σ H)
  (E:∀i σ H,i<n->l i σ H->g (.int (lo+i)) σ H λr z=>tb { D with nx:=l (i+1),ct:=l (i+1),bk:=D.nx } r z) (hd:∀σ H,l n σ H->D.nx σ H) :
  ∃W:Nat->Nat->St->Hp->Prop,(∃m,W 0 m σ H)/\∀i m σ H,W i m σ H ->
   ((UZ lo n).stop i H/\D.nx σ H)∨((UZ lo n).go i H/\∃N:St->Hp->Prop,(∀s t,N s t->∃B,B<m/\W (i+1) B s t)/\∀x t,(UZ lo n).yld i H x t->g x σ t λr z=>tb { D with nx:=N,ct:=N,bk:=D.nx } r z):=by
 refine⟨λi m σ H=>m=n-i/\i<=n/\l i σ H,⟨n,by simp,aE _,C⟩,?_⟩
 rintro i m σ H ⟨rfl,I,p⟩
 by_cases u:i<n
 .refine .inr ⟨u,l (i+1),λs t G=>⟨n-(i+1),by lia,rfl,u,G⟩,λx t y=>?_⟩
  obtain⟨e,y⟩:=y;subst e y;exact E i σ _ u p
 .have e:i=n:=by lia
  subst e;exact .inl ⟨ab _,hd σ H p⟩
abbrev R2:=V->V->Hp->VK->Prop
def Gq(X:Cx) (f:Value->Value->Sem Value) (r:R2):Prop :=
 ∀(l:Φ) (s:Shared) (σ:St) (H:Hp) (x y:V) (v u:Value) (Q:VK),Inv X l σ H s->qk x v->qk y u->r x y H Q ->
  jy (jA X.prog X.w) X.A (f v u) (EP X l σ Q) X.xe s
def UnR(X:Cx) (f:Value->Sem Value) (r:V->Hp->VK->Prop):Prop :=
 ∀(l:Φ) (s:Shared) (σ:St) (H:Hp) (x:V) (v:Value) (Q:VK),Inv X l σ H s->qk x v->r x H Q ->
  jy (jA X.prog X.w) X.A (f v) (EP X l σ Q) X.xe s
def yw(X:Cx) (f:Value) (r:List V->Hp->VK->Prop):Prop :=
 ∀(l:Φ) (s:Shared) (σ:St) (H:Hp) (xs:List V) (us:Ξ) (Q:VK),Inv X l σ H s->pS xs us->r xs H Q ->
  jy (jA X.prog X.w) X.A (call f us) (EP X l σ Q) X.xe s
def Tw(r:R2) (l tb:TE):TE:=λσ H Q=>l σ H λx n=>tb σ n λy s=>r x y s Q
def tUn(r:V->Hp->VK->Prop) (l:TE):TE:=λσ H Q=>l σ H λx n=>r x n Q
def rI(C:Int->Int->Prop) (g:Int->Int->V):R2:=λx y H Q=>∃i j,x = .int i/\y = .int j/\C i j/\Q (g i j) H
def Q4(g:Int->Int->V):R2:=λx y H Q=>∃i j,x = .int i/\y = .int j/\Q (g i j) H
def rU(g:Int->V):V->Hp->VK->Prop:=λx H Q=>∃i,x = .int i/\Q (g i) H
section
variable {X:Cx}{a b c:Expr}{ta tb tc:TE}{pos:Pos}
def Ye(ha:PE X a ta) (E:PE X b tb) {z:Φ}{s:Shared}{σ:St}{H:Hp}{R:V->V->Hp->Prop}(I:Inv X z σ H s)
  (h:ta σ H λx C=>tb σ C λy n=>R x y n) {Q:Ψ}{f:Value->Value->Sem Value}
  (hf:∀v u B x y n,Inv X z σ n B->qk x v->qk y u->R x y n->jy (jA X.prog X.w) X.A (f v u) Q X.xe B) :
  jy (jA X.prog X.w) X.A (eval a X.env) (λv r=>jy (jA X.prog X.w) X.A (eval b X.env) (λu t=>jy (jA X.prog X.w) X.A (f v u) Q X.xe t) X.xe r) X.xe s:=by
 refine sV (ha z s σ H _ I h) λv G l=>?_
 obtain⟨x,C,J,L,M⟩:=l;refine sV (E z G σ C _ J M) λu B l=>?_
 obtain⟨y,n,O,P,S⟩:=l;exact hf v u B x y n O L P S
def pJ{op:Operator}{r:R2}(l:Gq X (lh op) r) (ha:PE X a ta) (n:PE X b tb):PE X (.BinOp a op b pos) (Tw r ta tb):=by
 intro t s σ H Q I h;exact wpAny_BinOp (Ye ha n I h λv u z x y B C E G q=>l t z σ B x y v u Q C E G q)
def yB{op:UnaryOp}{r:V->Hp->VK->Prop}(t:UnR X (unaryOp op) r) (ha:PE X a ta):PE X (.UnaryOp op a pos) (tUn r ta):=by
 intro n s σ H Q I h;refine UnaryOp_ (sV (ha n s σ H _ I h) λv u l=>?_)
 obtain⟨x,y,z,B,C⟩:=l;exact t n u σ y x v Q z B C
def ZM{f:Value->Value->Sem Value}{C:Int->Int->Prop}{g:Int->Int->Int}
  (rule:∀(i j:Int) (t u:Tok) (s:Shared) (Q:Ψ) (E:Ψ),C i j->Q (.int (g i j) s.toks) { s with toks:=s.toks+1 }->jy (jA X.prog X.w) X.A (f (.int i t) (.int j u)) Q E s) :
  Gq X f (rI C λi j=>.int (g i j)):=by
 intro B s σ H x y v u Q I l n h;obtain⟨i,j,rfl,rfl,r,q⟩:=h;obtain⟨t,rfl⟩:=l;obtain⟨z,rfl⟩:=n;exact rule i j t z s _ _ r ⟨.int (g i j),H,I.tok _,⟨_,rfl⟩,q⟩
def YT{f:Value->Value->Sem Value}{g:Int->Int->Int}
  (rule:∀(i j:Int) (t u:Tok) (s:Shared) (Q:Ψ) (E:Ψ),Q (.int (g i j) s.toks) { s with toks:=s.toks+1 }->jy (jA X.prog X.w) X.A (f (.int i t) (.int j u)) Q E s) :
  Gq X f (Q4 λi j=>.int (g i j)):=by
 intro z s σ H x y v u Q I l n h;obtain⟨i,j,rfl,rfl,q⟩:=h;obtain⟨t,rfl⟩:=l;obtain⟨r,rfl⟩:=n;exact rule i j t r s _ _ ⟨.int (g i j),H,I.tok _,⟨_,rfl⟩,q⟩
def Zj{f:Value->Value->Sem Value}{g:Int->Int->Bool}
  (rule:∀(i j:Int) (t u:Tok) (s:Shared) (Q:Ψ) (E:Ψ),Q (.bool (g i j)) s->jy (jA X.prog X.w) X.A (f (.int i t) (.int j u)) Q E s) :
  Gq X f (Q4 λi j=>.bl (g i j)):=by
 intro z s σ H x y v u Q I l n h;obtain⟨i,j,rfl,rfl,q⟩:=h;obtain⟨t,rfl⟩:=l;obtain⟨r,rfl⟩:=n;exact rule i j t r s _ _ ⟨.bl (g i j),H,I,rfl,q⟩
def W3(i j:Int):Prop:=0<j/\j<1073741824
def WY(i j:Int):Prop:=0<=j/\j<=1000000/\i.natAbs<2 ^ 64
def Tf(i j:Int):Prop:=(-(2 ^ 64)<i/\i<2 ^ 64)∨(-(2 ^ 64)<j/\j<2 ^ 64)
def Tf.ok{i j:Int}(h:Tf i j):IntMulOk i j:=by
 rcases h with ⟨h1,h2⟩|⟨h1,h2⟩
 .exact .of_left (intBits_le_64 h1 h2)
 .exact .of_right (intBits_le_64 h1 h2)
def xw:Gq X (lh .Add) (Q4 λi j=>.int (i+j)):=YT λ_ _ _ _ _ _ _ q=>add_int q
def BC:Gq X (lh .Sub) (Q4 λi j=>.int (i-j)):=YT λ_ _ _ _ _ _ _ q=>sub_int q
def zV:Gq X (lh .Mult) (rI Tf λi j=>.int (i*j)):=ZM λ_ _ _ _ _ _ _ l q=>mul_int q l.ok
def uG:Gq X (lh .FloorDiv) (rI W3 λi j=>.int (i / j)):=ZM λi j _ _ _ _ _ l q=>by
 have h1:(0:Int)<j:=l.1;have h2:j<1073741824:=l.2;exact floordiv_int (by lia) (by rw[gj i (by lia)];exact q) (.inl (PyProof.noPylong_small (by lia)))
def rJ:Gq X (lh .Mod) (rI (λ_ j=>0<j) λi j=>.int (i % j)):=ZM λi j _ _ _ _ _ l q=>by
 have h1:(0:Int)<j:=l;exact mod_int' (by lia) (by rw[Int.fmod_eq_emod_of_nonneg i (by lia)];exact q)
def HG:Gq X (lh .Pow) (rI WY λi j=>.int (i ^ j.toNat)):=ZM λ_ _ _ _ _ _ _ l q=>pow_int_small l.1 l.2.1 l.2.2 q
def unI{f:Value->Sem Value}{g:Int->Int}
  (rule:∀(i:Int) (t:Tok) (s:Shared) (Q:Ψ) (E:Ψ),Q (.int (g i) s.toks) { s with toks:=s.toks+1 }->jy (jA X.prog X.w) X.A (f (.int i t)) Q E s) :
  UnR X f (rU λi=>.int (g i)):=by
 intro n s σ H x v Q I l h;obtain⟨i,rfl,q⟩:=h;obtain⟨t,rfl⟩:=l;exact rule i t s _ _ ⟨.int (g i),H,I.tok _,⟨_,rfl⟩,q⟩
def vF:UnR X (unaryOp .USub) (rU λi=>.int (-i)):=unI λ_ _ _ _ _ q=>neg_int q
end
def scal:V->V->Bool
 | .non,.non=>true|.non,.int _=>true|.int _,.non=>true|.non,.bl _=>true|.bl _,.non=>true|.non,.str _=>true|.str _,.non=>true
 | .int _,.int _=>true|.bl _,.bl _=>true|.str _,.str _=>true|.byt _,.byt _=>true
 | .int _,.str _=>true|.str _,.int _=>true|.bl _,.str _=>true|.str _,.bl _=>true
 |_,_=>false
def rEq:R2:=λx y H Q=>scal x y=true/\Q (.bl (decide (x=y))) H
def rNe:R2:=λx y H Q=>scal x y=true/\Q (.bl (!decide (x=y))) H
def Nn{i j:Int}:decide (V.int i=V.int j)=(i == j):=by
 rw[cu];simp
def Rq{i j:Bool}:decide (V.bl i=V.bl j)=(i == j):=by
 rw[cu];simp
def Og{i j:Str}:decide (V.str i=V.str j)=(i == j):=by
 rw[cu];simp
def Nj{i j:Array UInt8}:decide (V.byt i=V.byt j)=(i.toList == j.toList):=by
 rw[cu];cases i;cases j;simp
section
variable {X:Cx}{a b c:Expr}{ta tb tc:TE}{pos:Pos}
def qg{l:Φ}{σ:St}{H:Hp}{s:Shared}{Q:VK}{k n:Bool}(I:Inv X l σ H s) (q:Q (.bl k) H) (e:k=n):EP X l σ Q (.bool n) s:=by
 subst e;exact⟨.bl k,H,I,rfl,q⟩
def Bg:Gq X (ko .Eq) rEq:=by
 intro B s σ H x y v u Q I z l h;obtain⟨r,q⟩:=h;cases x with
 |non =>
  cases z;cases y with
  |non=>cases l;exact PySem.EqNone.eq_none_none (qg I q (by simp))
  |bl j=>cases l;exact PySem.EqNone.eq_none_bool (qg I q (by simp))
  |int j=>obtain⟨n,rfl⟩:=l;exact PySem.EqNone.eq_none_int (qg I q (by simp))
  |str j=>obtain⟨n,rfl⟩:=l;exact PySem.EqNone.eq_none_str (qg I q (by simp))
  |_=>exact absurd (show false=true from r) aL
 |bl i =>
  cases z;cases y with
  |non=>cases l;exact PySem.EqNone.eq_bool_none (qg I q (by simp))
  |bl j=>cases l;exact eq_bool (qg I q Rq)
  |str j=>obtain⟨n,rfl⟩:=l;exact PySem.EqMixed.eq_bool_str (qg I q (by simp))
  |_=>exact absurd (show false=true from r) aL
 |int i =>
  obtain⟨t,rfl⟩:=z;cases y with
  |non=>cases l;exact PySem.EqNone.eq_int_none (qg I q (by simp))
  |int j=>obtain⟨n,rfl⟩:=l;exact eq_int (qg I q Nn)
  |str j=>obtain⟨n,rfl⟩:=l;exact PySem.EqMixed.eq_int_str (qg I q (by simp))
  |_=>exact absurd (show false=true from r) aL
 |str i =>
  obtain⟨t,rfl⟩:=z;cases y with
  |non=>cases l;exact PySem.EqNone.eq_str_none (qg I q (by simp))
  |bl j=>cases l;exact PySem.EqMixed.eq_str_bool (qg I q (by simp))
  |int j=>obtain⟨n,rfl⟩:=l;exact PySem.EqMixed.eq_str_int (qg I q (by simp))
  |str j=>obtain⟨n,rfl⟩:=l;exact eq_str (qg I q Og)
  |_=>exact absurd (show false=true from r) aL
 |byt i =>
  obtain⟨t,rfl⟩:=z;cases y with
  |byt j=>obtain⟨n,rfl⟩:=l;exact W.eq_bytes (qg I q Nj)
  |_=>exact absurd (show false=true from r) aL
 |_=>cases y <;> exact absurd (show false=true from r) aL
def Fq:Gq X (ko .NotEq) rNe:=by
 intro B s σ H x y v u Q I z l h;obtain⟨r,q⟩:=h;cases x with
 |non =>
  cases z;cases y with
  |non=>cases l;exact PySem.EqNone.ne_none_none (qg I q (by simp))
  |bl j=>cases l;exact PySem.EqNone.ne_none_bool (qg I q (by simp))
  |int j=>obtain⟨n,rfl⟩:=l;exact PySem.EqNone.ne_none_int (qg I q (by simp))
  |str j=>obtain⟨n,rfl⟩:=l;exact PySem.EqNone.ne_none_str (qg I q (by simp))
  |_=>exact absurd (show false=true from r) aL
 |bl i =>
  cases z;cases y with
  |non=>cases l;exact PySem.EqNone.ne_bool_none (qg I q (by simp))
  |bl j=>cases l;exact ne_bool (qg I q (congrArg not Rq))
  |str j=>obtain⟨n,rfl⟩:=l;exact PySem.EqMixed.ne_bool_str (qg I q (by simp))
  |_=>exact absurd (show false=true from r) aL
 |int i =>
  obtain⟨t,rfl⟩:=z;cases y with
  |non=>cases l;exact PySem.EqNone.ne_int_none (qg I q (by simp))
  |int j=>obtain⟨n,rfl⟩:=l;exact ne_int (qg I q (congrArg not Nn))
  |str j=>obtain⟨n,rfl⟩:=l;exact PySem.EqMixed.ne_int_str (qg I q (by simp))
  |_=>exact absurd (show false=true from r) aL
 |str i =>
  obtain⟨t,rfl⟩:=z;cases y with
  |non=>cases l;exact PySem.EqNone.ne_str_none (qg I q (by simp))
  |bl j=>cases l;exact PySem.EqMixed.ne_str_bool (qg I q (by simp))
  |int j=>obtain⟨n,rfl⟩:=l;exact PySem.EqMixed.ne_str_int (qg I q (by simp))
  |str j=>obtain⟨n,rfl⟩:=l;exact ne_str (qg I q (congrArg not Og))
  |_=>exact absurd (show false=true from r) aL
 |byt i =>
  obtain⟨t,rfl⟩:=z;cases y with
  |byt j=>obtain⟨n,rfl⟩:=l;exact W.ne_bytes (qg I q (congrArg not Nj))
  |_=>exact absurd (show false=true from r) aL
 |_=>cases y <;> exact absurd (show false=true from r) aL
def VZ:Gq X (ko .Lt) (Q4 λi j=>.bl (decide (i<j))):=Zj λ_ _ _ _ _ _ _ q=>lt_int q
def Hd:Gq X (ko .Gt) (Q4 λi j=>.bl (decide (j<i))):=Zj λ_ _ _ _ _ _ _ q=>gt_int q
def MQ:Gq X (ko .Is) (λx y H Q=>y = .non/\Q (.bl (decide (x = .non))) H):=by
 intro r s σ H x y v u Q I l n h;obtain⟨rfl,q⟩:=h;cases n;refine is_none_gen (qg I q ?_);cases x <;> first
  | (cases l;rfl)
  | (obtain⟨t,rfl⟩:=l;rfl)
def qb(b:Expr) {op:CmpOp}(h:op ≠ .In:=by decide) (h2:op ≠ .NotIn:=by decide):lJ op b=false:=by
 have l:(op == CmpOp.In)=false:=by cases op <;> first|rfl|exact absurd rfl h
 have n:(op == CmpOp.NotIn)=false:=by cases op <;> first|rfl|exact absurd rfl h2
 cases b <;> simp[lJ,l,n]
def D0{op:CmpOp}{r:R2}(l:Gq X (ko op) r) (ha:PE X a ta) (n:PE X b tb) (t:lJ op b=false):PE X (.Compare a [op] [b] pos) (Tw r ta tb):=by
 intro z s σ H Q I h;exact wpAny_Compare1 (Ye ha n I h λv u B x y C E G J q=>l z B σ C x y v u Q E G J q) t
def V3(t:TE):TT:=λσ H Q=>t σ H λx l=>∃k,x = .bl k/\Q k l
def pW{op:CmpOp}{r:R2}(n:Gq X (ko op) r) (ha:PE X a ta) (t:PE X b tb) (B:lJ op b=false):PT X (.Compare a [op] [b] pos) (V3 (Tw r ta tb)):=by
 intro l s σ H Q I h;refine mV (sV (ha l s σ H _ I h) λv C ⟨x,E,G,J,L⟩=>sV (t l C σ E _ G L) λu M ⟨y,O,P,R,S⟩ =>
  sV (n l M σ O x y v u _ P J R S) λc s3 ⟨z,U,Y,r3,k,e,q3⟩=>?_) B
 subst e;cases r3;exact jY ⟨U,Y,q3⟩
def LX:(jD:Nat)<2 ^ 63:=by rw[jN];decide
def xo{x:V}{us:Ξ}(r:pS [x] us):∃u,us=[u]/\qk x u:=by
 cases r with
 |cons l n=>cases n;exact⟨_,rfl,l⟩
def Ni{x y:V}{us:Ξ}(r:pS [x,y] us):∃u l,us=[u,l]/\qk x u/\qk y l:=by
 cases r with
 |cons n s =>
  cases s with
  |cons t z=>cases z;exact⟨_,_,rfl,n,t⟩
def Z6(K:Ζ) (x:V) (H:Hp) (n:Nat):Prop :=
 match x with
 | .str y=>y.length<=jD/\n=y.length
 | .byt y=>y.size<=jD/\n=y.size
 | .ref p=>(∃xs,rN K H p xs/\n=xs.length)∨∃xs,BN K H p xs/\n=xs.length
 |_=>False
def pQ:yw X (.builtin "len") (λxs H Q=>∃x n,xs=[x]/\Z6 X.K x H n/\Q (.int n) H):=by
 intro O s σ H xs P Q I r h;obtain⟨x,n,rfl,e,q⟩:=h;obtain⟨u,rfl,B⟩:=xo r;have hl:=LX;have R:jD=16777216:=jN;cases x with
 |str y =>
  obtain⟨t,rfl⟩:=B;obtain⟨L,z⟩:y.length<=jD/\n=y.length:=e;subst z;exact len_str (by lia) ⟨.int _,H,I.tok _,⟨_,rfl⟩,q⟩
 |byt y =>
  obtain⟨t,rfl⟩:=B;obtain⟨L,z⟩:y.size<=jD/\n=y.size:=e;subst z;exact W.len_bytes (by lia) ⟨.int _,H,I.tok _,⟨_,rfl⟩,q⟩
 |ref p =>
  cases B;have z:(∃xs,rN X.K H p xs/\n=xs.length)∨∃xs,BN X.K H p xs/\n=xs.length:=e;rcases z with ⟨xs,C,z⟩|⟨xs,C,z⟩
  .subst z;obtain⟨E,G,J,M⟩:=I.list C;have l:=G.length;exact Calls.call_len_list J.isList (by simp only[au];lia) ⟨.int xs.length,H,I.tok _,⟨_,by simp only[au];rw[l]⟩,q⟩
  .subst z;obtain⟨E,G,J,M⟩:=I.tuple C;have l:=G.length;exact len_tuple J (by simp only[au];lia) ⟨.int xs.length,H,I.tok _,⟨_,by simp only[au];rw[l]⟩,q⟩
 |_=>exact(show False from e).elim
end
def Gp.some_of{v:V}{o:Υ}(r:Gp (some v) o):∃u,o=some u/\qk v u:=by
 cases o with
 |none=>exact(show False from r).elim
 |some u=>exact⟨u,rfl,r⟩
structure sZ (k:Nat) (A:Around):Prop where
 hd:A.handled=none
 dp:A.depth+3*k+5<recursionLimit
 un:A.units+16*k+200<jT
def sZ.mono{j k:Nat}{A:Around}(r:sZ k A) (h:j<=k):sZ j A:=⟨r.hd,by have:=r.dp;lia,by have:=r.un;lia⟩
theorem sZ.deeper{k:Nat}{A:Around}(r:sZ (k+1) A) (env:Env):sZ k (A.deeper env) :=
 ⟨r.hd,by have:=r.dp;show A.depth+1+3*k+5<_;lia,by have:=r.un;show A.units+3+16*k+200<_;lia⟩
theorem sZ.in1{k:Nat}{A:Around}(r:sZ (k+1) A):sZ k A.in1 :=
 ⟨r.hd,by have:=r.dp;show A.depth+3*k+5<_;lia,by have:=r.un;show A.units+1+16*k+200<_;lia⟩
theorem sZ.depth{k:Nat}{A:Around}(r:sZ k A):A.depth<recursionLimit:=by have:=r.dp;lia
theorem sZ.units{k:Nat}{A:Around}(r:sZ k A):A.units+64<jT:=by have:=r.un;lia
def wk:TA:=λ_ H Q=>Q [] H
def sW(l:TE) (tr:TA):TA:=λσ H Q=>l σ H λx n=>tr σ n λxs r=>Q (x::xs) r
section
variable {X:Cx}{e:Expr}{es:List Expr}{te:TE}{t:TA}{pos:Pos}
def oh:PA X [] wk:=λ_ _ _ _ H Q I h=>Calls.spliced_nil ⟨[],H,I,.nil,h⟩
def oa(ha:PE X e te) (hr:PA X es t) (r:jH (e::es) X.env=(false,eval e X.env)::jH es X.env:=by rfl):PA X (e::es) (sW te t):=by
 intro pos n s σ H Q I h;rw[r];show jy _ _ (spliced ((false,eval e X.env)::kx pos (jH es X.env))) _ _ s;refine Calls.spliced_cons (sV (ha n s σ H _ I h) λu y l=>?_)
 obtain⟨x,z,B,C,E⟩:=l;refine sV (hr pos n y σ z _ B E) λP R l=>?_
 obtain⟨G,J,L,M,O⟩:=l;exact⟨x::G,J,L,.cons C M,O⟩
def Yh(t:TA):TE:=λσ H Q=>t σ H λxs l=>xs.length<=jD/\∀p,l p=none->Q (.ref p) (qP l p (.tup xs))
def Zm(t:TA):TE:=λσ H Q=>t σ H λxs l=>xs.length<=jD/\∀p,l p=none->Q (.ref p) (qP l p (.lst xs))
def Ec{x1} (h:PA X es t):PE X (.Tuple es x1 pos) (Yh t):=by
 intro y s σ H Q I B;refine wpAny_Tuple_spliced (sV (h pos y s σ H _ I B) λC l ⟨E,n,x,r,z,q⟩=>⟨by rw[←r.length];exact z,?_⟩)
 have hf:n l.heap.objs.size=none:=x.hok.fresh (ab _);refine⟨.ref l.heap.objs.size,qP n l.heap.objs.size (.tup E),x.laid (t':=l.toks) (λb u e=>ae _ e) (ab _) ?_,rfl,q _ hf⟩
 exact⟨z,C,r,⟨_,aC _ rfl,rfl,_,rfl⟩⟩
def rq(h:PA X es t):PE X (.List es pos) (Zm t):=by
 intro y s σ H Q I B;refine wpAny_List_spliced (sV (h pos y s σ H _ I B) λC l ⟨E,n,x,r,z,q⟩=>⟨by rw[←r.length];exact z,?_⟩)
 have hf:n l.heap.objs.size=none:=x.hok.fresh (ab _);refine⟨.ref l.heap.objs.size,qP n l.heap.objs.size (.lst E),x.laid (t':=l.toks) (λb u e=>ae _ e) (ab _) ?_,rfl,q _ hf⟩
 exact⟨z,C,0,r,aC _ rfl⟩
end
abbrev Sp:=List V->Hp->VK->XK->Prop
abbrev Li:=List Env->Hp->Shared->XK->Value->Shared->Prop
structure Q5 (P:jC) (w:jF) (K:Ζ) (mg:Str->Υ) (base:Heap) (A:Around) (outer:List Env) (s:Shared) (H:Hp):Prop where
 frames:A.frames=some outer
 mod:Mod K mg base
 bs:∀b o,base.get? b=some o->s.heap.get? b=some o/\H b=none
 bsz:base.objs.size<=s.heap.objs.size
 funs:s.heap.FunFrames base outer
 frf:∀b∈P9 outer,H b=none
 hok:BM P w H s.heap
 bare:lR s.gens
 tb:TM K H
def CE(outer:List Env) (P:jC) (w:jF) (H:Hp) (s:Shared) (Q:VK) (u:Value) (l:Shared):Prop :=
 ∃v n,l.os=s.os/\lR l.gens/\Un (P9 outer) [] H n s.heap l.heap/\BM P w n l.heap/\qk v u/\Q v n
def CR(CX:Li) (outer:List Env) (P:jC) (w:jF) (H:Hp) (s:Shared) (Q:VK) (E:XK) (r:mI) (l:Shared):Prop :=
 match r with
 | .ok (.ret u)=>CE outer P w H s Q u l
 | .ok _=>False
 | .error e=>CX outer H s E e l
structure yk (P:jC) (w:jF) (K:Ζ) (mg:Str->Υ) (base:Heap) (CX:Li) (k:Nat) (f:Addr) (fd:jQ) (ps:List Str) (sp:Sp):Prop where
 len:∀vs H Q E,sp vs H Q E->vs.length=ps.length
 run:∀(A:Around) (outer:List Env) (s:Shared) (H:Hp) (args:Args) (us:Ξ) (vs:List V) (Q:VK) (E:XK),sZ k A->Q5 P w K mg base A outer s H->mD s fd args (ps.zip us)->pS vs us->sp vs H Q E ->
  kF (jA P w) A (.call (.ref f) args) (CR CX outer P w H s Q E) s
def yk.imp{P:jC}{w:jF}{K:Ζ}{mg:Str->Υ}{base:Heap}{CX:Li}{k:Nat}{f:Addr}{fd:jQ}{ps:List Str}{sp l:Sp}(F:yk P w K mg base CX k f fd ps sp)
  (h:∀vs H Q E,l vs H Q E->sp vs H Q E):yk P w K mg base CX k f fd ps l :=
 ⟨λvs H Q E q=>F.len vs H Q E (h _ _ _ _ q),λA outer s H n r vs Q E hr t u x y=>F.run A outer s H n r vs Q E hr t u x (h _ _ _ _ y)⟩
section
variable {X:Cx}{og:Φ}{σ:St}{H:Hp}{s s':Shared}
def Inv.env0(I:Inv X og σ H s):Q5 X.prog X.w X.K X.mg X.base X.A X.stack s H :=
 ⟨I.ok.frames,I.ok.mod,I.bs,bq I.ok.bsz I.sz,I.stack,I.stkFree,I.hok,I.bare,I.tb⟩
def Inv.after{Q:VK}{u:Value}(I:Inv X og σ H s) (h:CE X.stack X.prog X.w H s Q u s'):EP X og σ Q u s':=by
 obtain⟨v,n,os,bare,un,hok,r,q⟩:=h;obtain⟨hh,g,d,t,l⟩:=s';obtain rfl:l=s.os:=os;exact⟨v,n,I.call (h':=hh) (g':=g) (d':=d) (t':=t) (ch:=[]) un hok bare (λb z=>absurd z (by simp)),r,q⟩
end
def J6(sp:Sp) (l:List V) (E:XK) (t:TA):TE:=λσ H Q=>t σ H λvs n=>sp (vs++l) n Q E
def vY(K:Ζ) (fd:jQ) (ps:List Str) (ds:Ξ):Prop :=
 ∀(s:Shared) (us:Ξ),K.In s.heap->(us++ds).length=ps.length->mD s fd ⟨us,[]⟩ (ps.zip (us++ds))
def vY.all{K:Ζ}{fd:jQ}{ps:List Str}(h:∀us:Ξ,us.length=ps.length->nJ fd ⟨us,[]⟩=pure (ps.zip us)):vY K fd ps []:=λs us _ hl=>by
 rw[aNq]at hl ⊢;exact .of_eq (h us hl)
def LW(CX:Li) (X:Cx) (E:XK):Prop:=∀(n:Φ) (σ:St) (H:Hp) (s:Shared) (e:Value) (l:Shared),Inv X n σ H s->CX X.stack H s E e l->X.xe e l
section
variable {X:Cx}{CX:Li}{k:Nat}{f C:Addr}{fd:jQ}{ps:List Str}{sp:Sp}{dvs:List V}{ds:Ξ}{E:XK}{x m:Str}{p pos apos:Pos}{e o:Expr}{es:List Expr}{ta:TE}{t:TA}
def Ys{n:Φ}{σ:St}{H:Hp}{s:Shared}{Q:VK}{us:Ξ}{vs:List V}(F:yk X.prog X.w X.K X.mg X.base CX k f fd ps sp) (hr:sZ k X.A) (z:vY X.K fd ps ds) (hd:pS dvs ds) (B:LW CX X E)
  (I:Inv X n σ H s) (r:pS vs us) (h:sp (vs++dvs) H Q E):jy (jA X.prog X.w) X.A (call (.ref f) us) (EP X n σ Q) X.xe s:=by
 have y:pS (vs++dvs) (us++ds):=r.append hd;have hl:(us++ds).length=ps.length:=by rw[←y.length];exact F.len _ _ _ _ h
 refine wpAny_call (lg (F.run X.A X.stack s H ⟨us,[]⟩ (us++ds) (vs++dvs) Q E hr I.env0 (z s us I.kIn hl) y h) λr G l=>?_)
 cases r with
 |error e=>exact B n σ H s e G I l
 |ok fl =>
  cases fl with
  |ret u=>exact I.after l
  |next=>exact False.elim l
  |brk=>exact False.elim l
  |cont=>exact False.elim l
def Uc(F:yk X.prog X.w X.K X.mg X.base CX k f fd ps sp) (hr:sZ k X.A) (z:Gl X x) (B:X.mg x=some (.ref f)) (hk:W.keepIn X.K (.ref f)=true) (G:vY X.K fd ps ds) (hd:pS dvs ds) (J:LW CX X E)
  (ha:PA X (e::es) t) (l:(x == ("__debug__" : Str))=false:=by decide) (L:jH (e::es) X.env=(false,eval e X.env)::jH es X.env:=by rfl) (n:(kx pos (jH es X.env)).any (·.1)=false:=by rfl) :
  PE X (.Call (.Name x p) (e::es) [] pos) (J6 sp dvs E t):=by
 intro M s σ H Q I h;refine ka (Nh I z B ?_ l);refine W.callWith_K (h₀:=X.base) I.ok.mod.kin hk (sV (ha pos M s σ H _ I h) λO P u=>?_) L n
 obtain⟨R,S,y,r,q⟩:=u;refine⟨y.kIn,?_⟩;exact Ys F hr G hd J y r q
end
structure oW (N P:List Str) (sc:km):Prop where
 kind:sc.kind = .function
 co:sc.isCoroutine=false
 gen:sc.isGenerator=false
 nd:N.Nodup
 pre:N.take P.length=P
 par:∀x∈P,sc.names.lookup x=some .local∨sc.names.lookup x=some .cell
 nofree:∀y∈sc.names,y.2 ≠ .free
theorem Gz{kindOf:Str->Option NameKind}{x:Str}:∀{binds:List (Str×Value)}{m:Str->Υ},(∀v,(x,v)∉binds)->bindL kindOf binds m x=m x
 | [],_,_=>rfl
 | (n,v)::r,m,h=>by
  unfold bindL;rw[Gz λw hw=>h w (mCo _ hw)]
  split
  .have:x≠n:=by rintro rfl;exact h v ai
   simp[this]
  .rfl
theorem G5{kindOf:Str->Option NameKind}{x:Str}:∀{binds:List (Str×Value)}{m:Str->Υ},(∀v,(x,v)∉binds)->bindC kindOf binds m x=m x
 | [],_,_=>rfl
 | (n,v)::r,m,h=>by
  unfold bindC;rw[G5 λw hw=>h w (mCo _ hw)]
  split
  .rfl
  .have:x≠n:=by rintro rfl;exact h v ai
   simp[this]
theorem Hg{kindOf:Str->Option NameKind}{x:Str}{v:Value}:∀{P:List Str}{vs:Ξ}{i:Nat}{m:Str->Υ},P.Nodup->P[i]?=some x->vs[i]?=some v->kindOf x=some .local ->
  bindL kindOf (P.zip vs) m x=some v
 | [],_,_,_,_,h,_,_=>by simp at h
 |_::_,[],_,_,_,_,h,_=>by simp at h
 |p::P,w::vs,0,m,nd,h1,h2,hk=>by
  simp at h1 h2;subst h1;subst h2;show bindL kindOf ((p,w)::P.zip vs) m p=_;unfold bindL;rw[Gz λv l=>(az.mp nd).1 (fJ l).1,qd hk]
  simp
 |p::P,w::vs,i+1,m,nd,h1,h2,hk=>by
  show bindL kindOf ((p,w)::P.zip vs) m x=_;unfold bindL;exact Hg (i:=i) (az.mp nd).2 (by simpa using h1) (by simpa using h2) hk
theorem GE{kindOf:Str->Option NameKind}{x:Str}{v:Value}:∀{P:List Str}{vs:Ξ}{i:Nat}{m:Str->Υ},P.Nodup->P[i]?=some x->vs[i]?=some v->kindOf x≠some .local ->
  bindC kindOf (P.zip vs) m x=some v
 | [],_,_,_,_,h,_,_=>by simp at h
 |_::_,[],_,_,_,_,h,_=>by simp at h
 |p::P,w::vs,0,m,nd,h1,h2,hk=>by
  simp at h1 h2;subst h1;subst h2;show bindC kindOf ((p,w)::P.zip vs) m p=_;unfold bindC;rw[G5 λv l=>(az.mp nd).1 (fJ l).1,qh hk]
  simp
 |p::P,w::vs,i+1,m,nd,h1,h2,hk=>by
  show bindC kindOf ((p,w)::P.zip vs) m x=_;unfold bindC;exact GE (i:=i) (az.mp nd).2 (by simpa using h1) (by simpa using h2) hk
def yD(N:List Str) (vs:List V):St:=vs.map some++aw (N.length-vs.length) none
def IZ(CX:Li) (P:jC) (w:jF) (K:Ζ) (mg:Str->Υ) (base:Heap) (N:List Str) (qual:Str) (scope:km) (f:Addr) (cd:Value) (A:Around) (outer:List Env) (s:Shared) (H:Hp) (E:XK):Cx where
 prog:=P
 w:=w
 K:=K
 mg:=mg
 base:=base
 A:=A.deeper (kQ qual scope s.heap.objs.size f cd)
 N:=N
 s₀:=s
 H₀:=H
 env:=kQ qual scope s.heap.objs.size f cd
 outer:=outer
 stack:=kQ qual scope s.heap.objs.size f cd::outer
 ex:=[]
 calm:=true
 fn:=λ_=>true
 pn:=[]
 xe:=λe n=>jy (jA P w) (A.deeper (kQ qual scope s.heap.objs.size f cd)) (leaving (kQ qual scope s.heap.objs.size f cd) e) (λ_ l=>CX outer H s E e l) (λr l=>CX outer H s E r l) n
def Ji{l:km}{n:Nat}{x:Str}(h:l.names.lookup x=some .cell):∃c,(cellsFrom n l.names []).lookup x=some c:=by
 have q:=W.cellsFrom_some l.names n [] (.inl h);exact Option.isSome_iff_exists.mp q
def Ov{CX:Li}{P:jC}{w:jF}{K:Ζ}{mg:Str->Υ}{base:Heap}{N ps:List Str}{qual:Str}{scope:km}{f:Addr}{cd:Value}{A:Around}{outer:List Env}{s J:Shared}{H:Hp}{E:XK}{us:Ξ}{vs:List V}
  (S:oW N ps scope) (hd:A.handled=none) (l:Q5 P w K mg base A outer s H) (hl:vs.length=ps.length) (r:pS vs us)
  (x:InCallC s s.heap.objs.size (bindL (kQ qual scope s.heap.objs.size f cd).kindOf (ps.zip us) λ_=>none) (cellsFrom (s.heap.objs.size+1) scope.names []) (bindC (kQ qual scope s.heap.objs.size f cd).kindOf (ps.zip us) λ_=>none) J) :
  Inv (IZ CX P w K mg base N qual scope f cd A outer s H E) [] (yD N vs) H J:=by
 have M:ps.length<=N.length:=by have:=congrArg aZ S.pre;rw[lTq]at this;lia
 obtain⟨h1,Q,rfl,hk⟩:=x.done;have t:∀b:Addr,b∉(IZ CX P w K mg base N qual scope f cd A outer s H E).ex:=λb z=>absurd (show b∈([]:Δ) from z) (by simp)
 refine⟨⟨l.mod,S.kind,rfl,rfl,ab _,λy z c h1 h2=>?_,λy B=>?_,λy c _ h=>?_,λ_=>hd,Around.frames_deeper l.frames,.inr ⟨rfl,rfl⟩,λb z=>absurd z (t b),l.bs,l.bsz,λb _ _=>t b,λb z=>absurd z (t b),l.funs,l.frf,l.tb⟩,
  rfl,l.bare,Un.kept hk,⟨_,x.toInCall.ns,λi y v h1 h2 R=>?_⟩,λy c h=>⟨_,x.cell y c h⟩,l.hok.fresh (ab _),λy c h=>?_,λp C=>absurd (show p∈([]:Φ) from C) (by simp),l.hok.kept hk,?_⟩
 .exact name_of_addr x.apart (PySem.mem_of_lookup h1) (PySem.mem_of_lookup h2)
 .have B:scope.names.lookup y=some .cell∨scope.names.lookup y=some .free:=B;rcases B with B|B
  .exact Ji B
  .exact absurd rfl (S.nofree _ (PySem.mem_of_lookup B))
 .exact bH (x.above y c (PySem.mem_of_lookup h))
 .have I:i<vs.length:=by
   unfold yD at h2
   by_cases I:i<vs.length
   .exact I
   .rw [gYq (by simpa using I)]at h2
    rw[cF]at h2;split at h2 <;> cases h2
  have ha:vs[i]?=some v:=by
   unfold yD at h2;rw[gZq (by simpa using I),gMq]at h2
   cases e:vs[i]? with
   |none=>rw[e]at h2;cases h2
   |some a=>rw[e]at h2;cases h2;rfl
  obtain⟨u,L,O⟩:=r.get ha;have C:ps[i]?=some y:=by
   rw[←S.pre,eX (by lia)];exact h1
  have G:ps.Nodup:=by rw[←S.pre];exact S.nd.sublist (cG _ _)
  refine⟨u,O,?_⟩;rcases S.par y (mGq C) with k|k
  .exact .inl ⟨k,Hg G C L k⟩
  .obtain ⟨c,e⟩:=Ji (n:=s.heap.objs.size+1) k;refine .inr ⟨.inl k,c,e,?_⟩;have q:=x.cell y c e;rw[GE G C L (by show scope.names.lookup y≠_;rw[k];decide)]at q
   exact q
 .exact l.hok.fresh (bH (x.above y c (PySem.mem_of_lookup h)))
 .unfold yD;show _=N.length;rw[lAq,lMq,bx];lia
def V1{CX:Li}{P:jC}{w:jF}{K:Ζ}{mg:Str->Υ}{base:Heap}{k:Nat}{f:Addr}{name qual:Str}{l:mO}{body:List Stmt}{scope:km}{dV kV O pm C ct oc:Value}{an od:Option Addr}
  {X:Array Υ}{N ps:List Str}{sp:Sp}(lk:K.lookup f=some ⟨oc,od,.func (W.fnOf name qual l body scope dV kV O pm an C ct),X⟩) (Y:W.codeIn K C qual=true) (S:oW N ps scope)
  (len:∀vs H Q E,sp vs H Q E->vs.length=ps.length)
  (G:∀(A:Around) (outer:List Env) (s:Shared) (H:Hp) (vs:List V) (Q:VK) (E:XK),sZ k (A.deeper (kQ qual scope s.heap.objs.size f C))->sp vs H Q E ->
   ∃t,Me (IZ CX P w K mg base N qual scope f C A outer s H E) body t/\t { nx:=λ_ B=>Q .non B,rt:=Q } (yD N vs) H) :
  yk P w K mg base CX (k+1) f (W.fnOf name qual l body scope dV kV O pm an C ct) ps sp:=by
 refine⟨len,λA outer s H args us vs Q E hr R hb r U=>?_⟩
 have hl:=len _ _ _ _ U;have KX:K.In s.heap:=R.mod.kin.keeps λb o e=>(R.bs b o e).1
 have lim:s.heap.NoLimit:=R.mod.nolimit.keeps λb o e=>(R.bs b o e).1
 have L:∀y∈ps.zip us,scope.names.lookup y.1=some .local∨(scope.names.lookup y.1=some .cell/\((cellsFrom (s.heap.objs.size+1) scope.names []).lookup y.1).isSome=true):=λ⟨n,v⟩ hy=>by
  rcases S.par n (fJ hy).1 with q|q
  .exact .inl q
  .exact .inr ⟨q,W.cellsFrom_some _ _ _ (.inl q)⟩
 refine codeAny_call_function hr.depth (KX _ _ lk) rfl S.co S.gen rfl (W.codeRec_of KX Y) (hb _ _ _ _ ?_);refine wpAny_newFunctionEnv_cells S.kind L λenv he s1 x=>?_
 subst he;refine⟨lim.keeps x.toInCall.keep,codeAny_func ?_⟩;obtain⟨t,ht,hq⟩:=G A outer s H vs Q E (hr.deeper _) U;have I:Inv (IZ CX P w K mg base N qual scope f C A outer s H E) [] (yD N vs) H s1:=Ov S hr.hd R hl r x;refine jO (ht [] s1 (yD N vs) H _ I hq) (λfl s' M=>?_) λe s' M=>M
 have fin:∀{z:St}{B:Hp}{v:V}{u:Value},Inv (IZ CX P w K mg base N qual scope f C A outer s H E) [] z B s'->qk v u->Q v B->CE outer P w H s Q u s' :=
  λ{z B v u} J rv q=>⟨v,B,J.os,J.bare,J.base,J.hok,rv,q⟩
 cases fl with
 |ret u =>
  obtain⟨v,z,B,J,rv,q⟩:=M;exact fin J rv q
 |next =>
  obtain⟨z,B,J,q⟩:=M;exact fin (v:=V.non) (u:=fV) J rfl q
 |brk =>
  obtain⟨_,_,_,q⟩:=M;exact False.elim q
 |cont =>
  obtain⟨_,_,_,q⟩:=M;exact False.elim q
section
variable {X:Cx}{x:Str}{p pos:Pos}{e:Expr}{es:List Expr}{t:TA}{id T:String}{r:List V->Hp->VK->Prop}
def JL(r:List V->Hp->VK->Prop) (t:TA):TE:=λσ H Q=>t σ H λvs l=>r vs l Q
def oT(z:yw X (.builtin id) r) (B:Gl X x) (C:X.mg x=none) (E:kM x=some (.builtin id)) (ha:PA X (e::es) t) (hn:x ≠ "__name__" := by decide) (l:(x == ("__debug__" : Str))=false:=by decide)
  (G:jH (e::es) X.env=(false,eval e X.env)::jH es X.env:=by rfl) (n:(kx pos (jH es X.env)).any (·.1)=false:=by rfl):PE X (.Call (.Name x p) (e::es) [] pos) (JL r t):=by
 intro y s σ H Q I h;refine ka (vt I B C E ?_ hn l);refine iT (sV (ha pos y s σ H _ I h) λJ L u=>?_) G n
 obtain⟨M,O,P,R,S⟩:=u;exact z y L σ O M J Q P R S
def uO(z:yw X (.type T) r) (B:Gl X x) (C:X.mg x=none) (E:kM x=some (.type T)) (ha:PA X (e::es) t) (hn:x ≠ "__name__" := by decide) (l:(x == ("__debug__" : Str))=false:=by decide)
  (G:jH (e::es) X.env=(false,eval e X.env)::jH es X.env:=by rfl) (n:(kx pos (jH es X.env)).any (·.1)=false:=by rfl):PE X (.Call (.Name x p) (e::es) [] pos) (JL r t):=by
 intro y s σ H Q I h;refine ka (vt I B C E ?_ hn l);refine bb (sV (ha pos y s σ H _ I h) λJ L u=>?_) G n
 obtain⟨M,O,P,R,S⟩:=u;exact z y L σ O M J Q P R S
end
end L2
namespace HT
open PySem PyProof.Rows
def qD:Ϝ->Ϝ->Bool
 | [],[]=>false
 | [],_::_=>true
 |_::_,[]=>false
 |x::xs,y::ys=>if x=y then qD xs ys else decide (x<y)
def vq(x y:Int) (xs ys:Ϝ):qD (x::xs) (y::ys)=if x=y then qD xs ys else decide (x<y):=rfl
def Bn:qD [] []=false:=rfl
def Ai(y:Int) (ys:Ϝ):qD [] (y::ys)=true:=rfl
def Aw(x:Int) (xs:Ϝ):qD (x::xs) []=false:=rfl
def IU(A:Around) (s:Shared) (a:Int) (t:Tok) (c:Int) (u:Tok):∃e,SeqAt.EqAt A s (.int a t) (.int c u) e/\(e=true↔a=c) :=
 ⟨(a == c),SeqAt.EqAt.int_int a t c u,by simp⟩
def JR(A:Around) (s:Shared) (a:Int) (t:Tok) (c:Int) (u:Tok) (prog:jC) (w:jF) (E:Ψ) (Q:Ψ) (h:Q (.bool (decide (a<c))) s) :
  jy (jA prog w) A (lF .Lt (.int a t) (.int c u)) Q E s :=
 (jw h:jy (jA prog w) A (ko .Lt (.int a t) (.int c u)) Q E s)
section
open PySem.SeqAt
open PySem.AutoSeq1 (wpAny_loadPart')
open PySem.MeetsSeq PySem.MeetsSeq2 PySem.MeetsSeq3
def Gc(l b:Addr) (items items2:Ω) (n n2:Nat) (dd X:Option Addr) (sl Y:Array Υ) (ns ms:Ϝ) (hi:jR items.toList ns) (hj:jR items2.toList ms) :
  Meets (Builtin.«tuple.__lt__» ⟨[.ref l,.ref b],[]⟩)
   (λ_ R s=>s.heap.get? l=some { cls:=.type "tuple", dict:=dd,data:=.seq items n,slots:=sl }/\s.heap.get? b=some { cls:=.type "tuple", dict:=X,data:=.seq items2 n2,slots:=Y } /\
    R (.ok (.ret (.bool (qD ns ms)))) s) :=
 .of_wp λprog w A R s h=>by
  obtain⟨P,g,d,Q,os⟩:=s;obtain⟨hl,hb,h⟩:=h;have f2:=AutoSeq1.sub_tuple_tuple;have z1:items.size=ns.length:=by rw[←hi.length];simp
  have z2:items2.size=ms.length:=by rw[←hj.length];simp
  wp_walk using wpAny_loadPart' hl,wpAny_loadPart' hb,wpAny_forIn_list _ (λsA b s'=>b.1=none/\s'=⟨P,g,d,Q,os⟩/\∃(S U:Ξ) (z B:Ϝ),sA=S.zip U /\
   jR S z/\jR U B/\z.length+items2.size=B.length+items.size/\R (.ok (.ret (.bool (qD z B)))) ⟨P,g,d,Q,os⟩) _
  case turn =>
   rintro⟨y,x⟩ sA b s' ⟨I,rfl,S,U,z,B,C,J,E,r,G⟩;cases J with
   |nil=>rw[List.zip_nil_left]at C;cases C
   |cons a t M =>
    cases E with
    |nil=>rw[List.zip_nil_right]at C;cases C
    |cons c u O =>
     rw[cW]at C;injection C with hyx L
     injection hyx with hy hx
     subst hy hx;rw[vq]at G;simp only[lCq]at r;obtain⟨e,he,H⟩:=IU A.in1 ⟨P,g,d,Q,os⟩ a t c u;refine jx (he prog w _ _ ?_);cases e with
     |true =>
      rw[qd (H.mp rfl)]at G
      wp_walk
      exact⟨rfl,rfl,_,_,_,_,L,M,O,by lia,G⟩
     |false =>
      rw[qh (λq=>absurd (H.mpr q) aL)]at G
      have hri:=JR A.in1 ⟨P,g,d,Q,os⟩ a t c u prog w
      wp_walk using hri
      exact⟨_,rfl,by simpa using G⟩
  case fin =>
   rintro⟨b1,b2⟩ s' ⟨I,rfl,S,U,z,B,C,J,E,r,G⟩;simp only at I;subst I;have hv:qD z B=decide (items.size<items2.size):=by
    cases J with
    |nil =>
     cases E with
     |nil =>
      simp only[bI]at r;rw[Bn];exact(decide_eq_false (by lia)).symm
     |cons c u hw =>
      simp only[bI,lCq]at r;rw[Ai];exact(decide_eq_true (by lia)).symm
    |cons a t hv =>
     cases E with
     |nil =>
      simp only[bI,lCq]at r;rw[Aw];exact(decide_eq_false (by lia)).symm
     |cons c u hw =>
      rw[cW]at C;cases C
   rw[hv]at G
   wp_walk
   exact⟨_,rfl,by simpa [Builtin.Tuple.tupleCompareSizes] using G⟩
  case h =>
   exact⟨rfl,rfl,items.toList,items2.toList,ns,ms,rfl,hi,hj,by lia,h⟩
end
section
variable {prog:jC}{w:jF}{A:Around}{E:Ψ}{s:Shared}
def Lo{l b:Addr}{items items2:Ω}{ns ms:Ϝ}{Q:Ψ}(hl:IsTup s.heap l items) (I:IsTup s.heap b items2) (J:jR items.toList ns) (L:jR items2.toList ms)
  (M:A.units<jT) (h:Q (.bool (qD ns ms)) s):jy (jA prog w) A (ko .Lt (.ref l) (.ref b)) Q E s:=by
 obtain⟨⟨cls,dd,B,O⟩,C,G,n,hd⟩:=id hl;obtain⟨⟨H,y,data2,z⟩,r,t,P,u⟩:=id I;simp only at G hd t u;subst G hd t u;exact mS (op:=.Lt) ⟨_,C,rfl⟩ ⟨_,r,rfl⟩ PySem.F.slot_tuple_lt PySem.F.entry_tuple_lt (PySem.F.args_tuple_lt_2 _ _) (Gc l b items items2 n P dd y O z ns ms J L)
  ⟨C,r,show iZ (qD ns ms)≠Value.notImplemented/\Q (.bool (qD ns ms)) s from ⟨(λx=>nomatch x),h⟩⟩ M
def GZ(n d:Nat):Option Int->Nat
 |none=>d
 |some v=>if v<0 then (v+(n:Int)).toNat else min v.toNat n
def JN(n d:Nat):GZ n d none=d:=rfl
def DV(n d k:Nat):GZ n d (some (k:Int))=min k n:=by
 show (if (k:Int)<0 then ((k:Int)+(n:Int)).toNat else min (k:Int).toNat n)=min k n
 rw[qh (by lia),df]
end
end HT
namespace L2
open PySem PySem.Spec PyProof.Rows
abbrev TO:=St->Hp->(Option Int->Hp->Prop)->Prop
def PO(X:Cx) (e:Option Expr) (t:TO):Prop :=
 ∀(l:Φ) (s:Shared) (σ:St) (H:Hp) (Q:Option Int->Hp->Prop),Inv X l σ H s->t σ H Q ->
  jy (jA X.prog X.w) X.A (evalPart e X.env) (λu r=>∃o n,Inv X l σ n r/\IsPart u o/\Q o n) X.xe s
def Ou:TO:=λ_ H Q=>Q none H
def VW(t:TE):TO:=λσ H Q=>t σ H λx l=>∃i,x = .int i/\Q (some i) l
def xi{ns:Ϝ}:∀{us:Ξ},pS (ns.map V.int) us->jR us ns:=by
 induction ns with
 |nil=>intro us r;rw[fN]at r;cases r;exact .nil
 |cons n ns l =>
  intro us r;rw[ax]at r;cases r with
  |cons s u =>
   obtain⟨t,e⟩:=s;subst e;exact .cons n t (l u)
section
variable {X:Cx}{e:Expr}{te:TE}{lo hi:Option Expr}{tl th:TO}{pos p2:Pos}
def vN:PO X none Ou:=by
 intro l s σ H Q I h;rw[evalPart_none];exact jz ⟨none,H,I,.none,h⟩
def tM(h:PE X e te):PO X (some e) (VW te):=by
 intro n s σ H Q I hw;rw[evalPart_some];refine sV (h n s σ H _ I hw) λu C l=>?_
 obtain⟨x,r,y,z,B⟩:=l;obtain⟨i,rfl,q⟩:=B;obtain⟨t,rfl⟩:=z;exact⟨some i,r,y,.int i t,q⟩
def SlR(X:Cx) (r:V->Option Int->Option Int->Hp->VK->Prop):Prop :=
 ∀(l:Φ) (s:Shared) (σ:St) (H:Hp) (x:V) (v n t:Value) (lo hi:Option Int) (sl:Addr) (Q:VK),Inv X l σ H s->qk x v->s.heap.IsSliceOf sl n t .none->IsPart n lo->IsPart t hi->r x lo hi H Q ->
  ∃T id,kO (.type T) "__getitem__" = pure (some (.builtin id))/\s.TypeIs v T/\jy (jA X.prog X.w) X.A (nj v (.ref sl)) (EP X l σ Q) X.xe s
def tSl(r:V->Option Int->Option Int->Hp->VK->Prop) (te:TE) (tl th:TO):TE:=λσ H Q=>te σ H λx n=>tl σ n λl s=>th σ s λu t=>r x l u t Q
def tD{r:V->Option Int->Option Int->Hp->VK->Prop}(hr:SlR X r) (G:PE X e te) (hl:PO X lo tl) (J:PO X hi th):PE X (.Subscript e (.Slice lo hi none p2) pos) (tSl r te tl th):=by
 intro y s σ H Q I h;refine Subscript_ (sV (G y s σ H _ I h) λv L t=>?_)
 obtain⟨x,M,O,P,R⟩:=t;refine wpAny_Slice (sV (hl y L σ M _ O R) λz S t=>?_)
 obtain⟨l,U,Y,pl,q2⟩:=t;refine sV (J y S σ U _ Y q2) λB n C=>?_
 obtain⟨u,E,I3,pu,q3⟩:=C;rw[evalPart_none];refine jz ?_;have I4:Inv X y σ E { n with heap:=n.heap.push { cls:=.type "slice", data:=.fields #[z,B,.none] } }:=I3.kept (t':=n.toks) λb ob q=>ae _ q
 obtain⟨T,id,hT,ht,hg⟩:=hr y { n with heap:=n.heap.push { cls:=.type "slice", data:=.fields #[z,B,.none] } } σ E x v z B l u n.heap.objs.size Q I4 P (Heap.IsSliceOf.new ..) pl pu q3
 show jy (jA X.prog X.w) X.A (nK e (.Slice lo hi none p2) v (.ref n.heap.objs.size)) (EP X y σ Q) X.xe { n with heap:=n.heap.push { cls:=.type "slice", data:=.fields #[z,B,.none] } }
 exact tail_any (ops:=[.ref n.heap.objs.size,v]) ht hT hg (by with_unfolding_all rfl)
def LN(xs:List V) (lo hi:Option Int):List V:=(xs.drop (HT.GZ xs.length 0 lo)).take (HT.GZ xs.length xs.length hi-HT.GZ xs.length 0 lo)
def Kw(xs:List V) (lo hi:Option Int):(LN xs lo hi).length<=xs.length:=by
 unfold LN;rw[lTq,aQ];lia
end
def Jx(n:Nat) (i:Int):Option Nat:=if 0<=i then (if i<n then some i.toNat else none) else if -(n:Int)<=i then some (i+n).toNat else none
def atI{α:Type}(xs:List α) (i:Int):Option α:=(Jx xs.length i).bind λj=>xs[j]?
def NU{n:Nat}{i:Int}{j:Nat}(h:Jx n i=some j):nS i n=some j/\j<n/\-(n:Int)<=i/\i<n:=by
 unfold Jx at h
 by_cases l:0<=i
 .rw [qd l]at h
  by_cases h1:i<n
  .rw [qd h1]at h;have e:i.toNat=j:=aN.inj h;exact⟨by rw[seqIndex_of l h1,e],by lia,by lia,h1⟩
  .rw [qh h1]at h;cases h
 .rw [qh l]at h
  by_cases h1:-(n:Int)<=i
  .rw [qd h1]at h;have e:(i+n).toNat=j:=aN.inj h;exact⟨by rw[seqIndex_neg (by lia) h1,e],by lia,h1,by lia⟩
  .rw [qh h1]at h;cases h
def NR{α:Type}{xs:List α}{i:Int}{v:α}(h:atI xs i=some v):∃j,nS i xs.length=some j/\xs[j]?=some v/\j<xs.length/\-(xs.length:Int)<=i/\i<xs.length:=by
 unfold atI at h;cases e:Jx xs.length i with
 |none=>rw[e]at h;cases h
 |some j =>
  rw[e]at h;obtain⟨h1,h2,l,n⟩:=NU e;exact⟨j,h1,h,h2,l,n⟩
def wH{α:Type}{xs:List α}{j:Nat}{v:α}(h:xs[j]?=some v):atI xs (j:Int)=some v:=by
 have l:j<xs.length:=(gSq.mp h).1;have e:Jx xs.length (j:Int)=some j:=by
  unfold Jx;rw[qd (by lia),qd (by lia)];simp
 unfold atI;rw[e];exact h
def Jo{α:Type}(xs:List α) (v:α):atI (xs++[v]) (-1)=some v:=by
 have hl:(xs++[v]).length=xs.length+1:=by simp
 have e:Jx (xs++[v]).length (-1)=some xs.length:=by
  unfold Jx;rw[hl,qh (by decide),qd (by lia)]
  congr 1;lia
 unfold atI;rw[e];show (xs++[v])[xs.length]?=some v;simp
def UF(b:Expr):Prop:=∀o i,mT b false o i=operate [o,i] (nj o i)
def IxR(X:Cx) (r:R2):Prop :=
 ∀(n l:Expr) (t:Φ) (s:Shared) (σ:St) (H:Hp) (x y:V) (v u:Value) (Q:VK),Inv X t σ H s->qk x v->qk y u->r x y H Q ->
  mT l false v u=operate [v,u] (nj v u)->jy (jA X.prog X.w) X.A (nK n l v u) (EP X t σ Q) X.xe s
def MtR(X:Cx) (id:String) (r:V->List V->Hp->VK->Prop):Prop :=
 ∀(l:Φ) (s:Shared) (σ:St) (H:Hp) (x:V) (xs:List V) (v:Value) (us:Ξ) (Q:VK),Inv X l σ H s->qk x v->pS xs us->r x xs H Q ->
  jy (jA X.prog X.w) X.A (call (.builtin id) (v::us)) (EP X l σ Q) X.xe s
section
variable {X:Cx}{a b:Expr}{ta tb:TE}{pos:Pos}
def si{r:R2}(hr:IxR X r) (ha:PE X a ta) (l:PE X b tb) (n:UF b):PE X (.Subscript a b pos) (Tw r ta tb):=by
 intro t s σ H Q I h;exact Subscript_ (Ye ha l I h λv u z x y B C E G q=>hr a b t z σ B x y v u Q C E G q (n _ _))
def UX(K:Ζ):R2:=λx y H Q=>∃p xs i v,x = .ref p/\y = .int i/\rN K H p xs/\atI xs i=some v/\Q v H
def WW(K:Ζ):R2:=λx y H Q=>∃p xs i v,x = .ref p/\y = .int i/\BN K H p xs/\atI xs i=some v/\Q v H
def rE:IxR X (UX X.K):=by
 intro l n J s σ H x y v u Q I P R h L;obtain⟨p,xs,i,z,rfl,rfl,S,U,q⟩:=h;cases P;obtain⟨t,rfl⟩:=R;obtain⟨B,r,C,hz⟩:=I.list S;obtain⟨j,h1,h2,h3,Y,h5⟩:=NR U;obtain⟨w,M,E⟩:=r.get h2;have hl:=r.length;have hn:=LX;have fin:EP X J σ Q w s:=⟨z,H,I,E,q⟩
 by_cases O:0<=i
 .have G:i.toNat=j:=by
   rw[seqIndex_of O h5]at h1;exact aN.inj h1
  exact item_listR C.isList O (by lia) (by rw[G];simpa using M) fin L
 .have G:(i+(B.toArray.size:Int)).toNat=j:=by
   rw[seqIndex_neg (by lia) Y]at h1
   rw[au,←hl];exact aN.inj h1
  exact mR (x:=w) C.isList.typeIs slot_list_getitem.lookup
   (wpAny_getItem_list_neg (Q:=λr s'=>r=w/\EP X J σ Q r s') C.isList (by lia) (by rw[au] <;> lia) (by lia) (by rw[G];simpa using M) ⟨rfl,fin⟩) L
def zd:IxR X (WW X.K):=by
 intro l n C s σ H x y v u Q I G J h L;obtain⟨p,U,i,z,rfl,rfl,M,O,q⟩:=h;cases G;obtain⟨t,rfl⟩:=J;obtain⟨P,r,E,Y⟩:=I.tuple M;obtain⟨j,h1,h2,h3,h4,h5⟩:=NR O;obtain⟨w,R,B⟩:=r.get h2;have hl:=r.length;have hn:=LX;have fin:EP X C σ Q w s:=⟨z,H,I,B,q⟩;exact mR (x:=w) E.typeIs slot_tuple_getitem.lookup
  (getItem_tuple (j:=j) (Q:=λr S=>r=w/\EP X C σ Q r S) E (by lia) (by lia) (by rw[au,←hl];exact h1) (by simpa using R) ⟨rfl,fin⟩) L
def IE(lo l:Option Int) (n:Nat):(kR lo l none n).1=((HT.GZ n 0 lo:Nat):Int)/\(kR lo l none n).2.1=((HT.GZ n n l:Nat):Int)/\(kR lo l none n).2.2=1:=by
 refine⟨?_,?_,rfl⟩
 .cases lo with
  |none=>simp[kR,HT.GZ]
  |some i =>
   simp only[kR,HT.GZ,iE,show (1:Int)>0 by decide,if_true]
   by_cases h:i<0
   .simp only [h,if_true] <;> lia
   .simp only [h,if_false] <;> lia
 .cases l with
  |none=>simp[kR,HT.GZ]
  |some i =>
   simp only[kR,HT.GZ,iE,show (1:Int)>0 by decide,if_true]
   by_cases h:i<0
   .simp only [h,if_true] <;> lia
   .simp only [h,if_false] <;> lia
def Gi(l:Ξ) (lo n:Option Int):slicePick l.toArray lo n none=((l.drop (HT.GZ l.length 0 lo)).take (HT.GZ l.length l.length n-HT.GZ l.length 0 lo)).toArray:=by
 obtain⟨h1,h2,r⟩:=IE lo n l.toArray.size;unfold slicePick;rw[h1,h2,r];simp only[sliceRange_one,pick_run,au] <;> rfl
def ZD(K:Ζ):V->Option Int->Option Int->Hp->VK->Prop:=λx lo l H Q=>∃a xs,x = .ref a/\rN K H a xs/\∀p,H p=none->Q (.ref p) (qP H p (.lst (LN xs lo l)))
def uD:SlR X (ZD X.K):=by
 intro J s σ H x v L M lo t O Q I u y z B h;obtain⟨a,l,rfl,C,q⟩:=h;cases u;obtain⟨E,r,ht,G⟩:=I.list C;have n:=r.length;refine⟨"list", _,slot_list_getitem.lookup,ht.isList.typeIs,?_⟩;refine wpAny_getItem_list_slice ht.isList y z B .none (by simp) ?_ (by rw[au] <;> lia)
 rw[Gi,←n];refine⟨.ref s.heap.objs.size,_,I.laid (t':=s.toks) (o:=.lst (LN l lo t)) (λb ob q=>ae _ q) (ab _) ?_,rfl,q _ (I.hok.fresh (ab _))⟩
 exact⟨bq (Kw l lo t) G,_,0,(r.drop (HT.GZ l.length 0 lo)).take (HT.GZ l.length l.length t-HT.GZ l.length 0 lo),aC _ rfl⟩
def uk:yw X (.type "list") (λxs H Q=>∃p ys,xs=[.ref p]/\(rN X.K H p ys∨BN X.K H p ys)/\∀l,H l=none->Q (.ref l) (qP H l (.lst ys))):=by
 intro O s σ H xs R Q I r h;obtain⟨p,ys,rfl,B,q⟩:=h;obtain⟨u,rfl,P⟩:=xo r;cases P;have fin:∀(t:Ξ),pS ys t->ys.length<=jD->∀(x:Heap) (y:Nat),(∀b M,s.heap.get? b=some M->x.get? b=some M) ->
   x.get? s.heap.objs.size=some { cls:=.type "list", dict:=none,data:=.seq t.toArray y,slots:=#[] }->EP X O σ Q (.ref s.heap.objs.size) { s with heap:=x }:=λt z C x y kp e =>
  ⟨.ref s.heap.objs.size,_,I.laid (t':=s.toks) kp (ab _) (show qW X.prog X.w _ x _ (.lst ys) from ⟨C,t,y,z,e⟩),rfl,q _ (I.hok.fresh (ab _))⟩
 rcases B with B|B
 .obtain ⟨t,z,G,C⟩:=I.list B;have E:=z.length;obtain⟨o,J,L,n,hd⟩:=G.isList;exact call_list_seq p (.inl rfl) J L hd (λx y kp e=>fin t z C x y kp e) (by simp only[au] <;> lia)
 .obtain ⟨t,z,G,C⟩:=I.tuple B;have E:=z.length;obtain⟨o,J,L,n,hd⟩:=G;exact call_list_seq p (.inr rfl) J L hd (λx y kp e=>fin t z C x y kp e) (by simp only[au] <;> lia)
def Bc:yw X (.type "tuple") (λxs H Q=>∃p ys,xs=[.ref p]/\((rN X.K H p ys/\∀l,H l=none->Q (.ref l) (qP H l (.tup ys)))∨(BN X.K H p ys/\Q (.ref p) H))):=by
 intro B s σ H xs M Q I r h;obtain⟨p,ys,rfl,h⟩:=h;obtain⟨u,rfl,J⟩:=xo r;cases J;rcases h with ⟨x,q⟩|⟨x,q⟩
 .obtain ⟨n,y,z,C⟩:=I.list x;have E:=y.length;refine call_tuple_list z.isList (λt kp=>?_) (by simp only[au] <;> lia)
  have G:Inv X B σ H { s with heap:=t }:=I.kept (t':=s.toks) kp
  have L:Inv X B σ (qP H t.objs.size (.tup ys)) { s with heap:=t.push { cls:=.type "tuple", data:=.seq n.toArray } } :=
   G.laid (t':=s.toks) (λb o e=>ae _ e) (ab _) (show qW X.prog X.w _ _ _ (.tup ys) from ⟨C,n,y,IsTup.new _ _⟩)
  exact⟨.ref t.objs.size,_,L,rfl,q _ (G.hok.fresh (ab _))⟩
 .obtain ⟨n,y,z,C⟩:=I.tuple x;exact call_tuple_same z ⟨.ref p,H,I,rfl,q⟩
def tyV(K:Ζ) (T:String) (x:V) (H:Hp):Prop:=match x with
 | .str _=>T = "str"
 | .int _=>T = "int"
 | .ref p=>(T = "list" /\ ∃xs,rN K H p xs)∨(T = "tuple" /\ ∃o,K.lookup p=some o/\o.cls = .type "tuple" /\ o.dict=none) ∨
   (T = "dict" /\ ((∃kvs,H p=some (.dK kvs))∨∃kvs,H p=some (.dT kvs)))∨(T = "set" /\ ∃S n,H p=some (.set S n))
 |_=>False
def RU{B:Φ}{σ:St}{H:Hp}{s:Shared}{T:String}{x:V}{v:Value}(I:Inv X B σ H s) (r:qk x v) (ty:tyV X.K T x H) :
  s.TypeIs v T/\∀a,v = .ref a->∃ob,s.heap.get? a=some ob/\ob.dict=none:=by
 cases x with
 |str z =>
  obtain⟨t,rfl⟩:=r;cases (show T = "str" from ty)
  exact⟨typeIs_str s z t,λ_ e=>nomatch e⟩
 |int i =>
  obtain⟨t,rfl⟩:=r;cases (show T = "int" from ty)
  exact⟨typeIs_int s i t,λ_ e=>nomatch e⟩
 |ref p =>
  cases r;rcases ty with ⟨rfl,J,C⟩|⟨rfl,o,hk,E,hd⟩|⟨rfl,hk⟩|⟨rfl,S,n,hk⟩
  .obtain ⟨G,_,y,_⟩:=I.list C;refine⟨y.isList.typeIs,λa e=>?_⟩
   cases e;obtain⟨o,n,e,c,hd,_⟩:=y;exact⟨o,e,hd⟩
  .refine ⟨⟨o,I.kIn p o hk,E⟩,λa e=>?_⟩
   cases e;exact⟨o,I.kIn _ o hk,hd⟩
  .have z:∃o,s.heap.get? p=some o/\o.ExactDict:=by
    rcases hk with ⟨l,hk⟩|⟨l,hk⟩
    .obtain ⟨_,_,_,_,o,_,_,e,ex,_⟩:=I.hok p _ hk;exact⟨o,e,ex⟩
    .obtain ⟨_,_,_,_,o,_,_,e,ex,_⟩:=I.hok p _ hk;exact⟨o,e,ex⟩
   obtain⟨o,e,ex⟩:=z;refine⟨⟨o,e,ex.1⟩,λa u=>?_⟩
   cases u;exact⟨o,e,ex.2.1⟩
  .obtain ⟨o,_,_,_,e,ex,_⟩:=I.hok p _ hk;refine⟨⟨o,e,ex.1⟩,λa u=>?_⟩
   cases u;exact⟨o,e,ex.2.1⟩
 |_=>exact False.elim ty
def ZX(K:Ζ) (T:String) (r:V->List V->Hp->VK->Prop) (to:TE):TE:=λσ H Q=>to σ H λx l=>tyV K T x l/\r x [] l Q
def TF(K:Ζ) (T:String) (r:V->List V->Hp->VK->Prop) (to:TE) (t:TA):TE:=λσ H Q=>to σ H λx l=>tyV K T x l/\t σ l λxs n=>r x xs n Q
variable {o e:Expr}{es:List Expr}{to:TE}{t:TA}{name:Str}{apos cpos:Pos}{T id:String}{r:V->List V->Hp->VK->Prop}
def Mg(E:PlainAttrs T) (slot:Slot T name id) (u:typeOf (.builtin id)=pure (.type "method_descriptor")) (G:MtR X id r) (J:PE X o to)
  (l:attributeBase o name X.env (eval o X.env)=eval o X.env:=by rfl) (n:(apos.endLine == cpos.line)=true:=by rfl):PE X (.Call (.Attribute o name apos) [] [] cpos) (ZX X.K T r to):=by
 intro z s σ H Q I h;refine wpAny_Call_method0_late l n (sV (J z s σ H _ I h) λv L y=>?_)
 obtain⟨x,M,B,C,ty,O⟩:=y;obtain⟨h1,h2⟩:=RU B C ty;exact⟨T,id,E,slot,u,h1,h2,Calls.callWith_builtin rfl (PySem.evalArgs_none (G z L σ M x [] v [] Q B C .nil O))⟩
def tE(L:PlainAttrs T) (slot:Slot T name id) (B:typeOf (.builtin id)=pure (.type "method_descriptor")) (M:MtR X id r) (O:PE X o to) (ha:PA X (e::es) t)
  (n:attributeBase o name X.env (eval o X.env)=eval o X.env:=by rfl)
  (z:((kx cpos (jH (e::es) X.env)).all (λx=>!x.1) && (backToKw cpos (keywordEach [] X.env)).all (λx=>x.1.isSome)
   && decide ((e::es).length+([]:List Keyword).length+(if ([]:List Keyword).isEmpty then 0 else 1)<30))=true:=by rfl)
  (u:(apos.endLine == cpos.line)=true:=by rfl) (P:jH (e::es) X.env=(false,eval e X.env)::jH es X.env:=by rfl) (l:(kx cpos (jH es X.env)).any (·.1)=false:=by rfl) :
  PE X (.Call (.Attribute o name apos) (e::es) [] cpos) (TF X.K T r to t):=by
 intro C s σ H Q I h;refine wpAny_Call_method_late n z u rfl (sV (O C s σ H _ I h) λv R y=>?_)
 obtain⟨x,S,E,G,ty,U⟩:=y;obtain⟨h1,h2⟩:=RU E G ty;refine⟨T,id,L,slot,B,h1,h2,?_⟩;have J:=ha cpos C R σ S _ E U;rw[P]at J ⊢;refine Calls.callWith_builtin (by show (false || (kx cpos (jH es X.env)).any (·.1))=false;rw[l] <;> rfl) (Calls.evalArgs_plain ?_)
 refine sV J λY s2 y=>?_
 obtain⟨vs,H2,I2,r2,q2⟩:=y;exact M C s2 σ H2 x vs v Y Q I2 G r2 q2
/- xs.append(e),list.index on a module's tuple .. are MtR facts of 06m -/
end
def MtM(X:Cx) (id:String) (r:V->List V->Hp->VK->Prop):Prop :=
 ∀(l:Φ) (s:Shared) (σ:St) (H:Hp) (x:V) (xs:List V) (v:Value) (us:Ξ) (Q:VK),Inv X l σ H s->qk x v->pS xs us->r x xs H Q ->
  jy (jA X.prog X.w) X.A (call (.builtin id) (v::us)) (EP X l σ Q) X.xe s
def pS.one:∀{x:V}{us:Ξ},pS [x] us->∃u,us=[u]/\qk x u
 |_,_,.cons r .nil=>⟨_,rfl,r⟩
def pS.two:∀{x y:V}{us:Ξ},pS [x,y] us->∃u v,us=[u,v]/\qk x u/\qk y v
 |_,_,_,.cons r (.cons q .nil)=>⟨_,_,rfl,r,q⟩
def pS.zero:∀{us:Ξ},pS [] us->us=[]
 |_,.nil=>rfl
theorem pS.dropLast{xs:List V}{us:Ξ}(h:pS xs us):pS xs.dropLast us.dropLast:=by
 induction h with
 |nil=>exact .nil
 |cons r t l =>
  cases t with
  |nil=>exact .nil
  |cons q n=>exact .cons r l
theorem pS.eraseIdx:∀{xs:List V}{us:Ξ}(i:Nat),pS xs us->pS (xs.eraseIdx i) (us.eraseIdx i)
 |_,_,_,.nil=>.nil
 |_,_,0,.cons _ t=>t
 |_,_,i+1,.cons r t=>.cons r (pS.eraseIdx i t)
def Bw{α:Type}(l:List α):l.eraseIdx (l.length-1)=l.dropLast:=by
 induction l with
 |nil=>rfl
 |cons a r n =>
  cases r with
  |nil=>rfl
  |cons b r =>
   have e:(a::b::r).length-1=((b::r).length-1)+1:=by
    have h1:(a::b::r).length=r.length+2:=rfl;have h2:(b::r).length=r.length+1:=rfl;lia
   rw[e,bS,n]
   all_goals rfl
theorem GI{α:Type}:∀(l:List α) (i:Nat),(l.eraseIdx i).length<=l.length
 | [],_=>ab _
 |_::_,0=>bz _
 |_::r,i+1=>fu (GI r i)
section
variable {X:Cx}{og:Φ}{σ:St}{H:Hp}{s:Shared}{l b:Addr}{xs ys zs:List V}
def Inv.lset{r its':Ξ}{n:Nat}{f:Ω->Ω}{t':Nat}(I:Inv X og σ H s) (t:H l=some (.lst xs))
  (e:s.heap.get? l=some { cls:=.type "list", data:=.seq r.toArray n }) (hf:f r.toArray=its'.toArray) (y:pS ys its') (z:ys.length<=jD) :
  Inv X og σ (qP H l (.lst ys)) { s with heap:=s.heap.update l (Obj.mapSeq f),toks:=t' }:=by
 have q:=PySem.IsL.update e f;rw[hf]at q;refine I.write (x:=l) (e:=l) (by rw[t];exact trivial) (.inl rfl) (λE u B C=>(bF s.heap (Obj.mapSeq f) (Ne.symm B)).trans C) ⟨_,q⟩ ?_
 exact⟨z,its',_,y,q⟩
def Inv.lnew{n:Ξ}{t':Nat}(I:Inv X og σ H s) (r:pS ys n) (t:ys.length<=jD) :
  Inv X og σ (qP H s.heap.objs.size (.lst ys)) { s with heap:=s.heap.push { cls:=.type "list", data:=.seq n.toArray },toks:=t' } :=
 I.laid (λ_ _ q=>ae _ q) (ab _) ⟨t,n,0,r,aC _ rfl⟩
theorem Inv.fresh(I:Inv X og σ H s):H s.heap.objs.size=none:=I.hok.fresh (ab _)
def Inv.lstM(I:Inv X og σ H s) (u:H l=some (.lst xs)):xs.length<=jD/\∃(t:Ξ) (n:Nat),pS xs t/\xs.length=t.length/\s.heap.get? l=some { cls:=.type "list", data:=.seq t.toArray n }:=by
 obtain⟨z,t,n,r,e⟩:=I.hok l _ u;exact⟨z,t,n,r,r.length,e⟩
def S9{n:Nat}(h:n<=jD):Builtin.List.listTooLong n=false:=by
 unfold Builtin.List.listTooLong;exact decide_eq_false (by lia)
end
section
variable {X:Cx}
def AJ:V->List V->Hp->VK->Prop:=λx vs H Q=>∃l xs y,x = .ref l/\vs=[y]/\H l=some (.lst xs)/\xs.length<jD/\Q .non (qP H l (.lst (xs++[y])))
def qI:MtM X "list.append" AJ:=by
 intro J s σ H x L v M Q I C E h;obtain⟨l,O,y,rfl,rfl,B,P,q⟩:=h;cases C;obtain⟨u,rfl,G⟩:=E.one;obtain⟨z,t,n,r,hl,e⟩:=I.lstM B;refine kP F.slot_list_append ⟨_,e,rfl⟩ F.entry_list_append (F.args_list_append_2 _ _) (PySem.list_append l t.toArray n u (by rw[au];lia)) ⟨e,?_⟩
 refine⟨.non,_,I.lset (its':=t++[u]) B e (by simp) (r.append (.cons G .nil)) ?_,rfl,q⟩
 rw[lAq,lSq];lia
def NF:V->List V->Hp->VK->Prop:=λx vs H Q=>∃l b xs n,x = .ref l/\vs=[.ref b]/\H l=some (.lst xs)/\H b=some (.lst n)/\xs.length+n.length<=jD/\Q .non (qP H l (.lst (xs++n)))
def yL:MtM X "list.extend" NF:=by
 intro U s σ H x Y v us Q I G J h;obtain⟨l,b,xs,zs,rfl,rfl,E,L,hz,q⟩:=h;cases G;obtain⟨u,rfl,M⟩:=J.one;cases M;obtain⟨z,y,n,r,hl,e⟩:=I.lstM E;obtain⟨z2,t,O,P,R,S⟩:=I.lstM L;have C:y.toArray.size+t.toArray.size<=jD:=by rw[au,au];lia
 have B:¬ (!y.toArray.isEmpty && Builtin.List.listTooLong (y.toArray.size+t.toArray.size))=true:=by
  rw[S9 C,Bool.and_false];exact aL
 refine kP F.slot_list_extend ⟨_,e,rfl⟩ F.entry_list_extend (F.args_list_extend_2 _ _)
  (AutoSeq1.list_extend_list_list_0 l y.toArray n b t.toArray O B (by rw[au];lia) (by lia)) ⟨e,S,?_⟩
 refine⟨.non,_,I.lset (its':=y++t) E e (by simp) (r.append P) ?_,rfl,q⟩
 rw[lAq];lia
def WZ:V->List V->Hp->VK->Prop:=λx vs H Q=>∃l xs y,x = .ref l/\vs=[]/\H l=some (.lst xs)/\xs[xs.length-1]?=some y/\Q y (qP H l (.lst xs.dropLast))
def MU:MtM X "list.pop" WZ:=by
 intro P s σ H x R v S Q I G J h;obtain⟨l,U,y,rfl,rfl,E,L,q⟩:=h;cases G;have B:=J.zero;subst B;obtain⟨z,t,n,r,hl,e⟩:=I.lstM E;obtain⟨u,M,O⟩:=r.get L;have C:t.toArray[t.toArray.size-1]?=some u:=by
  show t.toArray[t.length-1]?=some u;rw[←ee,←hl];exact M
 refine kP F.slot_list_pop ⟨_,e,rfl⟩ F.entry_list_pop (F.args_list_pop_1 _) (MeetsSeq.list_pop_last l t.toArray n u C (by rw[au];lia)) ⟨e,?_⟩
 refine⟨y,_,I.lset (its':=t.dropLast) E e ?_ r.dropLast ?_,O,q⟩
 .show t.toArray.eraseIdxIfInBounds (t.toArray.size-1)=t.dropLast.toArray;rw[au,fx,Bw]
 .rw [List.length_dropLast];lia
def Rp:V->List V->Hp->VK->Prop:=λx vs H Q=>∃l xs i k y,x = .ref l/\vs=[.int i]/\H l=some (.lst xs)/\-(2 ^ 63)<=i/\i<2 ^ 63/\nS i xs.length=some k/\xs[k]?=some y/\Q y (qP H l (.lst (xs.eraseIdx k)))
def El:MtM X "list.pop" Rp:=by
 intro P s σ H x R v S Q I G J h;obtain⟨l,L,i,k,y,rfl,rfl,E,h1,h2,hk,M,q⟩:=h;cases G;obtain⟨u,rfl,O⟩:=J.one;obtain⟨t,rfl⟩:=O;obtain⟨z,B,n,r,hl,e⟩:=I.lstM E;obtain⟨w,hw,C⟩:=r.get M;refine kP F.slot_list_pop ⟨_,e,rfl⟩ F.entry_list_pop (F.args_list_pop_2 _ _)
  (MeetsSeq.list_pop_at l B.toArray n i t k w (fitsIndex_both h1 h2) (by rw[au,←hl];exact hk) (by rw[←ee];exact hw) (by rw[au];lia)) ⟨e,?_⟩
 refine⟨y,_,I.lset (its':=B.eraseIdx k) E e ?_ (r.eraseIdx k) ?_,C,q⟩
 .show B.toArray.eraseIdxIfInBounds k=(B.eraseIdx k).toArray;rw[fx]
 .have:=GI L k;lia
def ZV:R2:=λx y H Q=>∃l b xs n,x = .ref l/\y = .ref b/\H l=some (.lst xs)/\H b=some (.lst n)/\xs.length+n.length<=jD/\∀p,H p=none->Q (.ref p) (qP H p (.lst (xs++n)))
def ES:Gq X (lh .Add) ZV:=by
 intro R s σ H x y v u Q I C E h;obtain⟨l,b,S,U,rfl,rfl,G,J,Y,q⟩:=h;cases C;cases E;obtain⟨z,B,n,r,hl,e⟩:=I.lstM G;obtain⟨z2,t,n2,L,M,O⟩:=I.lstM J;refine PySem.P.add_list e O ?_ (by rw[au,au];lia)
 have P:B.toArray++t.toArray=(B++t).toArray:=by simp
 rw[P];exact⟨.ref _,_,I.lnew (t':=s.toks) (r.append L) (by rw[lAq];lia),rfl,q _ I.fresh⟩
end
section
variable {κ:Type} [DecidableEq κ]
def BQ(kvs:List (κ×V)) (k:κ):Option V:=(kvs.find? λkv=>decide (kv.1=k)).map (·.2)
def xy(kvs:List (κ×V)) (k:κ) (v:V):List (κ×V) :=
 if (kvs.any λkv=>decide (kv.1=k))=true then kvs.map (λkv=>if kv.1=k then (kv.1,v) else kv) else kvs++[(k,v)]
def Er{p:κ×V}{r:List (κ×V)}{k:κ}(e:p.1=k):BQ (p::r) k=some p.2:=by simp[BQ,dW,e]
def Fl{p:κ×V}{r:List (κ×V)}{k:κ}(e:¬ p.1=k):BQ (p::r) k=BQ r k:=by simp[BQ,dW,e]
theorem IT(k:κ):∀kvs:List (κ×V),(kvs.any λkv=>decide (kv.1=k))=(BQ kvs k).isSome
 | []=>rfl
 |p::r=>by
  rw[eM]
  by_cases e:p.1=k
  .simp only [Er e,decide_eq_true e,Bool.true_or,ie]
  .rw [Fl e,decide_eq_false e,Bool.false_or];exact IT k r
def xE(kvs:List (κ×V)) (k:κ) (v:V):(xy kvs k v).length<=kvs.length+1:=by
 unfold xy;split
 .rw [lMq];lia
 .rw [lAq,lCq,bI];lia
def Gp.isSome_eq{o:Option V}{u:Υ}(r:Gp o u):o.isSome=u.isSome:=by
 cases o with
 |none=>cases u with
  |none=>rfl
  |some _=>exact(show False from r).elim
 |some _=>cases u with
  |none=>exact(show False from r).elim
  |some _=>rfl
def KV.val{kvs:List (κ×V)}{vs:List (κ×Value)}(r:KV kvs vs) (k:κ):Gp (BQ kvs k) (mB vs k):=by
 unfold KV at r
 induction r with
 |nil=>exact True.intro
 | @cons p q ps l h t s =>
  obtain⟨h1,h2⟩:=h
  by_cases e:p.1=k
  .have n:q.1=k:=h1.symm.trans e;have b:mB (q::l) k=some q.2:=by simp[mB,dW,n]
   rw[Er e,b];exact h2
  .have n:¬ q.1=k:=λz=>e (h1.trans z)
   have b:mB (q::l) k=mB l k:=by simp[mB,dW,n]
   rw[Fl e,b];exact s
theorem KV.any{kvs:List (κ×V)}{vs:List (κ×Value)}(r:KV kvs vs) (k:κ):(kvs.any λkv=>decide (kv.1=k))=vs.any λkv=>decide (kv.1=k):=by
 unfold KV at r
 induction r with
 |nil=>rfl
 |cons h t l=>rw[eM,eM,l,h.1]
def KV.repl{kvs:List (κ×V)}{vs:List (κ×Value)}(r:KV kvs vs) (k:κ) {y:V}{u:Value}(l:qk y u) :
  KV (kvs.map λkv=>if kv.1=k then (kv.1,y) else kv) (vs.map λkv=>if kv.1=k then (kv.1,u) else kv):=by
 unfold KV at r ⊢
 induction r with
 |nil=>exact .nil
 | @cons p q ps s h t n =>
  rw[ax,ax];refine .cons ?_ n;obtain⟨h1,h2⟩:=h
  by_cases e:p.1=k
  .rw [qd e,qd (h1.symm.trans e)];exact⟨h1,l⟩
  .rw [qh e,qh (λz=>e (h1.trans z))];exact⟨h1,h2⟩
def KV.put{kvs:List (κ×V)}{vs:List (κ×Value)}(r:KV kvs vs) (k:κ) {y:V}{u:Value}(l:qk y u):KV (xy kvs k y) (lX vs k u):=by
 unfold xy lX;rw[r.any k]
 by_cases e:(vs.any λkv=>decide (kv.1=k))=true
 .rw [qd e,qd e];exact r.repl k l
 .rw [qh e,qh e];exact Paired.snoc r ⟨rfl,l⟩
theorem KV.length{kvs:List (κ×V)}{vs:List (κ×Value)}(r:KV kvs vs):kvs.length=vs.length:=Paired.length r
end
def K4{P:jC}{w:jF}{k:pE}{u:Value}(r:qk (kV k) u):(qR P w).is k u=true:=by
 cases k with
 |inl i=>obtain⟨t,e⟩:=(show ∃t,u=gM i t from r);subst e;exact KR P w i t
 |inr x=>obtain⟨t,e⟩:=(show ∃t,u=ji x t from r);subst e;exact KW P w x t
theorem Gw{P:jC}{w:jF}:∀{ks:List pE}{us:Ξ},pS (ks.map kV) us->ItemsAre (qR P w) ks us
 | [],_,r=>by rw[fN]at r;cases r;exact .nil
 |k::ks,_,r=>by
  rw[ax]at r;cases r with
  |cons h t=>exact .cons (K4 h) (Gw t)
abbrev KT(H:Hp):List (List pE×V)->List (List pE×Addr×Value)->Prop:=Paired λp q=>p.1=q.1/\H q.2.1=some (.tup (p.1.map kV))/\qk p.2 q.2.2
def KT.val{H:Hp}{kvs:List (List pE×V)}{xs:List (List pE×Addr×Value)}(r:KT H kvs xs) (k:List pE):Gp (BQ kvs k) ((mP xs k).map (·.2)):=by
 induction r with
 |nil=>exact True.intro
 | @cons p q ps l h t s =>
  obtain⟨h1,_,h2⟩:=h
  by_cases e:p.1=k
  .have n:q.1=k:=h1.symm.trans e;have b:mP (q::l) k=some q.2:=by simp[mP,dW,n]
   rw[Er e,b];exact h2
  .have n:¬ q.1=k:=λz=>e (h1.trans z)
   have b:mP (q::l) k=mP l k:=by simp[mP,dW,n]
   rw[Fl e,b];exact s
def KT.repl{H:Hp}{kvs:List (List pE×V)}{xs:List (List pE×Addr×Value)}(r:KT H kvs xs) (k:List pE) {y:V}{u:Value}(l:qk y u) :
  KT H (kvs.map λkv=>if kv.1=k then (kv.1,y) else kv) (xs.map (putAt k u)):=by
 induction r with
 |nil=>exact .nil
 | @cons p q ps x h t n =>
  rw[ax,ax];refine .cons ?_ n;obtain⟨h1,h2,s⟩:=h;unfold putAt
  by_cases e:p.1=k
  .rw [qd e,qd (h1.symm.trans e)];exact⟨h1,h2,l⟩
  .rw [qh e,qh (λz=>e (h1.trans z))];exact⟨h1,h2,s⟩
def KT.put{H:Hp}{kvs:List (List pE×V)}{xs:List (List pE×Addr×Value)}(r:KT H kvs xs) (k:List pE) {b:Addr}{y:V}{u:Value}(n:H b=some (.tup (k.map kV))) (l:qk y u) :
  KT H (xy kvs k y) (storedH xs k b u):=by
 have e:(kvs.any λkv=>decide (kv.1=k))=(mP xs k).isSome:=by
  rw[IT,(r.val k).isSome_eq,eg]
 unfold xy storedH;rw[e]
 by_cases q:(mP xs k).isSome=true
 .rw [qd q,qd q];exact r.repl k l
 .rw [qh q,qh q];exact Paired.snoc r ⟨rfl,n,l⟩
def KT.keeps{H l:Hp}{kvs:List (List pE×V)}{xs:List (List pE×Addr×Value)}(r:KT H kvs xs) (ht:∀b ys,H b=some (.tup ys)->l b=some (.tup ys)):KT l kvs xs :=
 Paired.mapP r λ_ _ z=>⟨z.1,ht _ _ z.2.1,z.2.2⟩
section
variable {P:jC}{w:jF}{H:Hp}{h:Heap}{a:Addr}
def VT{u:HO}(ok:BM P w H h) (e:Rd H a u):qW P w H h a u:=e.ok ok
def KL{kvs:List (pE×V)}(ok:BM P w H h) (e:Rd H a (.dK kvs)):kvs.length<=jD/\(a == kG)=false/\∃vs,KV kvs vs/\h.DictOf (qR P w) a vs :=
 show qW P w H h a (.dK kvs) from VT ok e
def Wp{kvs:List (pE×V)}(ok:BM P w H h) (e:H a=some (.dK kvs)):kvs.length<=jD/\(a == kG)=false/\∃vs,KV kvs vs/\h.DictOf (qR P w) a vs:=KL ok (.inl e)
def HB{ks:List pE}(ok:BM P w H h) (e:H a=some (.tup (ks.map kV))):(mM (qR P w)).is h ks a:=by
 obtain⟨_,l,r,o,h1,h2,n,s⟩:=(show qW P w H h a (.tup (ks.map kV)) from ok a _ e)
 exact⟨o,l.toArray,n,h1,h2,s,by simpa using Gw r⟩
def J5{kvs:List (List pE×V)}(ok:BM P w H h) (e:Rd H a (.dT kvs)):kvs.length<=jD/\(a == kG)=false /\
  ∃xs,KT H kvs xs/\h.DictOfH (mM (qR P w)) a xs:=by
 obtain⟨z,y,xs,r,o,u,B,h1,h2,C,E,G⟩:=(show qW P w H h a (.dT kvs) from VT ok e)
 refine⟨z,y,xs,r,o,u,B,h1,h2,C,E,λx n=>?_,G⟩
 have all:∀{l:List (List pE×V)}{m:List (List pE×Addr×Value)},KT H l m->∀x∈m,(mM (qR P w)).is h x.1 x.2.1:=by
  intro l m q
  induction q with
  |nil=>intro x n;exact nomatch n
  | @cons p q ps J s t I =>
   intro x n;rcases ah.mp n with e|n
   .subst e;exact HB ok (by rw[←s.1];exact s.2.1)
   .exact I x n
 exact all r x n
def Z7{kvs:List (List pE×V)}(ok:BM P w H h) (e:H a=some (.dT kvs)):kvs.length<=jD/\(a == kG)=false /\
  ∃xs,KT H kvs xs/\h.DictOfH (mM (qR P w)) a xs:=J5 ok (.inl e)
end
def Ex(H:Hp) (a:Addr) (y:V) (r:Option V):Prop :=
 (∃kvs k,Rd H a (.dK kvs)/\y=kV k/\r=BQ kvs k)∨∃kvs k b,Rd H a (.dT kvs)/\y = .ref b/\H b=some (.tup (k.map kV))/\r=BQ kvs k
def Tt(H:Hp) (a:Addr) (y v:V) (l:Hp):Prop :=
 (∃kvs k,H a=some (.dK kvs)/\y=kV k/\kvs.length<jD/\l=qP H a (.dK (xy kvs k v))) ∨
 ∃kvs k b,H a=some (.dT kvs)/\y = .ref b/\H b=some (.tup (k.map kV))/\kvs.length<jD/\l=qP H a (.dT (xy kvs k v))
theorem Ex.k{H:Hp}{a:Addr}{kvs:List (pE×V)}{k:pE}(e:H a=some (.dK kvs)):Ex H a (kV k) (BQ kvs k):=.inl ⟨kvs,k,.inl e,rfl,rfl⟩
theorem Tt.k{H:Hp}{a:Addr}{kvs:List (pE×V)}{k:pE}{v:V}(e:H a=some (.dK kvs)) (hl:kvs.length<jD):Tt H a (kV k) v (qP H a (.dK (xy kvs k v))):=.inl ⟨kvs,k,e,rfl,hl,rfl⟩
section
variable {X:Cx}{og:Φ}{σ:St}{H:Hp}{s:Shared}{a:Addr}{y v:V}{u r:Value}{o:Option V}{A:Around}{E:Ψ}
def Inv.big(I:Inv X og σ H s):kG<s.heap.objs.size:=by
 have h:jG<s.heap.objs.size:=(I.mod.glob.keeps I.bk).lt;exact gB (by decide) h
def O4{Q:Ψ}(M:A.units+1<jT) (I:Inv X og σ H s) (g:Ex H a y (some v)) (J:qk y u) (h:∀x L,Inv X og σ H L->qk v x->Q x L) :
  jy (jA X.prog X.w) A (nj (.ref a) u) Q E s:=by
 rcases g with ⟨B,k,e,C,l⟩|⟨B,k,b,e,C,O,l⟩
 .subst C;obtain⟨z,hd,P,n,dd⟩:=KL I.hok e;obtain⟨x,hw,t⟩:=Gp.some_of (v:=v) (o:=mB P k) (by rw[l];exact n.val k)
  exact wpAny_getItem_of (K4 J) dd.mapOf hw (h x _ (I.tok _) t)
 .subst C;cases (show u=aj b from J)
  obtain⟨z,hd,R,n,dd⟩:=J5 I.hok e;obtain⟨x,hw,t⟩:=Gp.some_of (v:=v) (o:=(mP R k).map (·.2)) (by rw[l];exact n.val k)
  obtain⟨p,S,G⟩:=oMq.mp hw;refine wpAny_getItem_heap (mn M) (HB I.hok O) dd S ?_;rw[G];exact h x _ (I.tok _) t
def Vf{Q:Ψ}(G:A.units+1<jT) (I:Inv X og σ H s) (g:Ex H a y o) (B:qk y u) (h:∀C,Inv X og σ H C->Q (.bool (!o.isSome)) C) :
  jy (jA X.prog X.w) A (ko .NotIn u (.ref a)) Q E s:=by
 rcases g with ⟨t,k,e,x,l⟩|⟨t,k,b,e,x,J,l⟩
 .subst x;obtain⟨z,hd,L,n,dd⟩:=KL I.hok e;refine wpAny_notIn_of (K4 B) hd dd.mapOf ?_;rw[← (n.val k).isSome_eq,←l];exact h _ (I.tok _)
 .subst x;cases (show u=aj b from B)
  obtain⟨z,hd,M,n,dd⟩:=J5 I.hok e;refine wpAny_notIn_heap (mn G) (HB I.hok J) hd dd ?_;have q:=(n.val k).isSome_eq;rw[eg]at q;rw[←q,←l];exact h _ (I.tok _)
def HY{h':Heap}{t':Nat}{ob:HO}(I:Inv X og σ H s) (mu:Zf (H a)) (l:cg a s.heap h') (n:∃q,h'.get? a=some q) (new:qW X.prog X.w (qP H a ob) h' a ob) :
  Inv X og σ (qP H a ob) { s with heap:=h',toks:=t' } :=
 I.write (x:=a) (e:=a) mu (.inl rfl) (λb q t z=>(l.2 b t).trans z) n new
def Ip{P:jC}{w:jF}{n:Hp}{h':Heap}{kvs:List (pE×V)}{vs:List (pE×Value)}(z:kvs.length<=jD) (hd:(a == kG)=false) (l:KV kvs vs) (dd:h'.DictOf (qR P w) a vs) :
  qW P w n h' a (.dK kvs):=⟨z,hd,vs,l,dd⟩
def OZ{M:Hp}{Q:Unit->Shared->Prop}(hu:A.units+1<jT) (I:Inv X og σ H s) (g:Tt H a y v M) (O:qk y u) (P:qk v r) (h:∀R,Inv X og σ M R->Q () R) :
  jy (jA X.prog X.w) A (setItem (.ref a) u r) Q E s:=by
 rcases g with ⟨n,k,e,C,l,G⟩|⟨n,k,b,e,C,S,l,G⟩
 .subst C G;obtain⟨z,hd,vs,t,dd⟩:=Wp I.hok e;have J:vs.length<=jD:=by rw[←t.length];exact z
  have hl:(xy n k v).length<=jD:=by have:=xE n k v;lia
  refine wpAny_setItem_pairs (hsz:=J) (K4 O) dd λU x L=>h _ ?_
  have he:∃q,U.get? a=some q:=let ⟨q,_,_,B,_⟩:=x;⟨q,B⟩
  exact HY I (by rw[e];exact True.intro) L he (Ip hl hd (t.put k P) x)
 .subst C G;cases (show u=aj b from O)
  obtain⟨z,hd,xs,t,dd⟩:=Z7 I.hok e;have J:xs.length<=jD:=by rw[←Paired.length t];exact z
  have hl:(xy n k v).length<=jD:=by have:=xE n k v;lia
  refine wpAny_setItem_heap (hsz:=J) (mn hu) (HB I.hok S) dd λU x L=>h _ ?_
  obtain⟨q,es,ep,B,h2,h3,h4,_,h5⟩:=x;refine HY I (by rw[e];exact True.intro) L ⟨q,B⟩ ⟨hl,hd,_,(t.put k S P).keeps λc ys Y=>?_,q,es,ep,B,h2,h3,h4,h5⟩
  rw[oP (Zd Y e (λz=>nomatch z))]
  exact Y
end
def ZH(i:Expr):Prop:=∀l n,mT i false l n=operate [l,n] (nj l n)
def UP{prog:jC}{w:jF}{A:Around}{E:Ψ}{s:Shared}{env:Env}{n l:Expr}{pos:Pos}{T id:String}{Q:Ψ}
  (hl:kO (.type T) "__getitem__" = pure (some (.builtin id))) (H:ZH l)
  (h:jy (jA prog w) A (eval n env) (λo y=>jy (jA prog w) A (eval l env) (λi t=>t.TypeIs o T/\jy (jA prog w) A (nj o i) Q E t) E y) E s) :
  jy (jA prog w) A (eval (.Subscript n l pos) env) Q E s:=by
 refine Subscript_ (jO h (λo y B=>jO B (λi t u=>?_) λ_ _ x=>x) λ_ _ x=>x)
 obtain⟨G,u⟩:=u;unfold nK;refine jx ?_;rw[getitemInPython_of_ne G.not_modules];refine jx (wpAny_specialOf G hl ?_);have fin:jy (jA prog w) A (mT l false o i) (λr z=>jy (jA prog w) A (letTemporaryGo n o r >>= λ_=>pure r) Q E z) E t:=by
  rw[H o i];exact wpAny_operating (jO u (λr z C=>jx (wpAny_letTemporaryGo (jz C))) λ_ _ x=>x)
 first
  |exact jz (jx fin)
  |exact jx (jz (jx fin))
  |exact jx fin
def Jn{X:Cx}{n:Φ}{σ:St}{H:Hp}{s:Shared}{a:Addr}{y:V}{o:Option V}(I:Inv X n σ H s) (g:Ex H a y o):s.TypeIs (.ref a) "dict" := by
 rcases g with ⟨l,k,e,_,_⟩|⟨l,k,b,e,_,_,_⟩
 .obtain ⟨_,_,r,_,dd⟩:=KL I.hok e;exact dd.typeIs
 .obtain ⟨_,_,t,_,dd⟩:=J5 I.hok e;exact dd.typeIs
def Tj(n ty:TE):TE:=λσ H Q=>n σ H λx r=>ty σ r λy l=>∃a v,x = .ref a/\Ex l a y (some v)/\Q v l
def NC(ty n:TE):TE:=λσ H Q=>ty σ H λy r=>n σ r λx l=>∃a o,x = .ref a/\Ex l a y o/\Q (.bl (!o.isSome)) l
def V9(n ty r:TE):TS:=λD σ H=>r σ H λv s=>n σ s λx t=>ty σ t λy u=>∃a l,x = .ref a/\Tt u a y v l/\D.nx σ l
section
variable {X:Cx}{o i e value:Expr}{pos pos' tpos:Pos}{td ty tv:TE}
def tL(B:X.A.units+1<jT) (C:PE X o td) (E:PE X i ty) (G:ZH i):PE X (.Subscript o i pos) (Tj td ty):=by
 intro t s σ H Q I h;refine UP PySem.F.slot_dict_getitem.lookup G (sV (C t s σ H _ I h) λu J l=>?_)
 obtain⟨x,L,M,O,P⟩:=l;refine sV (E t J σ L _ M P) λiv s2 n=>?_
 obtain⟨y,R,z,S,a,v,ex,g,U⟩:=n;subst ex;obtain rfl:u=aj a:=O;exact⟨Jn z g,O4 B z g S λw' s3 Y r=>⟨v,R,Y,r,U⟩⟩
def ym(t:X.A.units+1<jT) (z:PE X i ty) (B:PE X o td):PC X .NotIn i o (NC ty td):=by
 intro r s σ H Q I h;refine sV (z r s σ H _ I h) λY C l=>?_
 obtain⟨y,E,G,J,L⟩:=l;refine sV (B r C σ E _ G L) λu s2 n=>?_
 obtain⟨x,M,O,P,a,R,ex,g,S⟩:=n;subst ex;obtain rfl:u=aj a:=P;exact Vf t O g J λs3 U=>⟨.bl (!R.isSome),M,U,rfl,S⟩
def wR(B:X.A.units+1<jT) (C:PE X o td) (E:PE X i ty) (G:PE X value tv) (J:mN value (some (.Subscript o i pos')) pos.line X.env=pure false) :
  PS X (.Assign [.Subscript o i pos'] value pos) (V9 td ty tv):=by
 intro l s σ H D I h;refine wpAny_Assign_Subscript (sV (G l s σ H _ I h) λr L n=>?_) J
 obtain⟨v,M,O,P,Q⟩:=n;refine sV (C l L σ M _ O Q) λu R t=>?_
 obtain⟨x,S,U,Y,q2⟩:=t;refine sV (E l R σ S _ U q2) λiv s3 z=>?_
 obtain⟨y,H3,I3,ry,a,H4,ex,g,q3⟩:=z;subst ex;obtain rfl:u=aj a:=Y;exact OZ B I3 g ry P λs4 I4=>⟨σ,H4,I4,q3⟩
end
def Jl{P:jC}{w:jF}{H:Hp}(h:Heap) (l:kG<h.objs.size):qW P w H (h.push { cls:=.type "dict", data:=.dict #[] }) h.objs.size (.dK []) :=
 ⟨aE _,beq_eq_false_iff_ne.mpr (Ne.symm (ao l)),[],.nil,iF.new h⟩
def QG:TE:=λ_ H Q=>∀p,H p=none->Q (.ref p) (qP H p (.dK []))
section
variable {X:Cx}{pos:Pos}
def yy:PE X (.Dict [] [] pos) QG:=λl s σ H Q I h =>
 wpAny_Dict_empty ⟨.ref s.heap.objs.size,_,I.laid (a:=s.heap.objs.size) (o:=.dK []) (t':=s.toks) (λ_ _ q=>ae _ q) (ab _) (Jl s.heap I.big),rfl,h _ (I.hok.fresh (ab _))⟩
end
def LL:List (TE×TE)->St->Hp->(List (V×V)->Hp->Prop)->Prop
 | [],_,H,Q=>Q [] H
 | (tk,l)::r,σ,H,Q=>tk σ H λx n=>l σ n λy s=>LL r σ s λps t=>Q ((x,y)::ps) t
abbrev VV:List (V×V)->List (Value×Value)->Prop:=Paired λp q=>qk p.1 q.1/\qk p.2 q.2
def PPs(X:Cx) (pos:Pos) (n:List (Option Expr)) (l:List Expr) (r:List (TE×TE)):Prop :=
 ∀(t:Φ) (s:Shared) (σ:St) (H:Hp) (Q:List (V×V)->Hp->Prop),Inv X t σ H s->LL r σ H Q ->
  jy (jA X.prog X.w) X.A (evalPairs (pairTrees n l X.env pos)) (λvs x=>∃ps u,Inv X t σ u x/\VV ps vs/\Q ps u) X.xe s
def NZ{X:Cx}{pos:Pos}:PPs X pos [] [] []:=λl s σ H Q I h=>pairTrees_nil_walk ⟨[],H,I,.nil,h⟩
def K1{X:Cx}{pos:Pos}{k v:Expr}{ks:List (Option Expr)}{vs:List Expr}{tk t:TE}{l:List (TE×TE)}(hk:PE X k tk) (z:PE X v t) (hr:PPs X pos ks vs l) :
  PPs X pos (some k::ks) (v::vs) ((tk,t)::l):=λn s σ H Q I h =>
 pairTrees_cons_walk (sV (hk n s σ H _ I h) λu B ⟨x,C,E,G,J⟩=>sV (z n B σ C _ E J) λw2 L ⟨y,M,O,P,R⟩ =>
  sV (hr n L σ M _ O R) λws s3 ⟨ps,S,U,r,Y⟩=>⟨(x,y)::ps,S,U,.cons ⟨G,P⟩ r,Y⟩)
def C8(kvs more:List (pE×V)):List (pE×V):=more.foldl (λl kv=>xy l kv.1 kv.2) kvs
def KV.merge:∀{more:List (pE×V)}{rs:List (pE×Value)}{kvs:List (pE×V)}{vs:List (pE×Value)},KV more rs->KV kvs vs->KV (C8 kvs more) (merged vs rs):=by
 intro more rs kvs vs r;unfold KV at r
 induction r generalizing kvs vs with
 |nil=>intro q;exact q
 | @cons p q ps s h t l =>
  intro n;have e:KV (xy kvs p.1 p.2) (lX vs q.1 q.2):=by
   have:=n.put p.1 h.2;rw[←h.1];exact this
  exact l e
theorem A8:∀(more kvs:List (pE×V)),(C8 kvs more).length<=kvs.length+more.length
 | [],kvs=>by show kvs.length<=kvs.length+0;lia
 |p::r,kvs=>by
  have h1:=A8 r (xy kvs p.1 p.2);have h2:=xE kvs p.1 p.2;show (C8 (xy kvs p.1 p.2) r).length<=_;rw[lCq];lia
theorem EC{P:jC}{w:jF}:∀{kvs:List (pE×V)}{ws:List (Value×Value)},VV (kvs.map λkv=>(kV kv.1,kv.2)) ws->∃rs,Carries (qR P w) ws rs/\KV kvs rs
 | [],_,r=>by rw[fN]at r;cases r;exact⟨[],True.intro,.nil⟩
 |p::kvs,_,r=>by
  rw[ax]at r;cases r with
  | @cons a b l bs h t =>
   obtain⟨rs,c,q⟩:=EC (P:=P) (w:=w) t;obtain⟨b1,b2⟩:=b;exact⟨(p.1,b2)::rs,⟨K4 h.1,rfl,c⟩,.cons ⟨rfl,h.2⟩ q⟩
def Wl(l:List (TE×TE)):TE:=λσ H Q=>∀p,H p=none->LL l σ (qP H p (.dK [])) λps n=>n p=some (.dK [])/\∃kvs:List (pE×V),ps=kvs.map (λkv=>(kV kv.1,kv.2))/\kvs.length<=15/\Q (.ref p) (qP n p (.dK (C8 [] kvs)))
def NO{X:Cx}{pos:Pos}{l:List (Option Expr)}{n:List Expr}{r:List (TE×TE)}(h:PPs X pos l n r) (t:l.all (·.isSome)=true) (hl:l.length=n.length) (G:l≠[])
  (y:l.length<=15):PE X (.Dict l n pos) (Wl r):=by
 intro J s σ H Q I q;have hn:=I.hok.fresh (ab s.heap.objs.size);have L:=I.laid (a:=s.heap.objs.size) (o:=.dK []) (h':=s.heap.push { cls:=.type "dict", data:=.dict #[] }) (t':=s.toks) (λ_ _ q=>ae _ q) (ab _) (Jl s.heap I.big)
 refine wpAny_Dict_walk (knd:=qR X.prog X.w) t hl G y (sV (h J _ σ _ _ L (q _ hn)) λws s2 B=>?_)
 obtain⟨ps,H2,E,C,e,u,M,lk,O⟩:=B;subst M;obtain⟨R,c,S⟩:=EC (P:=X.prog) (w:=X.w) C;obtain⟨z,hd,U,Y,dd⟩:=Wp E.hok e;cases Y;refine⟨R,c,dd,λh' x hs=>⟨.ref s.heap.objs.size,_,?_,rfl,O⟩⟩
 have hz:(C8 [] u).length<=jD:=by
  have h1:=A8 u [];rw[bI]at h1;rw[jN];lia
 have he:∃q,h'.get? s.heap.objs.size=some q:=let ⟨q,_,_,hq,_⟩:=x;⟨q,hq⟩
 exact HY E (by rw[e];exact True.intro) hs he (Ip hz hd (S.merge .nil) x)
def IsD(H:Hp) (a:Addr):Prop:=(∃kvs,Rd H a (.dK kvs))∨∃kvs,Rd H a (.dT kvs)
def Yi{X:Cx}{n:Φ}{σ:St}{H:Hp}{s:Shared}{a:Addr}(I:Inv X n σ H s) (d:IsD H a) :
  s.TypeIs (.ref a) "dict" /\ (∀b,aj a = .ref b->∃ob,s.heap.get? b=some ob/\ob.dict=none)/\(a == kG)=false:=by
 rcases d with ⟨l,e⟩|⟨l,e⟩
 .obtain ⟨_,hd,r,_,dd⟩:=KL I.hok e;refine⟨dd.typeIs,λb q=>?_,hd⟩
  cases q;obtain⟨ob,_,_,h1,h2,_⟩:=dd;exact⟨ob,h1,h2.2.1⟩
 .obtain ⟨_,hd,t,_,dd⟩:=J5 I.hok e;refine⟨dd.typeIs,λb q=>?_,hd⟩
  cases q;obtain⟨ob,_,_,h1,h2,_⟩:=dd;exact⟨ob,h1,h2.2.1⟩
end L2
namespace Att
open PySem PySem.W PySem.Calls PyProof.Rows
def DQ{P:Params}{h:Heap}:∀(ns:Ϝ) (vs:Ξ),WellAll P h vs (ns.map WData.int)->jR vs ns:=by
 intro ns
 induction ns with
 |nil =>
  intro vs w;rw[fN]at w;cases w;exact .nil
 |cons n ns l =>
  intro vs w;rw[ax]at w;cases w with
  |cons a b =>
   cases a;exact .cons _ _ (l _ b)
def ON{l:OpenLaw}{n:Nat}(hn:l.most=some n) {P:Params}{h:Heap}{args:List WData}{s:Ξ}
  (t:l.row.toRowW.claim.pre args=true) (B:WellAll P h s args) :
  ∃a vs ns,s=[aj a]/\args=[WData.list (ns.map WData.int)]/\h.get? a=some { cls:=.type "list", data:=.seq vs.toArray }/\jR vs ns/\ns.length<=n:=by
 have C:WShape.hasAll [] args [.list .int]=true:=(pre_splitW t).1;have E:l.pre.holds [] { args:=args }=true:=(pre_splitW t).2;obtain⟨d,r,rfl,h1,h2⟩:=hasAllW_cons C;obtain rfl:=hasAllW_nil h2;obtain⟨M,rfl,G⟩:=hasW_list h1;obtain⟨ns,rfl⟩:=items_int G;have u:ns.length<=n:=by
  unfold OpenLaw.pre at E;have y:(WTm.not (.lt (.lit (.int (n:Int))) (.len (.arg 0)))).holds [] { args:=[.list (ns.map .int)] }=true:=by
   have y:=(holds_andW E).1;rw[hn]at y;exact y
  have z:=condW_of y (w_not (w_lt w_lit (w_len_list (w_arg rfl))));rw[lMq]at z;refine eF λq=>?_
  have H:(n:Int)<((ns.length:Nat):Int):=by lia
  first
   | (rw[decide_eq_true H]at z;exact absurd z (by decide))
   | (simp at z;lia)
 cases B with
 |cons I J =>
  cases J;cases I with
  |list L x=>exact⟨_,_,ns,rfl,rfl,L,DQ ns _ x,u⟩
def OL(l:OpenLaw) (args:List WData):l.row.toRowW.claim.post args (.bool true) args=true :=
 postW_of (r:=l.row.toRowW) (X:=(true == true))
  (show WShape.has [] (.bool true) .bool=true by first|rfl|decide|simp[WShape.has,WShape.arms,WShape.armsAll])
  (show (WTm.eq .res (.lit (.bool true))).value [] { args:=args,res:=some (.bool true),after:=args }=some (.bool (true == true)) from w_eq_bool (w_res rfl) w_lit) rfl
def K0{l:OpenLaw}{n:Nat}{q:jC}{loose:List Str}{L:(Str->Υ)->Heap->Prop}{M:jF->Heap->Prop}{d:DefRec}
  (hn:l.most=some n) (C:d.params.defaults=[])
  (call:∀(w:jF) (s₀ s:Shared) (mg E:Str->Υ) (fa:Addr) (o:Obj) (pm cd t:Value) (a:Addr) (vs:Ξ) (ns:Ϝ),
   Ground q loose [] L w s₀ mg E s.heap->M w s.heap ->
   s.heap.get? fa=some o->o.data = .func (docDef d.name d.params d.body d.scope pm cd t)->s.heap.CodeRec cd d.name->mg d.name=some (.ref fa) ->
   s.heap.get? a=some { cls:=.type "list", data:=.seq vs.toArray }->jR vs ns->ns.length<=n->s.gens=#[] ->
   kF (jA l.prog w) mi (.call (.ref fa) ⟨[.ref a],[]⟩) (λr B=>r = .ok (.ret (.bool true))/\OldK s.heap B.heap/\B.os=s.os/\lR B.gens) s) :
  WalkO q loose L M l.row.toRowW d [] (λf vs=>PySem.call f vs):=by
 intro w s₀ s mg E G Y fa o pm cd t S kV U hd H O I X P Q as x R hrd J hlo;obtain rfl:S = .none:=Dflts.none O C;obtain rfl:kV = .none:=Dflts.noKw O;obtain⟨a,vs,ns,rfl,rfl,y,u,z⟩:=ON hn x J;refine enter_call (lg (call w s₀ s mg E fa o pm cd t a vs ns G Y U (fd_plain hd) H I y u z X) λr B hq=>?_)
 obtain⟨rfl,h2,h3,h4⟩:=hq;exact⟨.inl ⟨.bool true,.bool true,[],rfl,λ_=>rfl,.bool true,OL l _,λ_=>⟨bg.nil,λ_ hm=>(nomatch hm)⟩⟩,h2,h3,h4⟩
end Att
namespace L2
open PySem PySem.Spec PyProof.Rows
theorem vals_ints:∀{vs:Ξ}{ns:Ϝ},jR vs ns->pS (ns.map V.int) vs
 |_,_,.nil=>.nil
 |_,_,.cons n t h=>.cons ⟨t,rfl⟩ (vals_ints h)
def wG(s:Stmt):mO:=match s with
 | .FunctionDef _ a _ _ _ _ _ _ _ _=>a
 |_=>{ posonlyargs:=[],args:=[],vararg:=none,kwonlyargs:=[],kw_defaults:=[],kwarg:=none,defaults:=[] }
def uF(s:Stmt):List Stmt:=match s with
 | .FunctionDef _ _ b _ _ _ _ _ _ _=>b
 |_=>[]
def oH(s:Stmt):km:=match s with
 | .FunctionDef _ _ _ _ _ _ l _ _ _=>l
 |_=>{ kind:=.function,names:=[],isGenerator:=false,isCoroutine:=false }
abbrev Tv:Li:=λ_ _ _ _ _ _=>False
abbrev E0:XK:=λ_ _ _=>False
def Y0{X:Cx}:LW Tv X E0:=λ_ _ _ _ _ _ _ h=>h.elim
structure VJ (K:Ζ) (x qual:Str) (st:Stmt) (f:Addr) (fd:jQ):Prop where
 ex:∃(oc:Value) (od:Option Addr) (kV doc pm:Value) (an:Option Addr) (zF ct:Value) (osl:Array Υ),
  fd=W.fnOf x qual (wG st) (uF st) (oH st) .none kV doc pm an zF ct/\K.lookup f=some ⟨oc,od,.func fd,osl⟩/\W.codeIn K zF qual=true
 kp:W.keepIn K (.ref f)=true
section
variable {P:jC}{w:jF}{K:Ζ}{mg:Str->Υ}{base:Heap}
def VJ.ok{x qual:Str}{st:Stmt}{f:Addr}{fd:jQ}{N ps:List Str}{k:Nat}{sp:Sp}(F:VJ K x qual st f fd) (S:oW N ps (oH st)) (len:∀vs H Q E,sp vs H Q E->vs.length=ps.length)
  (l:∀(n:Value) (A:Around) (outer:List Env) (s:Shared) (H:Hp) (vs:List V) (Q:VK) (E:XK),sZ k (A.deeper (kQ qual (oH st) s.heap.objs.size f n))->sp vs H Q E ->
   ∃t,Me (IZ Tv P w K mg base N qual (oH st) f n A outer s H E).nox (uF st) t/\t { nx:=λ_ y=>Q .non y,rt:=Q } (yD N vs) H):yk P w K mg base Tv (k+1) f fd ps sp:=by
 obtain⟨C,od,kV,z,pm,G,n,ct,B,rfl,lk,r⟩:=F.ex;refine V1 lk r S len λA outer s H vs Q E hr u=>?_
 obtain⟨t,h,q⟩:=l n A outer s H vs Q E hr u;exact⟨t,h.nox,q⟩
def VJ.binds{x qual:Str}{st:Stmt}{f:Addr}{fd:jQ}{ps:List Str}(F:VJ K x qual st f fd)
  (h:∀(kV l pm:Value) (n:Option Addr) (r ct:Value) (us:Ξ),us.length=ps.length->nJ (W.fnOf x qual (wG st) (uF st) (oH st) .none kV l pm n r ct) ⟨us,[]⟩=pure (ps.zip us)):vY K fd ps []:=by
 obtain⟨u,od,kV,l,pm,n,r,ct,s,rfl,lk,t⟩:=F.ex;exact .all (h kV l pm n r ct)
def MH{x qual:Str}{st:Stmt}{f:Addr}{u:Value}{od t:Option Addr}{r:Array Υ}{kV n pm s ct:Value}(l:K.lookup f=some ⟨u,od,.func (W.fnOf x qual (wG st) (uF st) (oH st) .none kV n pm t s ct),r⟩)
  (c:W.codeIn K s qual=true) (k:W.keepIn K (.ref f)=true):VJ K x qual st f (W.fnOf x qual (wG st) (uF st) (oH st) .none kV n pm t s ct):=⟨⟨u,od,kV,n,pm,t,s,ct,r,rfl,l,c⟩,k⟩
end
def sv{A:Around}{k:Nat}(hr:sZ k A):A.units+1<jT:=ij (Nat.add_le_add_left (by decide:1<=64) _) hr.units
section
variable {X:Cx}
def pv(i:Nat) {x:Str}{pos:Pos}(n:X.N[i]?=some x:=by rfl) (r:Zr X.env.scope x:=by trivial) (hd:(x == ("__debug__" : Str))=false:=by decide)
  (l:(x == ("__classdict__" : Str))=false:=by decide):PE X (.Name x pos) (yV i):=X0 n r hd l
end
def KI{A B:Prop}(h:B):if false=true then A else B:=by
 rw[qh aL];exact h
def JE{A B:Prop}(h:A):if true=true then A else B:=by
 rw[qd rfl];exact h
def pO(H l:Hp):Prop:=∀b o,H b=some o->l b=some o
def pO.refl(H:Hp):pO H H:=λ_ _ h=>h
def pO.trans{H l n:Hp}(a:pO H l) (b:pO l n):pO H n:=λc o h=>b c o (a c o h)
def pO.free{H n:Hp}(e:pO H n) {l:Addr}(h:n l=ju):H l=ju:=by
 cases q:H l with
 |none=>rfl
 |some o =>
  rw[e l o q]at h;cases h
def pO.seq{K:Ζ}{H l:Hp}{a:Addr}{xs:List V}(e:pO H l) (h:rN K H a xs):rN K l a xs:=by
 rcases h with (h|⟨o,h⟩)|h
 .exact .inl (.inl (e _ _ h))
 .exact .inl (.inr ⟨o,e _ _ h⟩)
 .exact .inr h
end L2
namespace Mr
def cell(ns:Ϝ) (k:Nat):Int:=ns.getD k 0
def qN(ns:Ϝ):Nat->Nat
 |0=>0
 |k+1=>if ns.getD k 0<ns.getD (qN ns k) 0 then k else qN ns k
def rot(ns:Ϝ) (i:Nat):Ϝ:=ns.drop i++ns.take i
def wc(ns:Ϝ):Ϝ:=rot ns (qN ns ns.length)
theorem zb(ns:Ϝ):∀n,(0<n->qN ns n<n)/\(∀j,j<n->ns.getD (qN ns n) 0<=ns.getD j 0)/\(∀j,j<qN ns n->ns.getD (qN ns n) 0<ns.getD j 0)
 |0=>⟨λh=>absurd h (cL _),λj h=>absurd h (cw _),λj h=>absurd h (cw _)⟩
 |n+1=>by
  obtain⟨h1,h2,r⟩:=zb ns n;simp only[qN]
  by_cases c:ns.getD n 0<ns.getD (qN ns n) 0
  .rw [qd c];refine⟨λ_=>eG n,λj l=>?_,λj l=>?_⟩
   .rcases ik (iw l) with q|q
    .have:=h2 j q;lia
    .subst q;exact gk _
   .have:=h2 j l;lia
  .rw [qh c];refine⟨λ_=>?_,λj l=>?_,r⟩
   .by_cases hn:0<n
    .exact bQ (h1 hn)
    .have:n=0:=by lia
     subst this;exact eG 0
   .rcases ik (iw l) with q|q
    .exact h2 j q
    .subst q;lia
def L4(ns:Ϝ):qN ns ns.length<=ns.length:=by
 by_cases h:0<ns.length
 .exact bH ((zb ns ns.length).1 h)
 .have:ns.length=0:=by lia
  rw[this];exact ab 0
def D3{ns:Ϝ}{j:Nat}(h:j<ns.length):ns.getD j 0=ns[j]:=by
 rw[gDq,gEg h];rfl
def Km{ns:Ϝ}{M:Int}(n:M∈ns) (hl:∀a,a∈ns->M<=a):ns.idxOf M=qN ns ns.length:=by
 have s:0<ns.length:=dX n;obtain⟨h1,h2,t⟩:=zb ns ns.length;have h1:=h1 s;have l:ns.idxOf M<ns.length:=dN.mpr n;have e:ns.getD (ns.idxOf M) 0=M:=by rw[D3 l];exact gc l
 have r:ns.getD (qN ns ns.length) 0=M:=by
  have u:=h2 _ l;rw[e]at u;have x:=hl _ (by rw[D3 h1];exact gRq h1:ns.getD (qN ns ns.length) 0∈ns)
  lia
 rcases iy (ns.idxOf M) (qN ns ns.length) with q|q|q
 .have:=t _ q;lia
 .exact q
 .exfalso;have:=List.not_of_lt_findIdx (p:=(· == M)) (xs:=ns) (i:=qN ns ns.length) (by simpa [List.idxOf] using q)
  rw[D3 h1]at r;simp[r]at this
def Kq:wc []=[]:=rfl
def L1(ns:Ϝ) (i:Nat):(rot ns i).length=ns.length:=by
 unfold rot;rw[lAq,aQ,lTq];lia
def DG(ns:Ϝ):(wc ns).length=ns.length:=L1 _ _
def step(ns:Ϝ):Int:=if 0<cell ns 0 % 3 then cell ns 0 % 10 ^ 40+1 else 1
def rot_perm(t:Ϝ) (i:Nat):(rot t i).Perm t:=by
 unfold rot;exact eh.trans (by rw[bj])
def tG(t:Ϝ):(wc t).Perm t:=rot_perm t _
def wB{rs n:Λ}(h:rs.Perm n):rs.flatten.Perm n.flatten:=by
 induction h with
 |nil=>exact .refl _
 |cons x _ r=>rw[fCq,fCq];exact cM.append (.refl x) r
 |swap x y l =>
  rw[fCq,fCq,fCq,fCq,←aV,←aV];exact cM.append eh (.refl _)
 |trans _ _ a b=>exact a.trans b
theorem vC{f:Ϝ->Ϝ}(hf:∀r,(f r).Perm r):∀rs:Λ,(rs.map f).flatten.Perm rs.flatten
 | []=>.refl _
 |r::rs=>by
  rw[ax,fCq,fCq];exact cM.append (hf r) (vC hf rs)
def Ny:∀t:Fin 66,∀d:Fin 67,0<d.val->(t.val+1)*d.val % 67≠0:=by decide +kernel
end Mr
namespace MrS
open PySem PyProof.Rows
structure CM (prog:jC) (w:jF) (A:Around) (s:Shared) (κ:jS) (P:jB->Prop) (lt:jB->jB->Bool):Prop where
 ask:∀x y,P x->P y->∀(E:Ψ) (Q:Bool->Shared->Prop),Q (lt x y) s->jy (jA prog w) A (keyLt' κ x.1 y.1) Q E s
 asym:∀x y,P x->P y->lt x y=true->lt y x=false
 trans:∀x y z,P x->P y->P z->lt y x=false->lt z y=false->lt z x=false
section
variable {prog:jC}{w:jF}{A:Around}{E:Ψ}{s:Shared}{κ:jS}{P:jB->Prop}{lt:jB->jB->Bool}
def CM.refl(C:CM prog w A s κ P lt) {x:jB}(l:P x):lt x x=false:=by
 cases e:lt x x with
 |false=>rfl
 |true=>rw[←C.asym x x l l e,e]
def CM.cmp(C:CM prog w A s κ P lt) {x y:jB}{st:SortSt}{Q:Option Bool->SortSt->Prop}(l:P x) (n:P y) (hk:kindOf st=κ) (h:Q (some (lt x y)) st) :
  wpS (jA prog w) A E s (lt' x y) Q st:=by
 rw[lt'_eq];refine jJ (ni ?_);rw[hk];refine jJ (wpS_lift (lH (C.ask x y l n _ _ ⟨rfl,?_⟩)));exact jV h
def K5{arr:Array jB}{i:Nat}{x:jB}{st:SortSt}{Q:jB->SortSt->Prop}(l:arr[i]?=some x) (h:Q x st):wpS (jA prog w) A E s (elem' arr i) Q st:=by
 rw[elem'_eq,l];exact jV h
def CM.at(C:CM prog w A s κ P lt) {i j:Nat}{x y:jB}{st:SortSt}{Q:Option Bool->SortSt->Prop}(l:(jI st)[i]?=some x) (n:(jI st)[j]?=some y) (r:P x) (t:P y) (hk:kindOf st=κ) (h:Q (some (lt x y)) st) :
  wpS (jA prog w) A E s (ltAt' i j) Q st:=by
 rw[ltAt'_eq];refine jJ (ni ?_);exact jJ (K5 l (jJ (K5 n (C.cmp r t hk h))))
end
section
variable {prog:jC}{w:jF}{A:Around}{E:Ψ}{s:Shared}{κ:jS}{P:jB->Prop}{lt:jB->jB->Bool}
def JV{x:String}{st:SortSt}{Q:Unit->SortSt->Prop}(h:Q () st):wpS (jA prog w) A E s (liftM (rule x):StateT SortSt Sem Unit) Q st:=wpS_lift (mw ⟨rfl,h⟩)
structure Ls where
 o:Array jB
 (i j m p q g:Nat)
variable {a b:Array jB}{st:SortSt}{Q:Array jB->SortSt->Prop}{n:Nat}{x:Ls}
end
def DK(lt:jB->jB->Bool) (xs:Array jB) (i j:Nat):Prop:=∀p q x y,i<=p->p<=q->q<j->xs[p]?=some x->xs[q]?=some y->lt y x=false
def MM(lt:jB->jB->Bool) (xs:Array jB) (i j:Nat):Prop:=∀p q x y,i<=p->p<=q->q<j->xs[p]?=some x->xs[q]?=some y->lt x y=false
def Zu(lt:jB->jB->Bool) (xs:Array jB) (i j:Nat):Prop:=∀p q x y,i<=p->p<j->i<=q->q<j->xs[p]?=some x->xs[q]?=some y->lt x y=false
section
variable {lt:jB->jB->Bool}{xs:Array jB}{i j lo n:Nat}
def Lq(l:j<=xs.size) (h:MM lt xs i j):DK lt (lY xs i j ((j-i) / 2)) i j:=by
 intro p q x y h1 h2 s ex r;rw[jM l,qd ⟨h1,by lia⟩]at ex
 rw[jM l,qd ⟨by lia,s⟩]at r
 exact h _ _ _ _ (by lia) (by lia) (by lia) r ex
def Fz(u:j<=xs.size) (z:lo<=i) (hn:j<=n) (e:Zu lt xs i j) (h:MM lt xs lo n):MM lt (lY xs i j ((j-i) / 2)) lo n:=by
 intro p q x y h1 h2 s ex l;rw[jM u]at ex l
 by_cases t:i<=p/\p<j
 .rw [qd t]at ex
  by_cases r:i<=q/\q<j
  .rw [qd r]at l;exact e _ _ _ _ (by lia) (by lia) (by lia) (by lia) ex l
  .rw [qh r]at l;exact h _ _ _ _ (by lia) (by lia) s ex l
 .rw [qh t]at ex
  by_cases r:i<=q/\q<j
  .rw [qd r]at l;exact h _ _ _ _ h1 (by lia) (by lia) ex l
  .rw [qh r]at l;exact h _ _ _ _ h1 h2 s ex l
end
section
variable (lo:Nat)
def crA(n:Nat):StateT SortSt Sem (ForInStep (Option (Option Nat)×Nat)):=do
 match ←ltAt' (lo+n) (lo+n-1) with
 |some c=>if c then pure (.done (none,n)) else pure (.yield (none,n+1))
 |_=>pure (.done (some none,n))
def crB(n q:Nat):StateT SortSt Sem (ForInStep (Option (Option Nat)×Nat×Nat)):=do
 match ←ltAt' (lo+n) (lo+n-1) with
 |some c =>
  if c then
   if q>0 then do
    let _ ←lI (lo+n-(q+1)) (lo+n)
    pure (.yield (none,n+1,0))
   else pure (.yield (none,n+1,0))
  else do
   match ←ltAt' (lo+n-1) (lo+n) with
   |some c=>if c then pure (.done (none,n,q)) else pure (.yield (none,n+1,q+1))
   |_=>pure (.done (some none,n,q))
 |_=>pure (.done (some none,n,q))
def crZ(l n:Nat):StateT SortSt Sem (Option Nat):=do
 lI lo (lo+n)
 let r ←forIn [n:l] (none,n) λ_ s=>crA lo s.2
 Break.runK.match_1 (λ_=>StateT SortSt Sem (Option Nat)) r.1 (λv=>pure v) λ_=>pure (some r.2)
def crD(l n:Nat):StateT SortSt Sem (Option Nat):=do
 rule "list.sort.descending-run"
 let r ←forIn [n+1:l] (none,n+1,0) λ_ s=>crB lo s.2.1 s.2.2
 Break.runK.match_1 (λ_=>StateT SortSt Sem (Option Nat)) r.1 (λv=>pure v) λ_ =>
  if r.2.2>0 then do
   let _ ←lI (lo+r.2.1-(r.2.2+1)) (lo+r.2.1)
   crZ lo l r.2.1
  else crZ lo l r.2.1
def Z0(l:Nat):countRun' lo l=(do
 let r ←forIn [1:l] (none,1) λ_ s=>crA lo s.2
 Break.runK.match_1 (λ_=>StateT SortSt Sem (Option Nat)) r.1 (λv=>pure v) λ_ =>
  if r.2 == l then pure (some r.2)
  else if r.2>1 then do
   match ←ltAt' lo (lo+r.2-1) with
   |some c =>
    if c then pure (some r.2)
    else do
     let _ ←lI lo (lo+r.2)
     crD lo l r.2
   |_=>pure none
  else crD lo l r.2):=countRun'_eq lo l
end
section
variable {prog:jC}{w:jF}{A:Around}{E:Ψ}{s:Shared}{κ:jS}{P:jB->Prop}{lt:jB->jB->Bool}
def Kl(C:CM prog w A s κ P lt) {xs:Array jB}(r:∀x,x∈xs->P x) {lo n:Nat}(h:MM lt xs lo (lo+(n+1))) (u:∀x y,xs[lo+(n+1)]?=some x->xs[lo+n]?=some y->lt y x=false) (B:lo+(n+1)<xs.size):MM lt xs lo (lo+(n+2)):=by
 intro p q x y h1 h2 G ex l
 by_cases c:q<lo+(n+1)
 .exact h p q x y h1 h2 c ex l
 .have eq:q=lo+(n+1):=by lia
  subst eq
  by_cases z:p=lo+(n+1)
  .subst z;rw[ex]at l;cases l;exact C.refl (r _ (aQq ex))
  .have t:xs[lo+n]?=some (xs[lo+n]'(by lia)):=ba (by lia)
   exact C.trans _ _ _ (r _ (aQq l)) (r _ (aQq t)) (r _ (aQq ex)) (u _ _ l t) (h p (lo+n) _ _ h1 (by lia) (by lia) ex t)
def D6{i j:Nat}{st:SortSt}{Q:Unit->SortSt->Prop}(h:Q () (kj st (lY (jI st) i j ((j-i) / 2)))):wpS (jA prog w) A E s (lI i j) Q st:=by
 rw[reverseSlice'_eq];exact nF h
structure CL (xs ys:Array jB) (lo hi:Nat):Prop where
 pm:ys.Perm xs
 out:∀k,(k<lo∨hi<=k)->ys[k]?=xs[k]?
theorem CL.refl(xs:Array jB) (lo l:Nat):CL xs xs lo l:=⟨ja.refl _,λ_ _=>rfl⟩
theorem CL.trans{xs ys n:Array jB}{lo l:Nat}(a:CL xs ys lo l) (b:CL ys n lo l):CL xs n lo l:=⟨b.pm.trans a.pm,λk h=>(b.out k h).trans (a.out k h)⟩
def CL.mono{xs ys:Array jB}{lo n l:Nat}(a:CL xs ys lo n) (h:n<=l):CL xs ys lo l:=⟨a.pm,λk q=>a.out k (by lia)⟩
theorem CL.size{xs ys:Array jB}{lo l:Nat}(a:CL xs ys lo l):ys.size=xs.size:=a.pm.size_eq
def CL.mem{xs ys:Array jB}{lo l:Nat}(a:CL xs ys lo l) {P:jB->Prop}(h:∀x,x∈xs->P x):∀x,x∈ys->P x:=λx n=>h x (a.pm.mem_iff.mp n)
def xv{xs:Array jB}{lo l i j:Nat}(n:j<=xs.size) (h1:lo<=i) (h2:j<=l):CL xs (lY xs i j ((j-i) / 2)) lo l :=
 ⟨mirror_perm _ _ _ _,λk hk=>by rw[jM n,qh (by lia)]⟩
structure CR (lt:jB->jB->Bool) (as:Array jB) (lo i q:Nat) (ys:Array jB):Prop where
 b:CL as ys lo (lo+i)
 d:MM lt ys lo (lo+i)
 e:Zu lt ys (lo+i-(q+1)) (lo+i)
 p:q+1<=i
def DU(C:CM prog w A s κ P lt) {ys:Array jB}(r:∀x,x∈ys->P x) {i j:Nat}(h:j<=i+1):Zu lt ys i j:=by
 intro p q x y t g2 u z l n;have e:p=q:=by lia
 subst e;rw[l]at n;cases n;exact C.refl (r _ (aQq l))
end
section
variable {prog:jC}{w:jF}{A:Around}{E:Ψ}{s:Shared}{κ:jS}{P:jB->Prop}{lt:jB->jB->Bool}
def LS{xs:Array jB}{lo k l n:Nat}(r:lo+k<xs.size) (hl:l<=k) (hn:k<n):CL xs (nq xs (lo+k) (k-l)) lo (lo+n) :=
 ⟨bubble_perm _ _ _,λp t=>by rw[mJ r (k-l) (by lia) p,qh (by lia),qh (by lia)]⟩
def QQ{l n:Nat}{st:SortSt}{Q:Unit->SortSt->Prop}(h:Q () (kj st (nq (jI st) l (l-n)))):wpS (jA prog w) A E s (moveDown' l n) Q st:=by
 rw[moveDown'_eq];exact nF h
end
section
variable {prog:jC}{w:jF}{A:Around}{E:Ψ}{s:Shared}{κ:jS}{P:jB->Prop}{lt:jB->jB->Bool}
abbrev XT(κ:jS) (xs:Array jB) (p:Array (Nat×Nat×Nat)) (g:Nat):SortSt:=SortSt.mk' κ xs p g none
end
end MrS
namespace Xe
open PySem
abbrev VEm:Ξ:=[.type "ValueError", .type "Exception", .type "BaseException", .type "object"]
end Xe
namespace Mr
abbrev St:=L2.St
open PySem PySem.Spec PyProof.Rows L2
section
variable {X:Cx}{og:Φ}{σ:List (Option V)}{H H':Hp}{s:Shared}{h':Heap}
def JJ{t':Nat}{fp:Δ}{T:Addr}{o:HO}(I:Inv X og σ H s) (k:∀b u,b∉fp->s.heap.get? b=some u->h'.get? b=some u)
  (hf:∀b∈fp,vk X og H b) (y:s.heap.objs.size<=T) (new:qW X.prog X.w (qP H T o) h' T o):Inv X og σ (qP H T o) { s with heap:=h',toks:=t' }:=by
 have hn:H T=none:=I.hok.fresh y;have B:∀b u,H b=some u->b∉fp:=λb u e z=>by rw[(hf b z).1]at e;cases e
 refine I.step (g':=s.gens) (d':=s.drawn) (ch:=fp) (λb t=>?_) (λb u _ _ l e _=>k b u l e) (λb u _ _ l e _=>⟨u.slots,k b u l e⟩)
  (λb u _ e n=>by rw[oP (ao (aK (ag e) y))];exact n) (λb u l e=>⟨u,k b u l e⟩)
  (λb x e=>by rw[oP (qG e hn)];exact e) (λb u x e=>by rw[oP (qG e hn)];exact e) (λb _ e=>by rw[oP (qG e hn)];exact e) (λm C=>?_) (λb u e=>?_) I.bare
 .obtain ⟨_,f1,_,E,G,J⟩:=hf b t;exact⟨E,f1,G,J⟩
 .obtain ⟨u,L,M,O,r⟩:=C;exact⟨u,L,M,k _ u (λz=>(hf _ z).2.1 rfl) O,r⟩
 .by_cases t:b=T
  .subst t;rw[oX]at e;cases e;exact new
  .rw [oP t]at e;refine(I.hok b u e).stay (λc v l q=>k c v ?_ q) (λc q=>by rw[oP (qG q hn)];exact q) (λc x q=>by rw[oP (qG q hn)];exact q) λc x q=>by rw[oP (qG q hn)];exact q
   rcases l with rfl|l
   .exact B _ u e
   .exact B c _ l
def vP{t':Nat}{fp:Δ}(I:Inv X og σ H s) (k:∀b u,b∉fp->s.heap.get? b=some u->h'.get? b=some u)
  (hf:∀b∈fp,vk X og H b):Inv X og σ H { s with heap:=h',toks:=t' }:=by
 have t:∀b u,H b=some u->b∉fp:=λb u e z=>by rw[(hf b z).1]at e;cases e
 refine I.step (g':=s.gens) (d':=s.drawn) (ch:=fp) (λb x=>?_) (λb u _ _ l e _=>k b u l e) (λb u _ _ l e _=>⟨u.slots,k b u l e⟩)
  (λ_ _ _ _ n=>n) (λb u l e=>⟨u,k b u l e⟩) (λ_ _ e=>e) (λ_ _ _ e=>e) (λ_ _ e=>e) (λm y=>?_) (λb u e=>?_) I.bare
 .obtain ⟨_,f1,_,B,C,E⟩:=hf b x;exact⟨B,f1,C,E⟩
 .obtain ⟨u,G,J,L,r⟩:=y;exact⟨u,G,J,k _ u (λz=>(hf _ z).2.1 rfl) L,r⟩
 .refine (I.hok b u e).stay (λc v l q=>k c v ?_ q) (λ_ q=>q) (λ_ _ q=>q) λ_ _ q=>q
  rcases l with rfl|l
  .exact t _ u e
  .exact t c _ l
def HZ{a b:Addr}{xs:List V}(I:Inv X og σ H s) (h:rN X.K H a xs) (f:vk X og H b):a≠b:=by
 intro e;subst e;obtain⟨l,_,_,t,_⟩:=f;rcases h with (h|⟨o,h⟩)|⟨o,u,n,hk,_⟩
 .rw [l]at h;cases h
 .rw [l]at h;cases h
 .have r:=I.mod.kin a o hk;rcases t with z|z
  .exact I.ok.noex a o r z
  .exact absurd (aK (ag (I.ok.bs a o r).1) z) (cL _)
end
def YE(K:Ζ) (a:Addr):It :=
  ⟨λi H=>∃xs x,rN K H a xs/\xs[i]?=some x,
   λi H v l=>∃T x,H T=none/\v = .ref T/\l=qP H T (.tup [.int i,x])/\∀xs,rN K H a xs->xs[i]?=some x,
   λi H=>∃xs,rN K H a xs/\xs.length<=i⟩
def PL{P:jC}{w:jF}{K:Ζ}{C:List Expr}{k:Nat}{pos:Pos}(a e y:Addr) (G:e≠y) :
  My P w K (.Tuple C k pos) (YE K a) [e,y] e (λi h=>(∃l,IsEnum h e y i l)/\h.IsListIter y a i) where
 mem:=by simp
 obj:=λi h st b n=>by
  obtain⟨⟨l,B⟩,o,ho,_,d⟩:=st;rcases ah.mp n with rfl|n
  .exact ⟨_,B,λv z=>by
    have z':Data.fields _=Data.cell v:=z;cases z'⟩
  .have e:b=y:=by simpa using n
   subst e;exact⟨o,ho,λv z=>by rw[d]at z;cases z⟩
 keep:=λi h h' st kp=>by
  obtain⟨⟨l,B⟩,r⟩:=st;exact⟨⟨l,kp e (by simp) _ B⟩,r.at λo q=>kp y (by simp) o q⟩
 item:=by
  intro X hP hw O hc i og s σ H E I hf st Q;subst hP hw O;obtain⟨xs,x,M,R⟩:=Q;obtain⟨S,U,p,hz⟩:=I.list M;obtain⟨u,hu,ru⟩:=U.get R;obtain⟨⟨l,B⟩,r⟩:=st;have Y:y<s.heap.objs.size:=by obtain⟨_,q,_⟩:=r;exact ag q
  have J:e<s.heap.objs.size:=ag B;refine wpAny_pyNext_enum_item B r p.isList (x:=u) (by simpa using hu) G λh1 he1 L ht1 hz1 hk1=>⟨_,rfl,?_⟩
  refine wpAny_letOwnedTupleGo_enum he1 λh2 he2 t=>?_
  replace t:cg e h1 h2:=t;have hn:H s.heap.objs.size=none:=I.hok.fresh (ab _);refine⟨.ref s.heap.objs.size,qP H s.heap.objs.size (.tup [.int i,x]),?_,rfl,⟨_,x,hn,rfl,rfl,λys hy=>by rw[I.list_inj hy M];exact R⟩,⟨⟨_,by simpa using he2⟩,L.extBut t.extBut (Ne.symm G)⟩,λb n=>?_⟩
  .show L2.Inv X og σ _ { s with heap:=h2,toks:=s.toks+1 }
   refine JJ (s:=s) (fp:=[e,y]) I (λb o n q=>?_) hf (ab _) ⟨by simp only[lCq,bI];rw[jN];decide,[.int i s.toks,u],.cons ⟨_,rfl⟩ (.cons ru .nil),_,t.extBut _ _ (aO J) ht1,rfl,_,rfl⟩
   have b1:b≠e:=λz=>n (by simp[z])
   exact t.extBut b o b1 (hk1 b o b1 (λz=>n (by simp[z])) q)
  .have hb2:b<s.heap.objs.size:=by
    rcases ah.mp n with rfl|n
    .exact J
    .have e:b=y:=by simpa using n
     subst e;exact Y
   rw[oP (ao hb2)];exact(hf b n).1
 done:=by
  intro X hP hw O hc i og s σ H E I hf st Q;subst hP hw O;obtain⟨xs,M,R⟩:=Q;obtain⟨S,U,p,hz⟩:=I.list M;obtain⟨⟨l,B⟩,r⟩:=st;have hl:=U.length;exact wpAny_pyNext_enum_end (I.ok.hd hc) B r p.isList (by simp;lia) λh1 eb=>⟨rfl,vP (t':=s.toks) (fp:=[e,y]) I (λb o n q=>eb b o (λz=>n (by simp[z])) q) hf⟩
 self:=λ_ _ _ _ _ st h=>by
  obtain⟨⟨l,B⟩,_⟩:=st;exact wpAny_pyIter_enum B h
def Ze(K:Ζ) (a b:Addr):It :=
  ⟨λi H=>∃xs ys x y,rN K H a xs/\rN K H b ys/\xs[i]?=some x/\ys[i]?=some y,
   λi H v l=>∃T x y,H T=none/\v = .ref T/\l=qP H T (.tup [x,y])/\(∀xs,rN K H a xs->xs[i]?=some x)/\∀ys,rN K H b ys->ys[i]?=some y,
   λi H=>∃xs ys,rN K H a xs/\rN K H b ys/\(xs.length<=i∨ys.length<=i)⟩
structure Z5 (z TI TO i1 i2:Addr):Prop where
 a:TI≠z
 b:TO≠z
 c:i1≠z
 d:i2≠z
 e:TI≠TO
 f:TI≠i1
 g:TI≠i2
 h:TO≠i1
 i:TO≠i2
 j:i1≠i2
def VS(n:Nat):Z5 (n+4) (n+2) (n+3) n (n+1) where
 a:=λ(q:n+2=n+4)=>by lia
 b:=λ(q:n+3=n+4)=>by lia
 c:=λ(q:n=n+4)=>by lia
 d:=λ(q:n+1=n+4)=>by lia
 e:=λ(q:n+2=n+3)=>by lia
 f:=λ(q:n+2=n)=>by lia
 g:=λ(q:n+2=n+1)=>by lia
 h:=λ(q:n+3=n)=>by lia
 i:=λ(q:n+3=n+1)=>by lia
 j:=λ(q:n=n+1)=>by lia
def Sy{P:jC}{w:jF}{K:Ζ}{S:List Expr}{k:Nat}{pos:Pos}(l1 l2 z TI TO r t:Addr) (d:Z5 z TI TO r t) :
  My P w K (.Tuple S k pos) (Ze K l1 l2) [z,TI,TO,r,t] z
   (λi h=>IsZip h z TI TO .none/\ky h TI (.ref r) (.ref t)/\(∃a b,ky h TO a b)/\h.IsListIter r l1 i/\h.IsListIter t l2 i) where
 mem:=by simp
 obj:=λi h st b l=>by
  obtain⟨M,n,⟨a,c,u⟩,⟨o1,q1,_,d1⟩,⟨o2,q2,_,d2⟩⟩:=st;simp only[ah,bB,or_false]at l;rcases l with rfl|rfl|rfl|rfl|rfl
  .exact ⟨_,M,λv x=>by
    have U:Data.fields _=Data.cell v:=x;cases U⟩
  .exact ⟨_,n,λv x=>by
    have U:Data.seq _ _=Data.cell v:=x;cases U⟩
  .exact ⟨_,u,λv x=>by
    have U:Data.seq _ _=Data.cell v:=x;cases U⟩
  .exact ⟨o1,q1,λv x=>by rw[d1]at x;cases x⟩
  .exact ⟨o2,q2,λv x=>by rw[d2]at x;cases x⟩
 keep:=λi h h' st kp=>by
  obtain⟨M,n,⟨a,c,u⟩,h1,h2⟩:=st;exact⟨kp z (by simp) _ M,kp TI (by simp) _ n,⟨a,c,kp TO (by simp) _ u⟩,h1.at λo q=>kp r (by simp) o q,h2.at λo q=>kp t (by simp) o q⟩
 item:=by
  intro X hP hw hK hc i og s σ H E I hf st hg;subst hP hw hK;obtain⟨xs,ys,x,y,C,G,R,hy⟩:=hg;obtain⟨Y,O,p1,_⟩:=I.list C;obtain⟨its2,Q,p2,_⟩:=I.list G;obtain⟨u1,hu1,ru1⟩:=O.get R;obtain⟨u2,hu2,ru2⟩:=Q.get hy;obtain⟨M,n,⟨a,c,u⟩,h1,h2⟩:=st;have J:∀b∈[z,TI,TO,r,t],l1≠b:=λb l=>HZ I C (hf b l)
  have L:∀b∈[z,TI,TO,r,t],l2≠b:=λb l=>HZ I G (hf b l)
  have D:kr z TI TO r t l1 l2:=⟨d.a,d.b,d.c,d.d,d.e,d.f,d.g,d.h,d.i,d.j,J z (by simp),J TO (by simp),J r (by simp),J t (by simp),L z (by simp),L TO (by simp),L r (by simp),L t (by simp)⟩
  have hzl:z<s.heap.objs.size:=ag M;refine lO D M n u h1 h2 p1.isList p2.isList (x:=u1) (y:=u2) (by simpa using hu1) (by simpa using hu2) λg1 hz1 hTO1 g11 g12 hT1 hsz1 hk1=>⟨_,rfl,?_⟩
  refine wpAny_letOwnedTupleGo_zip hz1 λg2 hz2 B=>?_
  replace B:cg z g1 g2:=B;have hn:H s.heap.objs.size=none:=I.hok.fresh (ab _);refine⟨.ref s.heap.objs.size,qP H s.heap.objs.size (.tup [x,y]),?_,rfl,⟨_,x,y,hn,rfl,rfl,λws hw=>by rw[I.list_inj hw C];exact R,λws hw=>by rw[I.list_inj hw G];exact hy⟩,
   ⟨hz2,B.extBut _ _ d.a (hk1 _ _ d.a d.e d.f d.g n),⟨_,_,B.extBut _ _ d.b hTO1⟩,g11.extBut B.extBut d.c,g12.extBut B.extBut d.d⟩,λb l=>?_⟩
  .show L2.Inv X og σ _ { s with heap:=g2,toks:=s.toks }
   refine JJ (s:=s) (fp:=[z,TI,TO,r,t]) I (λb o l q=>?_) hf (ab _) ⟨by simp only[lCq,bI];rw[jN];decide,[u1,u2],.cons ru1 (.cons ru2 .nil),_,B.extBut _ _ (aO hzl) hT1,rfl,_,rfl⟩
   have b1:b≠z:=λe=>l (by simp[e])
   exact B.extBut b o b1 (hk1 b o b1 (λe=>l (by simp[e])) (λe=>l (by simp[e])) (λe=>l (by simp[e])) q)
  .have hb2:b<s.heap.objs.size:=by
    have hb':=l;simp only[ah,bB,or_false]at hb';rcases hb' with rfl|rfl|rfl|rfl|rfl
    .exact hzl
    .exact ag n
    .exact ag u
    .obtain ⟨_,q,_⟩:=h1;exact ag q
    .obtain ⟨_,q,_⟩:=h2;exact ag q
   rw[oP (ao hb2)];exact(hf b l).1
 done:=by
  intro X hP hw hK hc i og s σ H E I hf st hg;subst hP hw hK;obtain⟨xs,ys,C,G,R⟩:=hg;obtain⟨Y,O,p1,_⟩:=I.list C;obtain⟨its2,Q,p2,_⟩:=I.list G;obtain⟨M,n,⟨a,c,u⟩,h1,h2⟩:=st;have J:∀b∈[z,TI,TO,r,t],l1≠b:=λb l=>HZ I C (hf b l)
  have L:∀b∈[z,TI,TO,r,t],l2≠b:=λb l=>HZ I G (hf b l)
  have D:kr z TI TO r t l1 l2:=⟨d.a,d.b,d.c,d.d,d.e,d.f,d.g,d.h,d.i,d.j,J z (by simp),J TO (by simp),J r (by simp),J t (by simp),L z (by simp),L TO (by simp),L r (by simp),L t (by simp)⟩
  have e1:=O.length;have e2:=Q.length;refine nt (I.ok.hd hc) D M n u h1 h2 p1.isList p2.isList ?_ λg1 eb=>⟨rfl,vP (t':=s.toks) (fp:=[z,TI,TO,r,t]) I (λb o l q=>eb b o (λe=>l (by simp[e])) (λe=>l (by simp[e])) (λe=>l (by simp[e])) (λe=>l (by simp[e])) q) hf⟩
  rcases R with R|R
  .exact .inl (by simp;lia)
  .exact .inr (by simp;lia)
 self:=λ_ _ _ _ _ st h=>lK st.1 h
section
variable {X:Cx}{elts:List Expr}{kk:Nat}{tpos:Pos}
def Wo(K:Ζ) (n:TA):TI:=λσ H R=>n σ H λvs l=>∃a,vs=[.ref a]/\(∃xs,rN K l a xs)/\R (YE K a) l
def N3{e:Expr}{y:TA}{p pos:Pos}(C:Gl X "enumerate") (E:X.mg "enumerate" = none) (ha:PA X [e] y) (G:jH [e] X.env=[(false,eval e X.env)]:=by rfl) :
  PI X (.Tuple elts kk tpos) (.Call (.Name "enumerate" p) [e] [] pos) (Wo X.K y):=by
 intro J s σ H R I h;refine Call_ (vt I C E boot_enumerate (bb (sV (ha pos J s σ H _ I h) λus l t=>?_) G rfl))
 obtain⟨vs,L,r,M,O⟩:=t;obtain⟨a,P,⟨xs,Q⟩,q⟩:=O;subst P;obtain⟨u,rfl,S⟩:=xo M;cases S;obtain⟨U,rv,Y,hz⟩:=r.list Q;refine call_enumerate_list Y.isList λg z x hsz hk=>wpAny_pyIter_enum z ?_
 refine⟨l.heap.objs.size+1,[l.heap.objs.size+1,l.heap.objs.size],_,_,L,rfl,r.kept (t':=l.toks) hk,PL a _ _ (iG _),⟨⟨_,z⟩,x⟩,λb B=>?_,q⟩
 have n:l.heap.objs.size<=b:=by
  simp only[ah,bB,or_false]at B;rcases B with rfl|rfl
  .exact bz _
  .exact ab _
 exact r.fpOk n (r.hok.fresh n)
def Za(K:Ζ) (n:TA):TI:=λσ H R=>n σ H λvs l=>∃a b,vs=[.ref a,.ref b]/\(∃xs,rN K l a xs)/\(∃ys,rN K l b ys)/\R (Ze K a b) l
def Xa{e f:Expr}{C:TA}{p pos:Pos}(M:Gl X "zip") (O:X.mg "zip" = none) (ha:PA X [e,f] C) (P:jH [e,f] X.env=[(false,eval e X.env),(false,eval f X.env)]:=by rfl) (n:jH [f] X.env=[(false,eval f X.env)]:=by rfl) :
  PI X (.Tuple elts kk tpos) (.Call (.Name "zip" p) [e,f] [] pos) (Za X.K C):=by
 intro Q s σ H R I h;refine Call_ (vt I M O boot_zip (bb (sV (ha pos Q s σ H _ I h) λus l ⟨vs,S,r,U,Y⟩=>?_) (by rw[P,n]) (by rw[n];rfl)))
 obtain⟨a,b,e1,⟨xs,x⟩,⟨ys,y⟩,q⟩:=Y;subst e1;obtain⟨u,v,rfl,ru,rv⟩:=Ni U;cases ru;cases rv;obtain⟨E,_,p1,_⟩:=r.list x;obtain⟨G,_,p2,_⟩:=r.list y;refine call_zip_2 p1.isList p2.isList λg J z B h1 h2 hsz hk=>lK J ?_
 refine⟨l.heap.objs.size+4,[l.heap.objs.size+4,l.heap.objs.size+2,l.heap.objs.size+3,l.heap.objs.size,l.heap.objs.size+1],_,_,S,rfl,r.kept (t':=l.toks) hk,
  Sy a b _ _ _ _ _ (VS l.heap.objs.size),⟨J,z,⟨_,_,B⟩,h1,h2⟩,λc L=>?_,q⟩
 have t:l.heap.objs.size<=c:=by
  simp only[ah,bB,or_false]at L;rcases L with rfl|rfl|rfl|rfl|rfl
  .exact cO _ _
  .exact cO _ _
  .exact cO _ _
  .exact ab _
  .exact cO _ _
 exact r.fpOk t (r.hok.fresh t)
end
def RG{K:Ζ}{a:Addr}{xs:List V}{u z:Nat}{tb:TS}{D:A5}{σ:St}{H:Hp}(l:Nat->St->Hp->Prop) (C:l 0 σ H) (hl:∀i σ H,i<=xs.length->l i σ H->rN K H a xs)
  (E:∀i x σ H T,xs[i]?=some x->l i σ H->H T=none->tb { D with nx:=l (i+1),ct:=l (i+1),bk:=D.nx } ((σ.set u (some (.int i))).set z (some x)) (qP H T (.tup [.int i,x]))) (hd:∀σ H,l xs.length σ H->D.nx σ H) :
  ∃W:Nat->Nat->St->Hp->Prop,(∃m,W 0 m σ H)/\∀i m σ H,W i m σ H ->
   ((YE K a).stop i H/\D.nx σ H)∨((YE K a).go i H/\∃N:St->Hp->Prop,(∀n r,N n r->∃B,B<m/\W (i+1) B n r)/\∀x r,(YE K a).yld i H x r->Lg K 2 (yA (sq u) (yA (sq z) Md)) x σ r λt G=>tb { D with nx:=N,ct:=N,bk:=D.nx } t G):=by
 refine⟨λi m σ H=>m=xs.length-i/\i<=xs.length/\l i σ H,⟨xs.length,by simp,aE _,C⟩,?_⟩
 rintro i m σ H ⟨rfl,I,p⟩;have q:=hl i σ H I p
 by_cases s:i<xs.length
 .refine .inr ⟨⟨xs,xs[i],q,by simp[s]⟩,l (i+1),λn r J=>⟨xs.length-(i+1),by lia,rfl,s,J⟩,λv r y=>?_⟩
  obtain⟨T,x,L,rfl,rfl,M⟩:=y;exact⟨T,_,rfl,BN.of oX,rfl,_,_,rfl,_,_,rfl,rfl,E i x σ H T (M xs q) p L⟩
 .have e:i=xs.length:=by lia
  subst e;exact .inl ⟨⟨xs,q,ab _⟩,hd σ H p⟩
def U4{K:Ζ}{a b:Addr}{xs ys:List V}{C E:Nat}{tb:TS}{D:A5}{σ:St}{H:Hp}(l:Nat->St->Hp->Prop) (I:l 0 σ H) (t:xs.length=ys.length)
  (hl:∀i σ H,i<=xs.length->l i σ H->rN K H a xs/\rN K H b ys)
  (J:∀i x y σ H T,xs[i]?=some x->ys[i]?=some y->l i σ H->H T=none->tb { D with nx:=l (i+1),ct:=l (i+1),bk:=D.nx } ((σ.set C (some x)).set E (some y)) (qP H T (.tup [x,y]))) (hd:∀σ H,l xs.length σ H->D.nx σ H) :
  ∃W:Nat->Nat->St->Hp->Prop,(∃m,W 0 m σ H)/\∀i m σ H,W i m σ H ->
   ((Ze K a b).stop i H/\D.nx σ H)∨((Ze K a b).go i H/\∃N:St->Hp->Prop,(∀n r,N n r->∃G,G<m/\W (i+1) G n r)/\∀x r,(Ze K a b).yld i H x r->Lg K 2 (yA (sq C) (yA (sq E) Md)) x σ r λu L=>tb { D with nx:=N,ct:=N,bk:=D.nx } u L):=by
 refine⟨λi m σ H=>m=xs.length-i/\i<=xs.length/\l i σ H,⟨xs.length,by simp,aE _,I⟩,?_⟩
 rintro i m σ H ⟨rfl,M,p⟩;obtain⟨z,B⟩:=hl i σ H M p
 by_cases s:i<xs.length
 .refine .inr ⟨⟨xs,ys,xs[i],ys[i],z,B,by simp[s],by simp[t ▸ s]⟩,l (i+1),λn r O=>⟨xs.length-(i+1),by lia,rfl,s,O⟩,λv r y=>?_⟩
  obtain⟨T,x,y,P,rfl,rfl,Q,R⟩:=y;exact⟨T,_,rfl,BN.of oX,rfl,_,_,rfl,_,_,rfl,rfl,J i x y σ H T (Q xs z) (R ys B) p P⟩
 .have e:i=xs.length:=by lia
  subst e;exact .inl ⟨⟨xs,ys,z,B,.inl (ab _)⟩,hd σ H p⟩
section
variable {X:Cx}
def JT{n:Φ}{σ:St}{H:Hp}{s:Shared}{a:Addr}{ns:Ϝ}(I:Inv X n σ H s) (h:rN X.K H a (ns.map V.int)) :
  ∃vs:Ξ,s.heap.IsList a vs.toArray/\jR vs ns/\ns.length<=jD:=by
 obtain⟨l,r,p,z⟩:=I.list h;rw[lMq]at z;exact⟨l,p.isList,xi r,z⟩
def PU(E:X.calm=true):yw X (.builtin "min") (λxs H Q=>∃(a:Addr) (ns:Ϝ),xs=[.ref a]/\rN X.K H a (ns.map V.int)/\0<ns.length/\∀M,M∈ns->(∀x,x∈ns->M<=x)->Q (.int M) H):=by
 intro O s σ H xs P Q I r h;obtain⟨a,ns,rfl,hS,n,q⟩:=h;obtain⟨u,rfl,G⟩:=xo r;cases G;obtain⟨R,hl,z,_⟩:=JT I hS;obtain⟨xs,e⟩:=z.allInts.items;have l:ns=xs.toList.map (·.1):=by
  rw[←z.numsOf,←nums_intItems,←e]
 have y:0<xs.size:=by
  have B:=n;rw[l,lMq,cH]at B;exact B
 rw[e]at hl;refine min_intList (I.ok.hd E) hl y λv S U J hk=>?_
 obtain⟨t,rfl⟩:=intItems_at J;obtain⟨h1,h2⟩:=argBest_lt (numAt xs) (xs.size-1);refine⟨.int _,H,I.kept hk,⟨t,rfl⟩,q _ ?_ λx C=>?_⟩
 .rw [l,numAt_eq];exact PySem.getD_mem (by rw[lMq,cH];lia)
 .rw [l]at C;obtain⟨j,L,rfl⟩:=PySem.mem_getD C;rw[lMq,cH]at L;rw[←numAt_eq];exact h2 j (by lia)
def RP(K:Ζ):V->List V->Hp->VK->Prop:=λx vs H Q=>∃(a:Addr) (ns:Ϝ) (k:Int),x = .ref a/\vs=[.int k]/\rN K H a (ns.map V.int)/\k∈ns/\Q (.int (ns.idxOf k:Nat)) H
def Ki:MtR X "list.index" (RP X.K):=by
 intro og s σ H x xs v us Q I R r h;obtain⟨a,C,k,rfl,rfl,hS,hk,q⟩:=h;cases R;obtain⟨u,rfl,t,rfl⟩:=xo r;obtain⟨l,S,⟨o,n,M,O,z,hd⟩,U⟩:=I.list hS;have E:=xi S;obtain⟨cls,dd,P,Y⟩:=o;simp only at O z hd;subst O z hd;have B:=E.length;have G:C.idxOf k<C.length:=dN.mpr hk;have hs:jD=16777216:=jN;rw[lMq]at U;refine kP fc ⟨_,M,rfl⟩ PySem.F.entry_list_index (PySem.F.args_list_index_2 _ _)
  (SeqAt.list_indexAt a l.toArray n none Y (.int k t) (isInt k) (C.idxOf k) (by simpa [B] using G) (by lia) ?_ ?_) ⟨M,λy hy=>(eq_isInt k t E y (by simpa using hy)).at _ _,?_⟩
 .show isInt k l[C.idxOf k]=true;rw[isInt_at k E _ (by lia) G]
  simpa using gc G
 .intro j J L;show isInt k l[j]=false;rw[isInt_at k E j (by simpa using J) (by lia)]
  exact ne_of_lt_idxOf L _
 .exact ⟨.int _,H,I.tok _,⟨_,rfl⟩,q⟩
def Zi(K:Ζ) (x:V) (H:Hp) (T:String) (b:Bool):Prop :=
 match x with
 | .int _=>(T = "int" /\ b=true)∨(T = "bool" /\ b=false)
 | .bl _=>(T = "bool" /\ b=true)∨(T = "int" /\ b=true)
 | .str _=>T = "str" /\ b=true
 | .ref p=>(T = "list" /\ b=true/\∃xs,rN K H p xs)∨(T = "dict" /\ b=true/\∃kvs,H p=some (.dK kvs))∨(T = "tuple" /\ b=true/\∃xs,BN K H p xs)
 |_=>False
def zU:yw X (.builtin "isinstance") (λxs H Q=>∃x T b,xs=[x,.ty T]/\Zi X.K x H T b/\Q (.bl b) H):=by
 intro z s σ H xs O Q I r h;obtain⟨x,T,b,rfl,e,q⟩:=h;obtain⟨u,v,rfl,l,B⟩:=Ni r;cases B;cases x with
 |int i =>
  obtain⟨t,rfl⟩:=l;rcases e with ⟨rfl,rfl⟩|⟨rfl,rfl⟩
  .exact kh (kE (Tx := "int") F.isi_meta_int F.sub_int_int) ⟨(show s.TypeIs (.int i t) "int" from rfl),⟨.bl true,H,I,rfl,q⟩⟩
  .exact kh (isinstance_false_int (by decide +kernel) F.isi_meta_bool F.sub_int_bool) (show EP X z σ Q (.bool false) { s with toks:=s.toks+1 } from ⟨.bl false,H,I.tok _,rfl,q⟩)
 |bl i =>
  cases l;rcases e with ⟨rfl,rfl⟩|⟨rfl,rfl⟩
  .exact kh (kE (Tx := "bool") F.isi_meta_bool F.sub_bool_bool) ⟨(show s.TypeIs (.bool i) "bool" from rfl),⟨.bl true,H,I,rfl,q⟩⟩
  .exact kh (kE (Tx := "bool") F.isi_meta_int F.sub_bool_int) ⟨(show s.TypeIs (.bool i) "bool" from rfl),⟨.bl true,H,I,rfl,q⟩⟩
 |str i =>
  obtain⟨t,rfl⟩:=l;obtain⟨rfl,rfl⟩:=e;exact kh (kE (Tx := "str") F.isi_meta_str F.sub_str_str) ⟨(show s.TypeIs (.str i t) "str" from rfl),⟨.bl true,H,I,rfl,q⟩⟩
 |ref p =>
  cases l;rcases e with ⟨rfl,rfl,xs,hS⟩|⟨rfl,rfl,n,C⟩|⟨rfl,rfl,xs,hS⟩
  .obtain ⟨y,E,G,J⟩:=I.list hS;exact kh (kE (Tx := "list") F.isi_meta_list (by rw[mZ];kernel_rfl)) ⟨G.isList.typeIs,⟨.bl true,H,I,rfl,q⟩⟩
  .have ty:s.TypeIs (.ref p) "dict" := (Yi I (.inl ⟨n,.inl C⟩)).1;exact kh (kE (Tx := "dict") F.isi_meta_dict (by rw[mZ];kernel_rfl)) ⟨ty,⟨.bl true,H,I,rfl,q⟩⟩
  .obtain ⟨y,E,⟨o,L,M,_⟩,J⟩:=I.tuple hS;exact kh (kE (Tx := "tuple") F.isi_meta_tuple (by rw[mZ];kernel_rfl)) ⟨⟨o,L,M⟩,⟨.bl true,H,I,rfl,q⟩⟩
 |_=>exact(show False from e).elim
end
end Mr
namespace Mr
open PySem L2
structure ye (K:Ζ) (mg:Str->Υ) (x:Str) (st:Stmt) (ps:List Str) (f:Addr) (fd:jQ):Prop where
 F:VJ K x x st f fd
 m:mg x=some (.ref f)
 b:vY K fd ps []
def vf{H:Hp}{p:Addr}{o:HO}(h:H p=none):pO H (qP H p o):=λb u e=>by
 rw[oP (qG e h)];exact e
variable {K:Ζ}{h:Heap}{mg:Str->Υ}{x z:Str}{st:Stmt}{f O:Addr}{fd:jQ}
structure At (K:Ζ) (x:Str) (st:Stmt) (f:Addr) (fd:jQ):Prop where
 a:W.nsIn K jG x=some (some (.ref f))
 F:VJ K x x st f fd
section
variable {oc kV doc pm zF ct:Value}{od an:Option Addr}{osl:Array Υ}
def Wa(a:W.nsIn K jG x=some (some (.ref f))) (l:K.lookup f=some ⟨oc,od,.func (W.fnOf x x (wG st) (uF st) (oH st) .none kV doc pm an zF ct),osl⟩)
  (c:W.codeIn K zF x=true) (k:W.keepIn K (.ref f)=true):At K x st f (W.fnOf x x (wG st) (uF st) (oH st) .none kV doc pm an zF ct):=⟨a,MH l c k⟩
end
abbrev BA(x q:Str) (st:Stmt) (ps:List Str) (us:Ξ):Prop:=∀(kV l pm:Value) (n:Option Addr) (r ct:Value),nJ (W.fnOf x q (wG st) (uF st) (oH st) .none kV l pm n r ct) ⟨us,[]⟩=pure (ps.zip us)
section
variable {q a b c d:Str}(F:VJ K x q st f fd)
include F
def b1(h:∀u,BA x q st [a] [u]):vY K fd [a] []:=F.binds λ_ _ _ _ _ _ n hl=>by
 obtain - | ⟨u, - | ⟨v,l⟩⟩:=n <;> cases hl
 apply h
def b2(h:∀u v,BA x q st [a,b] [u,v]):vY K fd [a,b] []:=F.binds λ_ _ _ _ _ _ n hl=>by
 obtain - | ⟨u, - | ⟨v, - | ⟨w,l⟩⟩⟩:=n <;> cases hl
 apply h
def b3(h:∀u v w,BA x q st [a,b,c] [u,v,w]):vY K fd [a,b,c] []:=F.binds λ_ _ _ _ _ _ n hl=>by
 obtain - | ⟨u, - | ⟨v, - | ⟨w, - | ⟨y,l⟩⟩⟩⟩:=n <;> cases hl
 apply h
def b4(h:∀u v w y,BA x q st [a,b,c,d] [u,v,w,y]):vY K fd [a,b,c,d] []:=F.binds λ_ _ _ _ _ _ n hl=>by
 obtain - | ⟨u, - | ⟨v, - | ⟨w, - | ⟨y, - | ⟨z,l⟩⟩⟩⟩⟩:=n <;> cases hl
 apply h
end
def zB{ps:List Str}(X:K.In h) (G:h.Ns jG mg) (a:At K x st f fd) (b:vY K fd ps []):ye K mg x st ps f fd:=⟨a.F,W.mg_of X G a.a,b⟩
end Mr
namespace Mr
open PySem PySem.Spec PyProof.Rows L2
def JB{prog:jC}{w:jF}{A:Around}{R:mI->Shared->Prop}{s:Shared}{J l iter:Expr}{L:List Expr}{scope:km}{pos:Pos}{U M:Value}{env:Env}(I:Nat->Shared->Prop)
  (turn:∀n s,I n s->jy (jA prog w) A (ke U) (λr t=>match r with
   |none=>R (.ok .next) t
   |some v=>jy (jA prog w) A (lV l U v) (λ_ y=>jy (jA prog w) A (nr l env v) (λ_ B =>
     jy (jA prog w) A (forIn L true λc r=>if r=true then do let ok ←isTrue c env (eval c env);pure (ForInStep.yield ok) else pure (ForInStep.yield r)) (λok u =>
      if ok=true then jy (jA prog w) A (eval J env) (λx C =>
       jy (jA prog w) A (call (.builtin "list.append") [M,x]) (λ_ E=>∃m,m<n/\I m E) (λ_ _=>False) C) (λ_ _=>False) u
      else ∃m,m<n/\I m u) (λ_ _=>False) B) (λ_ _=>False) y) (λ_ _=>False) t) (λ_ _=>False) s)
  (n:Nat) (h:I n s):kF (jA prog w) A (.compLoop (.ListComp J [⟨l,iter,L,0⟩] scope pos) 0 U M env) R s:=by
 refine codeAny_loop rfl I (λn s hI=>?_) n h
 show jy _ A ((compTurn (.ListComp J [⟨l,iter,L,0⟩] scope pos) 0 U M env).onRaise (λx=>do noteFrame x env;theTreesLotGoes x)) _ _ s
 refine wpAny_noted ?_;rw[compTurn_list];refine jx (wpAny_standAt (jx (jO (turn n s hI) (λr t G=>?_) λ_ _ z=>z.elim)))
 cases r with
 |none=>exact jz G
 |some v =>
  refine jx (jO G (λ_ y O=>?_) λ_ _ z=>z.elim)
  refine jx (jO O (λ_ B P=>?_) λ_ _ z=>z.elim)
  refine jx (jO P (λok u H=>?_) λ_ _ z=>z.elim)
  cases ok with
  |false=>exact jz ⟨rfl,H⟩
  |true=>exact jx (jx (jO H (λx C Q=>jx (jO Q (λ_ E S=>jz (jz ⟨rfl,S⟩)) λ_ _ z=>z.elim)) λ_ _ z=>z.elim))
abbrev uv(X:Cx) (scope:km) (cl:List (Str×Addr)) (N:List Str) (C:Addr) (s:Shared) (H:Hp) (fp:Δ):Cx where
 prog:=X.prog
 w:=X.w
 K:=X.K
 mg:=X.mg
 base:=X.base
 A:=X.A
 N:=N
 s₀:=s
 H₀:=H
 env:=compEnvC scope cl C X.env
 outer:=X.stack
 stack:=X.stack
 ex:=fp
 fn:=λ_=>false
 calm:=X.calm
 pn:=[]
 xe:=λ_ _=>False
def PF(X:Cx) (l:List Expr) (t:TT):Prop :=
 ∀(n:Φ) (s:Shared) (σ:St) (H:Hp) (Q:Bool->Hp->Prop),Inv X n σ H s->t σ H Q ->
  jy (jA X.prog X.w) X.A (forIn l true λc r=>if r=true then do let ok ←isTrue c X.env (eval c X.env);pure (ForInStep.yield ok) else pure (ForInStep.yield r)) (TP X n σ Q) X.xe s
def ZY:TT:=λ_ H Q=>Q true H
def tY{X:Cx}:PF X [] ZY:=λ_ _ _ H _ I h=>wpAny_tests_nil ⟨H,I,h⟩
structure tJ (X:Cx) (scope:km) (cl:List (Str×Addr)) (x:Str) (N:List Str) (fr:Θ):Prop where
 names:N.Nodup
 own:N[0]?=some x
 len:N.length=fr.length+1
 sub:∀y c,cl.lookup y=some c->X.env.cells.lookup y=some c
 has:∀y,((mh scope X.env).names.lookup y=some .cell∨(mh scope X.env).names.lookup y=some .free)->∃c,cl.lookup y=some c
 get:∀(k j:Nat) (y:Str),fr[k]?=some j->N[k+1]?=some y->X.N[j]?=some y/\X.env.scope.names.lookup y=some .cell/\(mh scope X.env).names.lookup y=some .cell
def tJ.none{X:Cx}{scope:km}{x:Str}(h:∀p∈scope.names,p.2 ≠ .cell/\p.2 ≠ .free):tJ X scope [] x [x] [] where
 names:=by simp
 own:=rfl
 len:=rfl
 sub:=λy c e=>by cases e
 has:=λy e=>by
  exfalso;have key:∀p∈(mh scope X.env).names,p.2 ≠ .cell/\p.2 ≠ .free:=by
   intro p l;obtain⟨q,r,rfl⟩:=mMq.mp l;obtain⟨n,k⟩:=q;obtain⟨h1,h2⟩:=h _ r;have hk:(k == NameKind.free)=false:=by simpa using h2
   simp only[hk,jb];exact⟨h1,h2⟩
  rcases e with e|e
  .exact (key _ (PySem.mem_of_lookup e)).1 rfl
  .exact (key _ (PySem.mem_of_lookup e)).2 rfl
 get:=λk j y e _=>by cases e
def slots(σ:St) (fr:Θ):St:=fr.map λj=>(σ[j]?).join
def NK(z:TI) (fr:Θ) (B:TT) (te:TE):TE:=λσ H Q=>z σ H λJ r=>∀l,r l=none->∃W:Nat->Nat->Hp->Prop,(∃m,W 0 m (qP r l (.lst [])))/\∀i m H,W i m H ->
 (J.stop i H/\Q (.ref l) H) ∨
 (J.go i H/\∃N:Hp->Prop,(∀n,N n->∃s,s<m/\W (i+1) s n)/\∀x n,J.yld i H x n->B (some x::slots σ fr) n λb t =>
  if b=true then te (some x::slots σ fr) t λy u=>∃ys,u l=some (.lst ys)/\ys.length<jD/\N (qP u l (.lst (ys++[y]))) else N t)
section
variable {X:Cx}{scope:km}{cl:List (Str×Addr)}{N:List Str}{fr:Θ}{x:Str}{px pos:Pos}{elt iter:Expr}{ifs:List Expr}{tf:TT}{te:TE}
def EH{og:Φ}{σ:St}{H:Hp}{s:Shared}{E:Ψ}{J:It}{fp:Δ}{it:Addr}{tn:Nat->Heap->Prop}{RR:Value->Addr->mI->Shared->Prop}{Q:VK}
  (hc:X.calm=true) (hcell:∀y∈scope.names,y.2 ≠ .cell) (hkind:scope.kind = .function) (hx:scope.names.lookup x=some .local) (Y:tJ X scope cl x N fr)
  (hf:∀C s H fp,PF (uv X scope cl N C s H fp) ifs tf) (he:∀C s H fp,PE (uv X scope cl N C s H fp) elt te)
  (I:Inv X og σ H s) (T:My X.prog X.w X.K (.Name x px) J fp it tn) (st:tn 0 s.heap) (P:∀b∈fp,vk X og H b)
  (h:∀M,H M=none->∃W:Nat->Nat->Hp->Prop,(∃m,W 0 m (qP H M (.lst [])))/\∀i m H,W i m H ->
   (J.stop i H/\Q (.ref M) H) ∨
   (J.go i H/\∃N:Hp->Prop,(∀S,N S->∃m',m'<m/\W (i+1) m' S)/\∀x S,J.yld i H x S->tf (some x::slots σ fr) S λb H2 =>
    if b=true then te (some x::slots σ fr) H2 λy H3=>∃ys,H3 M=some (.lst ys)/\ys.length<jD/\N (qP H3 M (.lst (ys++[y]))) else N H2))
  (fin:∀M C s' Hf m,Inv X og σ Hf s'->s'.heap.Ns C m->vk X og Hf C->Q (.ref M) Hf->RR (.ref M) C (.ok .next) s') :
  jy (jA X.prog X.w) X.A (newList []) (λM U=>jy (jA X.prog X.w) X.A (newFunctionEnv scope X.env.globals cl [] X.env.qual none .none (some X.env)) (λcenv s₄ =>
   kF (jA X.prog X.w) X.A (.compStart (.ListComp elt [⟨.Name x px,iter,ifs,0⟩] scope pos) 0 (.ref it) M { cenv with scope:=mh scope X.env }) (RR M cenv.locals) s₄) E U) E s:=by
 refine wpAny_newObj_type (nu hcell (by intro y hy;simp at hy) (λO R L=>?_) hkind)
 dsimp only at R L ⊢;generalize hG:s.heap.push { cls:=.type "list", dict:=none,data:=.seq ([]:Ξ).toArray }=G at R L ⊢;have hC:G.objs.size=s.heap.objs.size+1:=by rw[←hG,fZ]
 have hCle:s.heap.objs.size<=G.objs.size:=by rw[hC];exact bz _
 have hDC:s.heap.objs.size≠G.objs.size:=by rw[hC];exact ao (eG _)
 have below:∀b,b<s.heap.objs.size->b≠G.objs.size:=λb t=>by rw[hC];exact ao (bQ t)
 have old:∀b o,s.heap.get? b=some o->O.get? b=some o:=λb o e=>L.extBut b o (below b (ag e)) (ae _ (hG ▸ ae _ e))
 have hacc:O.get? s.heap.objs.size=some { cls:=.type "list", data:=.seq ([]:Ξ).toArray }:=L.extBut _ _ hDC (ae _ (hG ▸ aC _ rfl));have hn:H s.heap.objs.size=none:=I.hok.fresh (ab _);have hnC:H G.objs.size=none:=I.hok.fresh hCle;have fpl:∀b∈fp,b<s.heap.objs.size:=λb t=>by
  obtain⟨o,q,_⟩:=T.obj 0 _ st b t;exact ag q
 obtain⟨W,⟨m0,w0⟩,turn⟩:=h _ hn;have ok':(uv X scope cl N G.objs.size s H fp).Ok:=by
  refine⟨I.ok.mod,by show (mh scope X.env).kind = .function;exact hkind,I.ok.glob,I.ok.blt,hCle,λy z c h1 h2=>I.ok.inj y z c (Y.sub y c h1) (Y.sub z c h2),Y.has,λ_ _ z _=>(by cases z),I.ok.hd,I.ok.frames,.inl rfl,
   λb t=>⟨below b (fpl b t),λy c e=>(P b t).2.2.2.2.1 y c (Y.sub y c e)⟩,λb o e=>⟨(I.bs b o e).1,(I.bs b o e).2⟩,bq I.ok.bsz I.sz,λb o e t=>?_,λb t z=>?_,I.stack,I.stkFree,I.tb⟩
  .rcases (P b t).2.2.2.1 with q|q
   .exact I.ok.noex b o e q
   .exact absurd (aK (ag (I.ok.bs b o e).1) q) (cL _)
  .rcases ah.mp (I.stkSub b z) with q|q
   .exact (P b t).2.1 q
   .exact (P b t).2.2.1 q
 have I0:Inv (uv X scope cl N G.objs.size s H fp) [] (none::slots σ fr) (qP H s.heap.objs.size (.lst [])) { s with heap:=O,toks:=s.toks+([]:List (Str×Value)).length }:=by
  have hok1:BM X.prog X.w (qP H s.heap.objs.size (.lst [])) O:=I.hok.laid old (ab _) ⟨aE _,[],0,.nil,hacc⟩;refine⟨ok',rfl,I.bare,Un.laid old (ab _) hn,⟨_,R,λk y v e1 e2 e3=>?_⟩,λy c e=>?_,?_,λy c e=>?_,λp hp=>absurd (show p∈([]:Φ) from hp) (by simp),hok1,?_⟩
  .cases k with
   |zero=>cases e2
   |succ k =>
    have e2':(slots σ fr)[k]?=some (some v):=e2;unfold slots at e2';rw[gMq]at e2';cases ej:fr[k]? with
    |none=>rw[ej]at e2';cases e2'
    |some j =>
     rw[ej]at e2';have e2j:(σ[j]?).join=some v:=aN.inj e2';have e2s:σ[j]?=some (some v):=by
      cases q:σ[j]? with
      |none=>rw[q]at e2j;cases e2j
      |some z=>rw[q]at e2j;exact congrArg some e2j
     obtain⟨g1,g2,g3⟩:=Y.get k j y ej e1;obtain⟨m,_,hl⟩:=I.loc;obtain⟨u,r,l⟩:=hl j y v g1 e2s (.inr (.inl g2));refine⟨u,r,.inr ⟨.inl g3,?_⟩⟩;obtain⟨c,e⟩:=Y.has y (.inl g3);have e':=Y.sub y c e;rcases l with ⟨l1,_⟩|⟨_,c',ec,hcell'⟩
     .have l1':X.env.scope.names.lookup y=some .local:=l1;rw[g2]at l1';cases l1'
     .rw [e']at ec;cases ec;obtain⟨o,ho,hd⟩:=hcell';exact⟨c,e,o,old c o ho,hd⟩
  .obtain ⟨v,o,ho,hd⟩:=I.cell y c (Y.sub y c e);exact⟨v,o,old c o ho,hd⟩
  .show qP H s.heap.objs.size (.lst []) G.objs.size=none;rw[oP (Ne.symm hDC)];exact hnC
  .obtain ⟨v,o,ho,hd⟩:=I.cell y c (Y.sub y c e);rw[oP (ao (ag ho))];exact I.freeC y c (Y.sub y c e)
  .show (none::slots σ fr).length=N.length;rw[Y.len,lCq];unfold slots;rw[lMq]
 have Ug:tn 0 O:=T.keep 0 _ _ st λb _ o e=>old b o e
 have nd:N.Nodup:=Y.names;have nf0:∀b∈fp,qP H s.heap.objs.size (.lst []) b=none:=λb t=>by
  rw[oP (ao (fpl b t))];exact(P b t).1
 have stat:∀{S:Hp},(∀b∈fp,S b=none)->∀b∈fp,vk (uv X scope cl N G.objs.size s H fp) [] S b:=λhn' b t =>
  ⟨hn' b t,below b (fpl b t),ok'.exfs b t,.inl t,λy c e=>(ok'.exf b t).2 y c e,λp hp=>absurd (show p∈([]:Φ) from hp) (by simp)⟩
 have loop:∀U:Shared,U={ s with heap:=O,toks:=s.toks+([]:List (Str×Value)).length } ->
   kF (jA X.prog X.w) X.A (.compLoop (.ListComp elt [⟨.Name x px,iter,ifs,0⟩] scope pos) 0 (.ref it) (.ref s.heap.objs.size) (compEnvC scope cl G.objs.size X.env)) (RR (.ref s.heap.objs.size) G.objs.size) U:=by
  rintro U rfl;refine JB (λn s'=>∃i v0 S,Inv (uv X scope cl N G.objs.size s H fp) [] (v0::slots σ fr) S s'/\tn i s'.heap/\(∀b∈fp,S b=none)/\W i n S) ?_ m0 ⟨0,none,_,I0,Ug,nf0,w0⟩
  rintro n s4 ⟨i,v0,H4,I4,st4,nf4,w4⟩;rcases turn i n H4 w4 with ⟨stop,q⟩|⟨go,Nx,hNx,step⟩
  .refine sV (T.done (uv X scope cl N G.objs.size s H fp) rfl rfl rfl hc i [] s4 (v0::slots σ fr) H4 (λ_ _=>False) I4 (stat nf4) st4 stop) λr s5 B=>?_
   obtain⟨hr,I5⟩:=B;subst hr;obtain⟨m,hm,_⟩:=I5.loc;have I6:Inv X og σ H4 s5:=I.call' (ch:=fp) I5.os I5.base I5.hok I5.bare λb t=>⟨(P b t).2.2.2.1,(P b t).2.1,(P b t).2.2.2.2.1,(P b t).2.2.2.2.2⟩
   exact fin _ _ s5 H4 m I6 hm (I.fpOk hCle I5.free) q
  .refine sV (T.item (uv X scope cl N G.objs.size s H fp) rfl rfl rfl hc i [] s4 (v0::slots σ fr) H4 (λ_ _=>False) I4 (stat nf4) st4 go) λr s5 B=>?_
   obtain⟨u,hr,h5⟩:=B;subst hr;refine sV h5 λ_ s6 B=>?_
   obtain⟨y,H6,I6,r6,y6,st6,nf6⟩:=B;have I6':=I6.pinned (stat nf6) (T.obj _ _ st6);have pg:PG (uv X scope cl N G.objs.size s H fp) (.Name x px) (sq 0):=HN nd Y.own (.inl (nD hx)) (.inr (nD hx));refine sV (pg _ s6 (v0::slots σ fr) H6 y u (λσ2 H2=>σ2=some y::slots σ fr/\H2=H6) I6' r6 ⟨rfl,rfl⟩) λ_ s7 B=>?_
   obtain⟨σ7,H7,I7,e7,e8⟩:=B;subst e7 e8;refine sV (hf _ _ _ _ _ s7 _ _ _ I7 (step y _ y6)) λb s8 B=>?_
   obtain⟨H8,I8,q8⟩:=B;have again:∀{s9:Shared}{H9:Hp},Inv (uv X scope cl N G.objs.size s H fp) ([]++EW fp s6.heap) (some y::slots σ fr) H9 s9->Nx H9->∃m,m<n/\∃i v0 S,Inv (uv X scope cl N G.objs.size s H fp) [] (v0::slots σ fr) S s9/\tn i s9.heap/\(∀b∈fp,S b=none)/\W i m S:=λ{s9 H9} I9 n9=>by
    obtain⟨m',hm,w9⟩:=hNx H9 n9;refine⟨m',hm,i+1,some y,H9,I9.unpinned,T.keep _ _ _ st6 λb t o e=>(I9.pin (b,o) (ay _ (ay _ (zp t e)))).1,λb t=>?_,w9⟩
    obtain⟨o,e,d⟩:=T.obj _ _ st6 b t;exact(I9.pin (b,o) (ay _ (ay _ (zp t e)))).2.1
   cases b with
   |false=>exact again I8 q8
   |true =>
    refine sV (he _ _ _ _ _ s8 _ _ _ I8 q8) λz s9 B=>?_
    obtain⟨zv,H9,I9,r9,ys,a9,l9,n9⟩:=B;refine sV (qI (X:=uv X scope cl N G.objs.size s H fp) _ s9 _ H9 (.ref s.heap.objs.size) [zv] (.ref s.heap.objs.size) [z] (λ_ S=>S=qP H9 s.heap.objs.size (.lst (ys++[zv]))) I9 rfl (.cons r9 .nil) ⟨_,ys,zv,rfl,rfl,a9,l9,rfl⟩) λ_ s10 B=>?_
    obtain⟨_,H10,I10,_,e10⟩:=B;subst e10;exact again I10 n9
 exact codeAny_compStart_list (loop _ rfl) (T.self X.A 0 _ _ _ Ug (loop _ rfl))
def sF{B:TI}(G:X.calm=true) (r:nH scope X.env=pure cl) (t:∀y∈scope.names,y.2 ≠ .cell) (l:scope.kind = .function) (n:∀y∈scope.names,y.2 = .local->scope.names.lookup y.1=some .local)
  (L:scope.names.lookup x=some .local) (M:tJ X scope cl x N fr) (O:PI X (.Name x px) iter B) (hf:∀C s H fp,PF (uv X scope cl N C s H fp) ifs tf) (P:∀C s H fp,PE (uv X scope cl N C s H fp) elt te)
  (R:∀x,mv iter X.env x=pure x:=by intro _;rfl):PE X (.ListComp elt [⟨.Name x px,iter,ifs,0⟩] scope pos) (NK B fr tf te):=by
 intro E s σ H Q I h;rw[eval_ListComp];refine mE (use:=none) rfl R r l n (sV (O E s σ H _ I h) λv s1 h1=>sV h1 λS s2 h2=>?_)
 obtain⟨it,fp,tn,J,H2,e,U,T,IR,f2,Y⟩:=h2;subst e;refine EH (RR:=λu C=>compPost (jA X.prog X.w) X.A X.xe none (EP X E σ Q) u C) G t l L M hf P U T IR f2 Y ?_
 intro u C s' Hf m I' hm z q;refine⟨m,hm,λh' sb=>⟨.ref u,Hf,?_,rfl,q⟩⟩
 exact I'.turned (t':=s'.toks) (λb o hb e=>(sb.2 b hb).trans e) z.1 z.2.1 z.2.2.2.1 z.2.2.2.2.1 z.2.2.2.2.2
def Ub{wi:TI}{y:Str}{i:Nat}{py B:Pos}(hc:X.calm=true) (hN:X.N.Nodup) (R:X.N[i]?=some y) (hy:VQ X.env.scope y) (E:nH scope X.env=pure cl) (G:∀y∈scope.names,y.2 ≠ .cell) (l:scope.kind = .function)
  (n:∀y∈scope.names,y.2 = .local->scope.names.lookup y.1=some .local)
  (hx:scope.names.lookup x=some .local) (hF:tJ X scope cl x N fr) (hi:PI X (.Name x px) iter wi) (hf:∀C s H fp,PF (uv X scope cl N C s H fp) ifs tf) (he:∀C s H fp,PE (uv X scope cl N C s H fp) elt te)
  (S:mN (.ListComp elt [⟨.Name x px,iter,ifs,0⟩] scope pos) (some (.Name y py)) B.line X.env=pure true:=by rfl) (hs:∀x,mv iter X.env x=pure x:=by intro _;rfl)
  (U:X.fn y=true∨X.env.scope.names.lookup y=some .local:=by trivial) :
  PS X (.Assign [.Name y py] (.ListComp elt [⟨.Name x px,iter,ifs,0⟩] scope pos) B) (Gv (NK wi fr tf te) (sq i)):=by
 intro O s σ H D I h;rw[exec_Assign_Name_used _ _ _ _ S];refine jx (wpAny_standAt (jx ?_));show jy _ X.A (do let _ ←comprehension (.ListComp elt [⟨.Name x px,iter,ifs,0⟩] scope pos) scope X.env _ (newList []) false (eval iter X.env) (some (nr (.Name y py) X.env))) _ _ s
 refine jx (jO (mE (use:=some (nr (.Name y py) X.env)) (Q:=λ_ L=>SP X O D .next L) rfl hs E l n
  (sV (hi O s σ H _ I h) λv s1 h1=>sV h1 λitv s2 h2=>?_)) (λ_ L hq=>jz (jz hq)) λ_ _ e=>e)
 obtain⟨it,fp,tn,J,H2,e,P,T,IR,f2,Y⟩:=h2;subst e;refine EH (RR:=λt C=>compPost (jA X.prog X.w) X.A X.xe (some (nr (.Name y py) X.env)) (λ_ L=>SP X O D .next L) t C) (Q:=λv H'=>D.nx (σ.set i (some v)) H') hc G l hx hF hf he P T IR f2 Y ?_
 intro t C L Hf m I' hm M q;obtain⟨o,es,ep,ho,hd,r⟩:=id hm;have I1:Inv X (O++[(C,o)]) σ Hf L:=I'.pins_of λp hp=>(mAq.mp hp).elim (λz=>I'.pin p (ay _ z)) λz=>by
  have e:p=(C,o):=by simpa using z
  subst e;exact⟨ho,M.1,M.2.1,M.2.2.1,λv z=>by rw[hd]at z;cases z⟩
 refine sV (HN (X:=X) (i:=i) (pos:=py) hN R hy U _ L σ Hf (.ref t) (.ref t) _ I1 rfl q) λ_ s2 hz1=>?_
 obtain⟨σ2,H2,P,Y⟩:=hz1;have pC:=P.pin (C,o) (ay _ (ay _ (by simp)))
 refine⟨m,⟨o,es,ep,pC.1,hd,r⟩,λh' sb=>⟨σ2,H2,?_,Y⟩⟩
 exact P.unpinned.turned (t':=s2.toks) (λb u hb e=>(sb.2 b hb).trans e) pC.2.1 M.2.1 M.2.2.2.1 M.2.2.2.2.1 M.2.2.2.2.2
end
end Mr
namespace MrS
open PySem PyProof.Rows
section
variable {prog:jC}{w:jF}{A:Around}{E:Ψ}{s:Shared}{Pk:jB->Prop}{lt:jB->jB->Bool}
abbrev vI(h:Heap) (a:Addr) (vs:Ξ):Heap:=((h.update a (Obj.mapSeq λ_=>#[])).push (jE "tuple" vs.toArray 0)).push (jE "list" #[] 0)
def NM{h:Heap}{a:Addr}{xs:Ω}{n:Nat}(vs:Ξ) (t:h.get? a=some (jE "list" xs n)):∃l,(vI h a vs).get? a=some (jE "list" #[] l):=by
 have ha:a<h.objs.size:=ag t;obtain⟨l,r⟩:∃l,(h.update a (Obj.mapSeq λ_=>#[])).get? a=some (jE "list" #[] l):=⟨_,jW t (λ_=>#[])⟩
 refine⟨l,?_⟩;rw[dD _ _ _ (by rw[lj,bO];exact ao (bQ ha)),dD _ _ _ (by rw[bO];exact ao ha)]
 exact r
def Np{h:Heap}{a:Addr}{xs:Ω}{n:Nat}(ys:Ω) (l:h.get? a=some (jE "list" xs n)):∃r,(h.update a (Obj.mapSeq λ_=>ys)).get? a=some (jE "list" ys r):=⟨_,jW l (λ_=>ys)⟩
def xR{vs:Ξ}{x:jB}(h:x∈kJ vs):x.1∈vs/\x.2=x.1:=by
 obtain⟨i,n,e⟩:=Array.mem_iff_getElem.mp h;have l:i<vs.length:=by rw[kZ]at n;exact n
 have:x=(vs[i],vs[i]):=by
  rw[←e];simp[kJ]
 rw[this];exact⟨gRq l,rfl⟩
def DB{vs:Ξ}{xs:Array jB}(r:xs.Perm (kJ vs)) (u:DK lt xs 0 (kJ vs).size) :
  (xs.map (·.2)).toList.Perm vs/\(xs.map (·.2)).toList.Pairwise (λx y=>lt (y,y) (x,x)=false):=by
 constructor
 .have:=r.toList.map (·.2);have e:(kJ vs).toList.map (·.2)=vs:=by
   have:(kJ vs).toList=vs.zip vs:=by simp[kJ]
   rw[this];apply iH
   .simp
   .intro i h1 h2;simp
  rw[e]at this;rw[iJ];exact this
 .rw [bZ];intro i j B C t;have n:i<xs.size:=by simpa using B
  have l:j<xs.size:=by simpa using C
  have z:=u i j xs[i] xs[j] (aE _) (bH t) (by rw[←r.size_eq];exact l) (by simp[n]) (by simp[l])
  have m1:=xR (r.mem_iff.mp (iz n));have m2:=xR (r.mem_iff.mp (iz l));have G:xs[i]=(xs[i].2,xs[i].2):=gG m1.2.symm rfl;have H:xs[j]=(xs[j].2,xs[j].2):=gG m2.2.symm rfl;rw[G,H]at z;simpa using z
end
end MrS
namespace HT
open PySem PyProof.Rows
section
open PySem.SeqAt
open PySem.AutoSeq1 (wpAny_loadPart')
open PySem.MeetsSeq PySem.MeetsSeq2 PySem.MeetsSeq3 PySem.SeqRoads2
def Kg{vs:Ξ}{ns:Ϝ}(h:jR vs ns):∀{i:Nat}(l:i<vs.length),∃(z:Int) (t:Tok),vs[i] = .int z t/\ns.drop i=z::ns.drop (i+1):=by
 induction h with
 |nil=>intro i l;exact absurd l (cw _)
 |cons a t _ n =>
  intro i l;cases i with
  |zero=>exact⟨a,t,rfl,rfl⟩
  |succ i=>exact n (i:=i) (by simpa using l)
def IK(l b:Addr) (items items2:Ω) (n S:Nat) (dd H:Option Addr) (sl I:Array Υ) (ns ms:Ϝ) (O:jR items.toList ns) (P:jR items2.toList ms) (k:Nat) :
  ∀i:Nat,min items.size items2.size-i=k->i<=items.size->i<=items2.size->Meets (Builtin.«list.__eq__.loop» ⟨[.ref l,.ref b,mH i,mH 0],[]⟩)
   (λ_ R s=>s.heap.get? l=some { cls:=.type "list", dict:=dd,data:=.seq items n,slots:=sl }/\s.heap.get? b=some { cls:=.type "list", dict:=H,data:=.seq items2 S,slots:=I } /\
    R (.ok (.ret (.bool (qD (ns.drop i) (ms.drop i))))) s):=by
 have z1:ns.length=items.size:=by rw[←O.length];simp
 have z2:ms.length=items2.size:=by rw[←P.length];simp
 induction k with
 |zero =>
  intro i hk h1 h2 prog w A R s h;obtain⟨J,g,d,L,os⟩:=s;obtain⟨hl,E,h⟩:=h
  wp_walk using wpAny_loadPart' hl,wpAny_loadPart' E
  have fin:qD (ns.drop i) (ms.drop i)=decide (items.size<items2.size):=by
   by_cases c:i=items.size
   .have U:ns.drop i=[]:=cJ (by lia)
    rw[U]
    by_cases Q:i<items2.size
    .rw [aA (by lia:i<ms.length),Ai]
     exact(decide_eq_true (by lia)).symm
    .rw [cJ (by lia:ms.length<=i),Bn]
     exact(decide_eq_false (by lia)).symm
   .have Q:i=items2.size:=by lia
    rw[aA (by lia:i<ns.length),cJ (by lia:ms.length<=i),Aw]
    exact(decide_eq_false (by lia)).symm
  rw[fin]at h
  by_cases c:i=items.size
  .have r:items[((i:Nat):Int).toNat]?=none:=by simp;lia
   rw[r]
   wp_walk using wpAny_loadPart' hl,wpAny_loadPart' E
   exact h
  .have Q:i=items2.size:=by lia
   have r:items[((i:Nat):Int).toNat]?=some (items[i]'(by lia)):=by simp
   have z:items2[((i:Nat):Int).toNat]?=none:=by simp;lia
   rw[r,z]
   wp_walk using wpAny_loadPart' hl,wpAny_loadPart' E
   exact h
 |succ k X =>
  intro i hk h1 h2 prog w A R s h;obtain⟨J,g,d,L,os⟩:=s;obtain⟨hl,E,h⟩:=h
  wp_walk using wpAny_loadPart' hl,wpAny_loadPart' E
  have G:i<items.size:=by lia
  have B:i<items2.size:=by lia
  obtain⟨x,t,ex,Y⟩:=Kg O (i:=i) (by simpa using G)
  obtain⟨y,u,ey,dy⟩:=Kg P (i:=i) (by simpa using B)
  have r:items[((i:Nat):Int).toNat]?=some (.int x t):=by
   rw[←ex];simp[G]
  have z:items2[((i:Nat):Int).toNat]?=some (.int y u):=by
   rw[←ey];simp[B]
  have hc:((i:Int)+1)=((i+1:Nat):Int):=by push_cast;rfl
  rw[Y,dy,vq]at h;rw[r,z];obtain⟨e,he,C⟩:=IU A.in1 ⟨J,g,d,L,os⟩ x t y u;refine jx (he prog w _ _ ?_);cases e with
  |true =>
   rw[qd (C.mp rfl)]at h
   wp_walk
   rw[hc];exact⟨jP plain_eq_loop _,jL entry_eq_loop (by
    rw[Around.under_plainId plain_eq_loop _];exact X (i+1) (by lia) (by lia) (by lia) prog w A R _ ⟨hl,E,h⟩)⟩
  |false =>
   rw[qh (λq=>absurd (C.mpr q) aL)]at h
   have M:=JR A.in1 ⟨J,g,d,L,os⟩ x t y u prog w
   wp_walk using wpAny_loadPart' hl,wpAny_loadPart' E
   rw[r,z]
   wp_walk using M
   exact h
def Ib(l b:Addr) (items items2:Ω) (n u:Nat) (dd r:Option Addr) (sl t:Array Υ) (ns ms:Ϝ) (y:jR items.toList ns) (z:jR items2.toList ms) :
  Meets (Builtin.«list.__lt__» ⟨[.ref l,.ref b],[]⟩)
   (λ_ R s=>s.heap.get? l=some { cls:=.type "list", dict:=dd,data:=.seq items n,slots:=sl }/\s.heap.get? b=some { cls:=.type "list", dict:=r,data:=.seq items2 u,slots:=t } /\
    R (.ok (.ret (.bool (qD ns ms)))) s):=by
 intro prog w A R s h;obtain⟨B,g,d,C,os⟩:=s;obtain⟨hl,x,h⟩:=h;have E:=AutoSeq1.sub_list_list
 wp_walk using wpAny_loadPart' hl,wpAny_loadPart' x
 exact⟨jP plain_eq_loop _,jL entry_eq_loop (by
  rw[Around.under_plainId plain_eq_loop _];exact IK l b items items2 n u dd r sl t ns ms y z _ 0 rfl (aE _) (aE _) prog w A R _ ⟨hl,x,h⟩)⟩
end
end HT
namespace MrS
open PySem PyProof.Rows
section
variable {prog:jC}{w:jF}{A:Around}{E:Ψ}{s:Shared}{κ:jS}{P:jB->Prop}{lt:jB->jB->Bool}{ix:jB->Nat}
def ltx(lt:jB->jB->Bool) (ix:jB->Nat) (x y:jB):Bool:=lt x y || (!lt y x && decide (ix x<ix y))
def rP{x y:jB}:ltx lt ix x y=false↔lt x y=false/\(lt y x=true∨ix y<=ix x):=by
 unfold ltx;cases h1:lt x y <;> cases h2:lt y x <;> simp
structure Od (P:jB->Prop) (lt:jB->jB->Bool):Prop where
 refl:∀x,P x->lt x x=false
 asym:∀x y,P x->P y->lt x y=true->lt y x=false
 trans:∀x y z,P x->P y->P z->lt y x=false->lt z y=false->lt z x=false
def CM.od(C:CM prog w A s κ P lt):Od P lt:=⟨λx=>C.refl,C.asym,C.trans⟩
theorem Od.ltx(C:Od P lt) (ix:jB->Nat):Od P (ltx lt ix):=by
 refine⟨λx l=>rP.mpr ⟨C.refl x l,.inr (ab _)⟩,λx y l py h=>?_,λx y z l py r h1 h2=>?_⟩
 .unfold MrS.ltx at h;rw[iV,gv,fh,decide_eq_true_iff]at h;rcases h with h|⟨h1,h2⟩
  .exact rP.mpr ⟨C.asym x y l py h,.inl h⟩
  .exact rP.mpr ⟨h1,.inr (bH h2)⟩
 .obtain ⟨t,n⟩:=rP.mp h1;obtain⟨b1,b2⟩:=rP.mp h2;have B:=C.trans x y z l py r t b1;refine rP.mpr ⟨B,?_⟩;cases u:lt x z with
  |true=>exact .inl rfl
  |false =>
   refine .inr ?_;have G:lt x y=false:=C.trans y z x py r l b1 u;have H:lt y z=false:=C.trans z x y r l py u t;rw[G]at n;rw[H]at b2;rcases n with n|n
   .cases n
   .rcases b2 with b2|b2
    .cases b2
    .exact bq n b2
def Mv{xs:Array jB}{i j:Nat}(h:DK (ltx lt ix) xs i j):DK lt xs i j:=λp q x y a b c ex l=>(rP.mp (h p q x y a b c ex l)).1
def Pf(lt:jB->jB->Bool) (ix:jB->Nat) (xs:Array jB) (lo k:Nat):Prop:=∀j r x y,j<r->k<=r->xs[lo+j]?=some x->xs[lo+r]?=some y->lt x y=false->lt y x=false->ix x<=ix y
def W1{xs:Array jB}{lo k l:Nat}(n:lo+k<xs.size) (hl:l<=k) (h:Pf lt ix xs lo k):Pf lt ix (nq xs (lo+k) (k-l)) lo (k+1):=by
 have B:xs[lo+k]?=some (xs[lo+k]'n):=ba n;have g:∀p,(nq xs (lo+k) (k-l))[p]?=if p=lo+l then some (xs[lo+k]'n) else if lo+l<p/\p<=lo+k then xs[p-1]? else xs[p]?:=λp=>by
  rw[mJ n (k-l) (by lia) p,show lo+k-(k-l)=lo+l by lia,B]
 intro j r x y G hr ex t u z;rw[g,qh (by lia),qh (by lia)]at t
 rw[g]at ex
 by_cases c:lo+j=lo+l
 .rw [qd c]at ex;cases ex;exact h k r _ y (by lia) (by lia) B t u z
 .rw [qh c]at ex
  by_cases C:lo+l<lo+j/\lo+j<=lo+k
  .rw [qd C]at ex;exact h (j-1) r x y (by lia) (by lia) (by rw[show lo+(j-1)=lo+j-1 by lia];exact ex) t u z
  .rw [qh C]at ex;exact h j r x y G (by lia) ex t u z
def Pf.above{xs:Array jB}{lo k j r:Nat}{x y:jB}(h:Pf lt ix xs lo k) (h1:j<r) (h2:k<=r) (ex:xs[lo+j]?=some x) (l:xs[lo+r]?=some y) (e:lt y x=false):ltx lt ix y x=false:=by
 refine rP.mpr ⟨e,?_⟩;cases q:lt x y with
 |true=>exact .inl rfl
 |false=>exact .inr (h j r x y h1 h2 ex l q e)
def Si(C:Od P lt) {xs:Array jB}(H:∀x,x∈xs->P x) {lo k l:Nat}(O:lo+k<xs.size) (hl:l<=k) (G:DK lt xs lo (lo+k)) {x:jB}(I:xs[lo+k]?=some x)
  (h1:∀j y,j<l->xs[lo+j]?=some y->lt x y=false) (h2:∀j y,l<=j->j<k->xs[lo+j]?=some y->lt x y=true):DK lt (nq xs (lo+k) (k-l)) lo (lo+(k+1)):=by
 have J:=H _ (aQq I);have g:∀p,(nq xs (lo+k) (k-l))[p]?=if p=lo+l then some x else if lo+l<p/\p<=lo+k then xs[p-1]? else xs[p]?:=λp=>by
  rw[mJ O (k-l) (by lia) p,show lo+k-(k-l)=lo+l by lia,I]
 intro p q u v L Q R r n;rw[g]at r n
 by_cases M:p=lo+l
 .rw [qd M]at r;cases r
  by_cases t:q=lo+l
  .rw [qd t]at n;cases n;exact C.refl _ J
  .rw [qh t,qd ⟨by lia,by lia⟩]at n
   have pv:=H _ (aQq n);exact C.asym _ _ J pv (h2 (q-1-lo) v (by lia) (by lia) (by rw[show lo+(q-1-lo)=q-1 by lia];exact n))
 .rw [qh M]at r
  by_cases z:lo+l<p/\p<=lo+k
  .rw [qd z]at r;rw[qh (by lia),qd ⟨by lia,by lia⟩]at n
   exact G (p-1) (q-1) _ _ (by lia) (by lia) (by lia) r n
  .rw [qh z]at r
   by_cases t:q=lo+l
   .rw [qd t]at n;cases n;exact h1 (p-lo) u (by lia) (by rw[show lo+(p-lo)=p by lia];exact r)
   .rw [qh t]at n
    by_cases B:lo+l<q/\q<=lo+k
    .rw [qd B]at n;exact G p (q-1) _ _ L (by lia) (by lia) r n
    .rw [qh B]at n;exact G p q _ _ L Q (by lia) r n
def Ka(C:CM prog w A s κ P lt) {lo n ok:Nat}{st:SortSt}{Q:Bool->SortSt->Prop}(hp:∀x,x∈jI st->P x) (hk:kindOf st=κ) (h1:1<=ok) (h2:ok<=n) (hz:lo+n<=(jI st).size) (hs:DK (ltx lt ix) (jI st) lo (lo+ok)) (hf:Pf lt ix (jI st) lo ok)
  (h:∀xs,CL (jI st) xs lo (lo+n)->DK (ltx lt ix) xs lo (lo+n)->Pf lt ix xs lo n->Q true (kj st xs)):wpS (jA prog w) A E s (binarySort' lo n ok) Q st:=by
 rw[binarySort'_eq];dsimp only;rw[Nat.max_eq_left h1];refine jJ (lM (kY (I:=λk c u=>∃t,c=(none,())/\u=kj st t/\CL (jI st) t lo (lo+n)/\DK (ltx lt ix) t lo (lo+k)/\Pf lt ix t lo k/\k<=n)
  (Q:=λc u=>∃t,c=(none,())/\u=kj st t/\CL (jI st) t lo (lo+n)/\DK (ltx lt ix) t lo (lo+n)/\Pf lt ix t lo n) ?step ?fin ⟨jI st,rfl,rfl,CL.refl _ _ _,hs,hf,h2⟩) ?post)
 case fin =>
  rintro c u ⟨t,rfl,rfl,b1,G,f1,q⟩;have e:max ok n=n:=by lia
  rw[e]at G f1;exact⟨t,rfl,rfl,b1,G,f1⟩
 case post =>
  rintro c u ⟨t,rfl,rfl,b1,G,f1⟩;exact jV (h t b1 G f1)
 case step =>
  rintro k c u hk1 M ⟨t,rfl,rfl,b1,X,f1,q⟩;have G:DK lt t lo (lo+k):=Mv X;have z:=b1.mem hp;have hsz:=b1.size;have ex:t[lo+k]?=some (t[lo+k]'(by lia)):=ba (by lia)
  have S:=z _ (aQq ex);refine jJ (lM (kY (I:=λi c u=>∃l r,c=(none,l,r)/\u=kj st t/\l<=r/\r<=k/\(∀j y,j<l->t[lo+j]?=some y->lt (t[lo+k]'(by lia)) y=false)/\(∀j y,r<=j->j<k->t[lo+j]?=some y->lt (t[lo+k]'(by lia)) y=true)/\(r-l)+i<=k)
   (Q:=λc u=>∃l r,c=(none,l,r)/\u=kj st t/\l=r/\r<=k/\(∀j y,j<l->t[lo+j]?=some y->lt (t[lo+k]'(by lia)) y=false)/\(∀j y,r<=j->j<k->t[lo+j]?=some y->lt (t[lo+k]'(by lia)) y=true))
   ?step1 ?fin1 ⟨0,k,rfl,rfl,aE _,ab _,λj y hj=>absurd hj (cw _),λj y H g2=>absurd g2 (by lia),by lia⟩) ?post1)
  case fin1 =>
   rintro c u ⟨l,r,rfl,rfl,a1,B,J,L,a5⟩;exact⟨l,r,rfl,rfl,by lia,B,J,L⟩
  case step1 =>
   rintro i c u _ hi ⟨l,r,rfl,rfl,a1,B,J,L,a5⟩;dsimp only
   by_cases Y:l ≥ r
   .rw [qd Y];exact jV ⟨l,r,rfl,rfl,by lia,B,J,L⟩
   rw[qh Y];have R:t[lo+(l+r) / 2]?=some (t[lo+(l+r) / 2]'(by lia)):=ba (by lia)
   have pm:=z _ (aQq R);refine jJ (C.at (st:=kj st t) ex R S pm hk ?_);cases e:lt (t[lo+k]'(by lia)) (t[lo+(l+r) / 2]'(by lia)) with
   |true =>
    dsimp only;rw[qd rfl];refine jV ⟨l,_,rfl,rfl,by lia,by lia,J,λj y H g2 O=>?_,by lia⟩
    have py:=z _ (aQq O);cases e':lt (t[lo+k]'(by lia)) y with
    |true=>rfl
    |false =>
     have q1:=G (lo+(l+r) / 2) (lo+j) _ _ (by lia) (by lia) (by lia) R O
     have q2:=C.trans _ _ _ pm py S q1 e';rw[e]at q2;cases q2
   |false =>
    dsimp only;rw[qh (by decide)]
    refine jV ⟨_,r,rfl,rfl,by lia,B,λj y H O=>?_,L,by lia⟩
    have py:=z _ (aQq O);exact C.trans _ _ _ py pm S (G (lo+j) (lo+(l+r) / 2) _ _ (by lia) (by lia) (by lia) O R) e
  case post1 =>
   rintro c u ⟨l,r,rfl,rfl,rfl,B,J,L⟩;dsimp only;refine jJ (QQ (jV ?_));have e:lo+k-(lo+l)=k-l:=by lia
   show ∃U,_/\kj st (nq t (lo+k) (lo+k-(lo+l)))=kj st U/\_;rw[e];refine⟨_,rfl,rfl,b1.trans (LS (by lia) B M),Si (C.od.ltx ix) z (by lia) B X ex (λj y H g2=>f1.above (j:=j) (r:=k) (by lia) (ab _) g2 ex (J j y H g2)) (λj y H g2 g3=>?_),W1 (by lia) B f1,M⟩
   .unfold ltx;rw[L j y H g2 g3];rfl
end
section
variable {prog:jC}{w:jF}{A:Around}{E:Ψ}{s:Shared}{κ:jS}{P:jB->Prop}{lt:jB->jB->Bool}{ix:jB->Nat}
def Od.lower(C:Od P lt) {x y z:jB}(l:P x) (py:P y) (n:P z) (h:lt x y=true) (h2:lt z y=false):lt x z=true:=by
 cases e:lt x z with
 |true=>rfl
 |false=>rw[C.trans y z x py n l h2 e]at h;cases h
def Pf.keep{xs ys:Array jB}{lo k:Nat}(h:Pf lt ix xs lo k) (b:CL xs ys lo (lo+k)) (C:lo+k<=xs.size) (u:∀p y,lo<=p->p<lo+k->ys[p]?=some y->∃q,lo<=q/\q<lo+k/\xs[q]?=some y):Pf lt ix ys lo k:=by
 intro j r x y z hr ex l n t;rw[b.out _ (.inr (by lia))]at l
 by_cases c:j<k
 .obtain ⟨q,G,H,B⟩:=u (lo+j) x (by lia) (by lia) ex
  exact h (q-lo) r x y (by lia) hr (by rw[show lo+(q-lo)=q by lia];exact B) l n t
 .rw [b.out _ (.inr (by lia))]at ex
  exact h j r x y z hr ex l n t
def AD{xs:Array jB}{lo k i j:Nat}(h:Pf lt ix xs lo k) (h1:lo<=i) (h2:j<=lo+k) (l:lo+k<=xs.size):Pf lt ix (lY xs i j ((j-i) / 2)) lo k:=by
 refine h.keep (xv (by lia) h1 h2) l λp y n r e=>?_
 rw[jM (by lia)]at e
 by_cases c:i<=p/\p<j
 .rw [qd c]at e;exact⟨_,by lia,by lia,e⟩
 .rw [qh c]at e;exact⟨p,n,r,e⟩
def Pf.up{xs:Array jB}{lo k:Nat}(h:Pf lt ix xs lo k):Pf lt ix xs lo (k+1):=λj r x y a b=>h j r x y a (by lia)
def QA(C:Od P lt) {xs:Array jB}(n:∀x,x∈xs->P x) (lo:Nat):DK lt xs lo (lo+1):=by
 intro p q x y h1 h2 r ex l;have e:p=q:=by lia
 subst e;rw[ex]at l;cases l;exact C.refl _ (n _ (aQq ex))
def Oy(C:Od P lt) {xs:Array jB}(r:∀x,x∈xs->P x) {lo n:Nat}(h:DK lt xs lo (lo+(n+1))) (u:∀x y,xs[lo+(n+1)]?=some x->xs[lo+n]?=some y->lt x y=false) (B:lo+(n+1)<xs.size):DK lt xs lo (lo+(n+2)):=by
 intro p q x y h1 h2 G ex l
 by_cases c:q<lo+(n+1)
 .exact h p q x y h1 h2 c ex l
 .have eq:q=lo+(n+1):=by lia
  subst eq
  by_cases z:p=lo+(n+1)
  .subst z;rw[ex]at l;cases l;exact C.refl _ (r _ (aQq ex))
  .have t:xs[lo+n]?=some (xs[lo+n]'(by lia)):=ba (by lia)
   exact C.trans _ _ _ (r _ (aQq ex)) (r _ (aQq t)) (r _ (aQq l)) (h p (lo+n) _ _ h1 (by lia) (by lia) ex t) (u _ _ l t)
def GO(C:CM prog w A s κ P lt) {lo l a:Nat}{st:SortSt}(L:∀x,x∈jI st->P x) (hk:kindOf st=κ) (ha:1<=a) (z:a<=l) (S:lo+l<=(jI st).size) (R:DK (ltx lt ix) (jI st) lo (lo+a)) (hf:Pf lt ix (jI st) lo a) :
  wpS (jA prog w) A E s (forIn [a:l] ((none,a):Option (Option Nat)×Nat) λ_ s=>crA lo s.2)
   (λc t=>∃n,c=(none,n)/\t=st/\a<=n/\n<=l/\DK (ltx lt ix) (jI st) lo (lo+n)/\Pf lt ix (jI st) lo n/\(n=l∨∃x y,(jI st)[lo+n]?=some x/\(jI st)[lo+n-1]?=some y/\lt x y=true)) st:=by
 refine kY (I:=λi c t=>c=(none,i)/\t=st/\a<=i/\i<=l/\DK (ltx lt ix) (jI st) lo (lo+i)/\Pf lt ix (jI st) lo i) ?step ?fin ⟨rfl,rfl,ab _,z,R,hf⟩
 case step =>
  rintro i c t h1 h2 ⟨rfl,rfl,H,M,B,u⟩;obtain⟨k,rfl⟩:∃k,i=k+1:=⟨i-1,by lia⟩
  have ex:(jI t)[lo+(k+1)]?=some ((jI t)[lo+(k+1)]'(by lia)):=ba (by lia)
  have J:(jI t)[lo+(k+1)-1]?=some ((jI t)[lo+k]'(by lia)):=ba (by lia)
  refine jJ (C.at ex J (L _ (aQq ex)) (L _ (aQq J)) hk ?_);cases e:lt ((jI t)[lo+(k+1)]'(by lia)) ((jI t)[lo+k]'(by lia)) with
  |true=>exact jV ⟨_,rfl,rfl,H,M,B,u,.inr ⟨_,_,ex,J,e⟩⟩
  |false =>
   refine jV ⟨rfl,rfl,by lia,h2,Oy (C.od.ltx ix) L B (λx y O Q=>?_) (by lia),u.up⟩
   have G:(jI t)[lo+(k+1)-1]?=some y:=Q;refine u.above (j:=k) (r:=k+1) (by lia) (ab _) Q O ?_
   rw[ex]at O;rw[J]at G;cases O;cases G;exact e
 case fin =>
  rintro c t ⟨rfl,rfl,H,M,B,u⟩;have e:max a l=l:=Nat.max_eq_right z;rw[e]at H M B u ⊢;exact⟨l,rfl,rfl,H,ab _,B,u,.inl rfl⟩
structure CS (lt:jB->jB->Bool) (ix:jB->Nat) (as:Array jB) (lo i q:Nat) (ys:Array jB):Prop where
 c:CR lt as lo i q ys
 d1:MM (ltx lt ix) ys lo (lo+i-(q+1))
 cr:∀p r x y,lo<=p->p<lo+i-(q+1)->lo+i-(q+1)<=r->r<lo+i->ys[p]?=some x->ys[r]?=some y->lt y x=true
 ob:∀r r' y y',lo+i-(q+1)<=r->r<=r'->r'<lo+i->ys[r]?=some y->ys[r']?=some y'->ix y<=ix y'
 pf:Pf lt ix ys lo i
def CS.rev(C:Od P lt) {as ys:Array jB}{lo i q:Nat}(n:∀x,x∈ys->P x) (G:lo+i<=ys.size) (g:CS lt ix as lo i q ys):MM (ltx lt ix) (lY ys (lo+i-(q+1)) (lo+i) ((lo+i-(lo+i-(q+1))) / 2)) lo (lo+i):=by
 have H:=g.c.p;intro p r x y h1 h2 z ex l;rw[jM (by lia)]at ex l
 by_cases u:lo+i-(q+1)<=p/\p<lo+i
 .rw [qd u]at ex;rw[qd ⟨by lia,z⟩]at l
  exact rP.mpr ⟨g.c.e _ _ _ _ (by lia) (by lia) (by lia) (by lia) ex l,.inr (g.ob _ _ y x (by lia) (by lia) (by lia) l ex)⟩
 .rw [qh u]at ex;have B:=n _ (aQq ex)
  by_cases cr:lo+i-(q+1)<=r/\r<lo+i
  .rw [qd cr]at l;have py:=n _ (aQq l);have t:=g.cr p _ x y h1 (by lia) (by lia) (by lia) ex l
   exact rP.mpr ⟨C.asym _ _ py B t,.inl t⟩
  .rw [qh cr]at l;exact g.d1 p r x y h1 h2 (by lia) ex l
def CS.all(C:Od P lt) {as ys:Array jB}{lo i:Nat}(n:∀x,x∈ys->P x) (g:CS lt ix as lo i 0 ys):MM (ltx lt ix) ys lo (lo+i):=by
 have G:=g.c.p;intro p r x y h1 h2 z ex l;have u:=n _ (aQq ex);have py:=n _ (aQq l)
 by_cases c:r<lo+i-(0+1)
 .exact g.d1 p r x y h1 h2 c ex l
 .by_cases B:p=r
  .subst B;rw[ex]at l;cases l;exact(C.ltx ix).refl _ u
  .have t:=g.cr p r x y h1 (by lia) (by lia) z ex l
   exact rP.mpr ⟨C.asym _ _ py u t,.inl t⟩
def KY{C:CM prog w A s κ P lt}{ys:Array jB}{lo k:Nat}{u v:jB}(r:P u) (py:P v) (l:∀x,x∈ys->P x) (g2:MM lt ys lo (lo+(k+1))) (ex:ys[lo+(k+1)]?=some u) (t:ys[lo+(k+1)-1]?=some v) (e:lt u v=true):∀p x,lo<=p->p<lo+(k+1)->ys[p]?=some x->lt u x=true:=λp x y z n =>
 C.od.lower r py (l _ (aQq n)) e (g2 p (lo+(k+1)-1) _ _ y (by lia) (by lia) n t)
def Vm(C:CM prog w A s κ P lt) {lo B k l:Nat}{st:SortSt}{ys:Array jB}(hp:∀x,x∈jI st->P x) (hk:kindOf st=κ) (hz:lo+B<=(jI st).size) (hi:k+1<B) (z:CS lt ix (jI st) lo (k+1) l ys) :
  wpS (jA prog w) A E s (crB lo (k+1) l) (λr IR=>∃m q zs,IR=kj st zs/\m<=B/\CS lt ix (jI st) lo m q zs/\(r = .done (none,m,q)∨r = .yield (none,m,q)/\m=k+1+1)) (kj st ys):=by
 have g:=z.c;have X:=g.b;have g2:=g.d;have R:=g.e;have g4:=g.p;have n:=X.mem hp;have hsz:=X.size;have ex:ys[lo+(k+1)]?=some (ys[lo+(k+1)]'(by lia)):=ba (by lia)
 have G:ys[lo+(k+1)-1]?=some (ys[lo+k]'(by lia)):=ba (by lia)
 have H:=n _ (aQq ex);have py:=n _ (aQq G);have Y:lt (ys[lo+k]'(by lia)) (ys[lo+(k+1)]'(by lia))=false->MM lt ys lo (lo+(k+1+1)):=λe=>Kl C n g2 (λx y hx hy=>by
  have hy':ys[lo+(k+1)-1]?=some y:=hy;rw[ex]at hx;rw[G]at hy';cases hx;cases hy';exact e) (by lia)
 refine jJ (C.at (st:=kj st ys) ex G H py hk ?_);cases e:lt (ys[lo+(k+1)]'(by lia)) (ys[lo+k]'(by lia)) with
 |true =>
  have g2':=Y (C.asym _ _ H py e);dsimp only;rw[qd rfl]
  by_cases cn:l>0
  .rw [qd cn];refine jJ (D6 (jV ?_));have bt:CL (jI st) (lY ys (lo+(k+1)-(l+1)) (lo+(k+1)) ((lo+(k+1)-(lo+(k+1)-(l+1))) / 2)) lo (lo+(k+1)):=X.trans (xv (by lia) (by lia) (ab _))
   have L:=KY (C:=C) H py n g2 ex G e;have M:∀p,p<lo∨lo+(k+1)<=p->(lY ys (lo+(k+1)-(l+1)) (lo+(k+1)) ((lo+(k+1)-(lo+(k+1)-(l+1))) / 2))[p]?=ys[p]?:=λp hp=>by rw[jM (by lia),qh (by lia)]
   refine⟨_,0,_,rfl,hi,⟨⟨bt.mono (by lia),Fz (by lia) (by lia) (by lia) R g2',DU C (bt.mem hp) (by lia),by lia⟩,?_,?_,?_,(AD z.pf (by lia) (by lia) (by lia)).up⟩,.inr ⟨rfl,rfl⟩⟩
   .have d:=z.rev C.od n (by lia)
    rw[show lo+(k+1+1)-(0+1)=lo+(k+1) by lia]
    exact d
   .intro p r x y S p2 r1 U I u;rw[M r (by lia),show r=lo+(k+1) by lia,ex]at u
    cases u;rw[jM (by lia)]at I
    by_cases c:lo+(k+1)-(l+1)<=p/\p<lo+(k+1)
    .rw [qd c]at I;exact L _ x (by lia) (by lia) I
    .rw [qh c]at I;exact L p x S (by lia) I
   .intro r O y y' r1 U r3 u J;rw[show O=r by lia,u]at J
    cases J;exact ab _
  .rw [qh cn];have L:=KY (C:=C) H py n g2 ex G e;have n0:l=0:=by lia
   subst n0;refine jV ⟨_,0,ys,rfl,hi,⟨⟨X.mono (by lia),g2',DU C n (by lia),by lia⟩,?_,?_,?_,z.pf.up⟩,.inr ⟨rfl,rfl⟩⟩
   .have d:=z.all C.od n;rw[show lo+(k+1+1)-(0+1)=lo+(k+1) by lia]
    exact d
   .intro p r x y S p2 r1 U I u;rw[show r=lo+(k+1) by lia,ex]at u
    cases u;exact L p x S (by lia) I
   .intro r O y y' r1 U r3 u J;rw[show O=r by lia,u]at J
    cases J;exact ab _
 |false =>
  dsimp only;rw[qh (by decide)]
  refine jJ (C.at (st:=kj st ys) G ex py H hk ?_);cases e':lt (ys[lo+k]'(by lia)) (ys[lo+(k+1)]'(by lia)) with
  |true=>exact jV ⟨_,l,ys,rfl,bH hi,z,.inl rfl⟩
  |false =>
   refine jV ⟨_,l+1,ys,rfl,hi,⟨⟨X.mono (by lia),Y e',?_,by lia⟩,?_,?_,?_,z.pf.up⟩,.inr ⟨rfl,rfl⟩⟩
   rotate_left
   .rw [show lo+(k+1+1)-(l+1+1)=lo+(k+1)-(l+1) by lia]
    exact z.d1
   .intro p r x y S p2 r1 U I u
    by_cases c:r=lo+(k+1)
    .rw [c,ex]at u;cases u;have t:=z.cr p (lo+(k+1)-1) x _ S (by lia) (by lia) (by lia) I G
     have pz:=n _ (aQq I);cases q:lt (ys[lo+(k+1)]'(by lia)) x with
     |true=>rfl
     |false =>
      have:=C.trans _ _ _ pz H py q e';rw[t]at this;cases this
    .exact z.cr p r x y S (by lia) (by lia) (by lia) I u
   .intro r O y y' r1 U r3 u J
    by_cases c:O=lo+(k+1)
    .by_cases c2:r=O
     .subst c2;rw[u]at J;cases J;exact ab _
     .have pz:=n _ (aQq u);rw[c,ex]at J;cases J;have z1:=R r (lo+(k+1)-1) _ _ (by lia) (by lia) (by lia) (by lia) u G
      have z2:=R (lo+(k+1)-1) r _ _ (by lia) (by lia) (by lia) (by lia) G u
      exact z.pf (r-lo) (k+1) y _ (by lia) (ab _) (by rw[show lo+(r-lo)=r by lia];exact u) ex (C.trans _ _ _ H py pz e' z1) (C.trans _ _ _ pz py H z2 e)
    .exact z.ob r O y y' (by lia) U (by lia) u J
   intro p q x y h1 h2 h3 h4 M Q;have qx:=n _ (aQq M);have qy:=n _ (aQq Q)
   by_cases cp:p=lo+(k+1)
   .subst cp;rw[ex]at M;cases M
    by_cases cq:q=lo+(k+1)
    .subst cq;rw[ex]at Q;cases Q;exact C.refl H
    .exact C.trans _ _ _ qy py H (R (lo+(k+1)-1) q _ _ (by lia) (by lia) (by lia) (by lia) G Q) e
   .by_cases cq:q=lo+(k+1)
    .subst cq;rw[ex]at Q;cases Q;exact C.trans _ _ _ H py qx e' (R p (lo+(k+1)-1) _ _ (by lia) (by lia) (by lia) (by lia) M G)
    .exact R p q x y (by lia) (by lia) (by lia) (by lia) M Q
abbrev S0(lt:jB->jB->Bool) (ix:jB->Nat) (st:SortSt) (lo l:Nat) (Q:Option Nat->SortSt->Prop):=∀n xs,1<=n->n<=l->CL (jI st) xs lo (lo+n)->DK (ltx lt ix) xs lo (lo+n)->Pf lt ix xs lo n->Q (some n) (kj st xs)
def M8(C:CM prog w A s κ P lt) {lo l m:Nat}{st:SortSt}{ys:Array jB}{Q:Option Nat->SortSt->Prop}(u:∀x,x∈jI st->P x) (hk:kindOf st=κ) (y:lo+l<=(jI st).size) (h:S0 lt ix st lo l Q)
  (h1:1<=m) (h2:m<=l) (b:CL (jI st) ys lo (lo+m)) (d:MM (ltx lt ix) ys lo (lo+m)) (f:Pf lt ix ys lo m):wpS (jA prog w) A E s (crZ lo l m) Q (kj st ys):=by
 refine jJ (D6 ?_);have z:=b.size;have f1:=Lq (by lia) d
 have f2:=b.trans (xv (i:=lo) (j:=lo+m) (by lia) (ab _) (ab _))
 have B:=AD (i:=lo) (j:=lo+m) f (ab _) (ab _) (by lia)
 refine jJ (lM (GO (st:=kj st _) C (f2.mem u) hk h1 h2 (bq y (dQ f2.size.symm)) f1 B) ?_);rintro c IR ⟨G,rfl,rfl,H,n,r,t,_⟩;exact jV (h G _ (by lia) n (f2.mono (by lia)) r t)
def Ol(C:CM prog w A s κ P lt) {lo l n:Nat}{st:SortSt}{xs:Array jB}{Q:Option Nat->SortSt->Prop}(z:∀x,x∈jI st->P x) (hk:kindOf st=κ) (G:lo+l<=(jI st).size) (h:S0 lt ix st lo l Q)
  (hn:n<l) (b:CL (jI st) xs lo (lo+n)) (d:MM lt xs lo (lo+(n+1))) (R:MM (ltx lt ix) xs lo (lo+n)) (H:∀p x y,lo<=p->p<lo+n->xs[p]?=some x->xs[lo+n]?=some y->lt y x=true) (f:Pf lt ix xs lo n):wpS (jA prog w) A E s (crD lo l n) Q (kj st xs):=by
 refine jJ (JV (jJ (lM (kY
  (I:=λi c IR=>∃q t,c=(none,i,q)/\IR=kj st t/\i<=l/\CS lt ix (jI st) lo i q t)
  (Q:=λc IR=>∃m q t,c=(none,m,q)/\IR=kj st t/\m<=l/\CS lt ix (jI st) lo m q t)
  ?_ ?_ ⟨0,xs,rfl,rfl,hn,⟨b.mono (by lia),d,DU C (b.mem z) (by lia),by lia⟩,by rw[show lo+(n+1)-(0+1)=lo+n by lia];exact R,λp r x y S p2 U X Y J=>H p x y S (by lia) Y (by rw[show lo+n=r by lia];exact J),λr r' y y' U X r3 J L=>by
   rw[show r'=r by lia,J]at L
   cases L;exact ab _,f.up⟩) ?_)))
 .rintro i c IR _ hi ⟨q,t,rfl,rfl,_,g⟩;obtain⟨k,rfl⟩:∃k,i=k+1:=⟨i-1,by have:=g.c.p;lia⟩
  refine lM (Vm C z hk G hi g) λr IR hr=>?_
  obtain⟨m,q,M,rfl,u,O,rfl|⟨rfl,rfl⟩⟩:=hr
  .exact ⟨m,q,M,rfl,rfl,u,O⟩
  .exact ⟨q,M,rfl,rfl,u,O⟩
 .rintro c IR ⟨q,t,rfl,rfl,u,g⟩;exact⟨_,q,t,rfl,rfl,u,g⟩
 .rintro c IR ⟨m,q,t,rfl,rfl,u,g⟩;have hsz:=g.c.b.size;have gp:=g.c.p;have B:=g.c.b.mem z;dsimp only
  by_cases cn:q>0
  .rw [qd cn];exact jJ (D6 (M8 (st:=st) (ys:=lY t (lo+m-(q+1)) (lo+m) ((lo+m-(lo+m-(q+1))) / 2)) C z hk G h (by lia) u (g.c.b.trans (xv (by lia) (by lia) (ab _))) (g.rev C.od B (by lia)) (AD g.pf (by lia) (by lia) (by lia))))
  .rw [qh cn];have q0:q=0:=by lia
   subst q0;exact M8 C z hk G h (by lia) u g.c.b (g.all C.od B) g.pf
def Gd(C:CM prog w A s κ P lt) {lo u:Nat}{st:SortSt}{Q:Option Nat->SortSt->Prop}(B:∀x,x∈jI st->P x) (hk:kindOf st=κ) (h1:1<=u) (Y:lo+u<=(jI st).size) (hf:Pf lt ix (jI st) lo 0)
  (h:S0 lt ix st lo u Q):wpS (jA prog w) A E s (countRun' lo u) Q st:=by
 rw[Z0];refine jJ (lM (GO C B hk (ab 1) h1 Y (QA (C.od.ltx ix) B lo) hf.up) ?_);rintro c l ⟨n,rfl,rfl,n1,n2,R,M,brk⟩;have S:=Mv R;dsimp only;have L:Q (some n) l:=h n (jI l) n1 n2 (CL.refl _ _ _) R M
 by_cases c1:n=u
 .rw [qd (by simp[c1])]
  exact jV L
 rw[qh (by simpa using c1)]
 obtain⟨xb,yb,I,G,eb⟩:=brk.resolve_left c1;obtain⟨m,rfl⟩:∃m,n=m+1:=⟨n-1,by lia⟩
 have U:=B _ (aQq I);have J:=B _ (aQq G);have go:Zu lt (jI l) lo (lo+(m+1))->MM lt (jI l) lo (lo+(m+1+1)):=λt =>
  Kl C B (λp q x y g1 g2 g3 ex ey=>t p q x y g1 (by lia) (by lia) g3 ex ey) (λx y hx hy=>by
   have X:(jI l)[lo+(m+1)-1]?=some y:=hy;rw[I]at hx;rw[G]at X;cases hx;cases X;exact C.asym _ _ U J eb) (by lia)
 by_cases c2:m+1>1
 .rw [qd c2];have ex:(jI l)[lo]?=some ((jI l)[lo]'(by lia)):=ba (by lia)
  have O:=B _ (aQq ex);refine jJ (C.at ex G O J hk ?_);cases e:lt ((jI l)[lo]'(by lia)) yb with
  |true=>exact jV L
  |false =>
   dsimp only;rw[qh (by decide)]
   have H:Zu lt (jI l) lo (lo+(m+1)):=by
    intro p q x y g1 g2 g3 g4 gx gy;have px:=B _ (aQq gx);have py:=B _ (aQq gy);have q1:=S q (lo+(m+1)-1) _ _ g3 (by lia) (by lia) gy G
    have q2:=S lo p _ _ (ab _) g1 g2 ex gx;exact C.trans _ _ _ py O px (C.trans _ _ _ py J O q1 e) q2
   have gz:(lY (jI l) lo (lo+(m+1)) ((lo+(m+1)-lo) / 2))[lo+(m+1)]?=some xb:=by rw[jM (by lia),qh (by lia)];exact I
   refine jJ (D6 (Ol C B hk Y h (by lia) (xv (by lia) (ab _) (ab _)) (Fz (by lia) (ab _) (by lia) H (go H)) ?_ ?_ (AD M (ab _) (ab _) (by lia))))
   .intro p r x y h1 h2 h3 t z;rw[jM (by lia),qd ⟨h1,by lia⟩]at t
    rw[jM (by lia),qd ⟨by lia,h3⟩]at z
    have z1:=H _ _ _ _ (by lia) (by lia) (by lia) (by lia) t z
    have z2:=H _ _ _ _ (by lia) (by lia) (by lia) (by lia) z t
    by_cases c:p=r
    .subst c;rw[t]at z;cases z;exact(C.od.ltx ix).refl _ (B _ (aQq t))
    .refine hf.above (j:=lo+(lo+(m+1))-1-r-lo) (r:=lo+(lo+(m+1))-1-p-lo) (by lia) (aE _) ?_ ?_ z1
     .rw [show lo+(lo+(lo+(m+1))-1-r-lo)=lo+(lo+(m+1))-1-r by lia];exact z
     .rw [show lo+(lo+(lo+(m+1))-1-p-lo)=lo+(lo+(m+1))-1-p by lia];exact t
   .intro p x y p1 p2 t z;rw[gz]at z;cases z;rw[jM (by lia),qd ⟨p1,p2⟩]at t
    exact C.od.lower U J (B _ (aQq t)) eb (H _ (lo+(m+1)-1) _ _ (by lia) (by lia) (by lia) (by lia) t G)
 .rw [qh c2];have m0:m=0:=by lia
  subst m0;refine Ol C B hk Y h (by lia) (CL.refl _ _ _) (go (DU C B (by lia))) (λp r x y h1 h2 h3 t z=>?_) (λp x y p1 p2 t z=>?_) M
  .have:p=r:=by lia
   subst this;rw[t]at z;cases z;exact(C.od.ltx ix).refl _ (B _ (aQq t))
  .rw [I]at z;cases z;rw[show p=lo+(0+1)-1 by lia,G]at t
   cases t;exact eb
end
section
variable {prog:jC}{w:jF}{A:Around}{E:Ψ}{s:Shared}{κ:jS}{P:jB->Prop}{lt:jB->jB->Bool}{ix:jB->Nat}
abbrev NN(κ:jS) (xs:Array jB) (p:Array (Nat×Nat×Nat)) (g:Nat):SortSt:=SortSt.mk' κ xs p g none
def GN(C:CM prog w A s κ P lt) {arr:Array jB}{g:Nat}{Q:Unit->SortSt->Prop}(O:∀x,x∈arr->P x) (h2:2<=arr.size) (G:arr.size<64) (R:∀(j r:Nat) (x y:jB),j<r->arr[j]?=some x->arr[r]?=some y->lt x y=false->lt y x=false->ix x<=ix y)
  (h:∀xs p g',xs.Perm arr->DK (ltx lt ix) xs 0 arr.size->Q () (NN κ xs p g')):wpS (jA prog w) A E s sortRuns' Q (NN κ arr #[] g):=by
 rw[sortRuns'_eq];refine jJ (ni ?_);dsimp only;have H:minRun' arr.size arr.size 0=arr.size:=by
  obtain⟨f,hf⟩:∃f,arr.size=f+1:=⟨arr.size-1,by lia⟩
  have:minRun' (f+1) arr.size 0=arr.size:=by rw[minRun'_succ,qd G];rfl
  rwa [←hf]at this
 have Y:jI (NN κ arr #[] g)=arr:=rfl;simp only[Y,H];have hf:Pf lt ix arr 0 0:=λj r x y hj _ ex S=>R j r x y hj (by rw[aU]at ex;exact ex) (by rw[aU]at S;exact S)
 refine jJ (lM (kY
  (I:=λx c t=>(x=0/\c=(none,0)/\t=NN κ arr #[] g)∨(1<=x/\c=(none,arr.size)/\∃xs,t=NN κ xs #[(0,arr.size,0)] g/\xs.Perm arr/\DK (ltx lt ix) xs 0 arr.size))
  (Q:=λc t=>c=(none,arr.size)/\∃xs,t=NN κ xs #[(0,arr.size,0)] g/\xs.Perm arr/\DK (ltx lt ix) xs 0 arr.size) ?step ?fin (.inl ⟨rfl,rfl,rfl⟩)) ?post)
 case fin =>
  rintro c t (⟨R,_,_⟩|⟨_,hc,J⟩)
  .lia
  .exact ⟨hc,J⟩
 case step =>
  rintro x c t _ L (⟨rfl,rfl,rfl⟩|⟨L,rfl,J⟩)
  .dsimp only;rw[qh (by lia)]
   simp only[fO,ir];refine jJ (Gd (st:=NN κ arr #[] g) C O rfl (by lia) (by show 0+arr.size<=arr.size;lia) hf λn u n1 n2 b1 M p1=>?_)
   dsimp only;have B:CL arr u 0 (0+n):=b1;show wpS _ _ _ _ _ _ (NN κ u #[] g)
   by_cases z:n<arr.size
   .rw [qd z];refine jJ (JV ?_);refine jJ (Ka (st:=NN κ u #[] g) C (B.mem O) rfl n1 n2 (by show 0+arr.size<=u.size;have:=B.size;lia) M p1 λU b2 X _=>?_)
    rw[qh (by decide)]
    refine jJ (ni ?_);show wpS _ _ _ _ _ _ (NN κ U #[] g);refine jJ (nF (jV (.inr ⟨by lia,by rw[aU],U,?_,b2.pm.trans B.pm,?_⟩)))
    .rfl
    .rw [aU]at X;exact X
   .rw [qh z];have hm:n=arr.size:=by lia
    subst hm;refine jJ (ni ?_);refine jJ (nF (jV (.inr ⟨by lia,by rw[aU],u,?_,B.pm,?_⟩)))
    .rfl
    .rw [aU]at M;exact M
  .dsimp only;rw[qd (ab _)];exact jV ⟨rfl,J⟩
 case post =>
  rintro c t ⟨rfl,xs,rfl,q1,q2⟩;dsimp only;refine jJ (lM (kY (I:=λ_ c l=>l=NN κ xs #[(0,arr.size,0)] g/\c=(none,())) (Q:=λc l=>l=NN κ xs #[(0,arr.size,0)] g/\c=(none,())) ?_ (λ_ _ hh=>hh) ⟨rfl,rfl⟩) ?_)
  .rintro x c l _ _ ⟨rfl,rfl⟩;refine jJ (ni ?_);rw[qd (by show (1:Nat)<=1;exact ab 1)]
   exact jV ⟨rfl,rfl⟩
  .rintro c l ⟨rfl,rfl⟩;exact jV (h xs _ _ q1 q2)
end
section
variable {prog:jC}{w:jF}{A:Around}{E:Ψ}{s:Shared}{κ:jS}{P:jB->Prop}{lt:jB->jB->Bool}
def Uv(C:CM prog w A s κ P lt) {arr:Array jB}{g:Nat}{Q:Unit->SortSt->Prop}(n:∀x,x∈arr->P x) (h2:2<=arr.size) (l:arr.size<64)
  (h:∀xs p g',xs.Perm arr->DK lt xs 0 arr.size->Q () (XT κ xs p g')):wpS (jA prog w) A E s sortRuns' Q (XT κ arr #[] g) :=
 GN (ix:=λ_=>0) C n h2 l (λ_ _ _ _ _ _ _ _ _=>ab 0) λxs p g' r t=>h xs p g' r (Mv t)
end
section
variable {prog:jC}{w:jF}{A:Around}{E:Ψ}{s:Shared}{Pk:jB->Prop}{lt:jB->jB->Bool}{κ:jS}
def CA{a:Addr}{vs:Ξ}{n:Nat}{P:PySem.Fin->Shared->Prop}(z:s.heap.get? a=some (jE "list" vs.toArray n)) (Y:vs.length<64)
  (G:2<=vs.length->∀Q:jS->Shared->Prop,Q κ { s with heap:=vI s.heap a vs }->jy (jA prog w) A (lN vs.toArray) Q E { s with heap:=vI s.heap a vs })
  (C:CM prog w A { s with heap:=vI s.heap a vs } κ Pk lt) (J:∀x,x∈kJ vs->Pk x)
  (h:∀xs:Array jB,xs.Perm (kJ vs)->DK lt xs 0 (kJ vs).size->P (.done (.ret .none)) { s with heap:=mz s.heap a vs (xs.map (·.2)) }) :
  jy (jA prog w) A (Builtin.«list.sort» ⟨[.ref a],[]⟩) P E s:=by
 rw[list_sort_plain];have ha:a<s.heap.objs.size:=ag z;refine jx (nQ z rfl ?_);refine jx (jZ z rfl ?_ (hsz:=by rw[au,jN];lia))
 obtain⟨H,r⟩:∃H,(s.heap.update a (Obj.mapSeq λ_=>#[])).get? a=some (jE "list" #[] H):=⟨_,jW z (λ_=>#[])⟩
 refine jx (mj r rfl ?_);refine jx (mW ?_);refine jx (kK ?_);refine jK ?_;have l:(vI s.heap a vs).get? a=some (jE "list" #[] H):=by
  rw[dD _ _ _ (by rw[lj,bO];exact ao (bQ ha)),dD _ _ _ (by rw[bO];exact ao ha)]
  exact r
 show jy (jA prog w) A _ P E { s with heap:=vI s.heap a vs }
 dsimp only;have M:vs.toArray.size=vs.length:=by simp
 have O:jD=16777216:=jN
 by_cases h2:vs.toArray.size<2
 .rw [qd h2,qd h2];refine jx (jz ?_);rw[StateT.run_pure];refine jx (jz ?_);dsimp only;refine jx (mj l rfl ?_);refine jx (jZ l rfl ?_ (hsz2:=by rw[gQ];show (kJ vs).size<=_;rw[kZ,jN];lia))
  simp only[bne_self_eq_false,bU,if_false];refine jz (h _ (ja.refl _) ?_);intro i j x y _ R S ex L;have:i=j:=by rw[kZ]at S;lia
  subst this;rw[ex]at L;cases L;exact C.refl (J x (aQq ex))
 .rw [qh h2,qh h2];refine jx (G (by lia) _ ?_)
  refine jx (jO (Uv C (arr:=kJ vs) (g:=7) (E:=E)
   (Q:=λ_ t=>∃xs p B,t=XT κ xs p B/\xs.Perm (kJ vs)/\DK lt xs 0 (kJ vs).size) J (by rw[kZ];lia) (by rw[kZ];lia) λxs p B U X=>⟨xs,p,B,rfl,U,X⟩) ?_ λ_ _ e=>e)
  rintro⟨⟨⟩,t⟩ s' ⟨rfl,xs,p,B,rfl,u,I⟩;dsimp only;refine jx (mj l rfl ?_);refine jx (jZ l rfl ?_ (hsz2:=by refine bq (dQ ((gQ ..).trans (u.size_eq.trans (kZ _)))) ?_;lia))
  simp only[bne_self_eq_false,bU,if_false];exact jz (h xs u I)
def Dg{l:Addr}{vs:Ξ}{Q:Ψ}(hl:s.heap.IsList l vs.toArray) (C:vs.length<64)
  (hC:∀t:Shared,(∀b o,s.heap.get? b=some o->t.heap.get? b=some o)->(2<=vs.length->∀Q:jS->Shared->Prop,Q κ t->jy (jA prog w) A.in1.in1 (lN vs.toArray) Q E t)/\CM prog w A.in1.in1 t κ Pk lt)
  (H:∀v∈vs,Pk (v,v))
  (h:∀(out:Ξ) (h':Heap) (I:Nat),out.Perm vs->out.Pairwise (λx y=>lt (y,y) (x,x)=false)->(∀b o,s.heap.get? b=some o->h'.get? b=some o) ->
   h'.get? (s.heap.objs.size+1)=some (jE "list" out.toArray I)->Q (.ref (s.heap.objs.size+1)) { s with heap:=h' }) :
  jy (jA prog w) A (call (.builtin "sorted") [.ref l]) Q E s:=by
 refine Calls.call_function_entry nW nO nR (args_sorted1 _) ?_;unfold Builtin.«sorted»;refine jx (m:=checkCount "sorted" 1 1 _) (jz ?_);refine jx (collect_list hl ?_ (by rw[jN];lia))
 refine jx (kK ?_ (by rw[jN];lia))
 have r:((s.heap.push (jE "list" #[] 0)).update s.heap.objs.size (Obj.mapSeq (· ++ vs.toArray))).objs.size=s.heap.objs.size+1:=by
  rw[bO,lj]
 have n:(((s.heap.push (jE "list" #[] 0)).update s.heap.objs.size (Obj.mapSeq (· ++ vs.toArray))).push (jE "list" vs.toArray 0)).get? (s.heap.objs.size+1)=some (jE "list" vs.toArray 0):=by
  rw[←r];exact aC _ rfl
 show jy _ _ _ _ _ { s with heap:=((s.heap.push (jE "list" #[] 0)).update s.heap.objs.size (Obj.mapSeq (· ++ vs.toArray))).push (jE "list" vs.toArray 0) }
 rw[r];generalize J:((s.heap.push (jE "list" #[] 0)).update s.heap.objs.size (Obj.mapSeq (· ++ vs.toArray))).push (jE "list" vs.toArray 0)=G at n ⊢;have L:∀b o,s.heap.get? b=some o->G.get? b=some o:=λb o e=>by
  rw[←J];refine ae _ ?_;rw[bP _ _ _ _ (ao (ag e))];exact ae _ e
 have B:∀b o,s.heap.get? b=some o->(vI G (s.heap.objs.size+1) vs).get? b=some o:=λb o e=>by
  refine ae _ (ae _ ?_);rw[bP _ _ _ _ (ao (bQ (ag e)))];exact L b o e
 obtain⟨M,O⟩:=hC { s with heap:=vI G (s.heap.objs.size+1) vs } B
 refine jx (jK (kN mX ⟨_,n,rfl⟩ mK (CA (Pk:=Pk) (lt:=lt) n C M O (λx P=>?_) λu R S=>⟨_,rfl,?_⟩) (args_list_sort _)))
 .obtain ⟨m1,m2⟩:=xR P;have:x=(x.1,x.1):=gG rfl m2;rw[this];exact H _ m1
 .obtain ⟨U,X⟩:=DB R S;obtain⟨e1,z⟩:=NM vs n;obtain⟨Y,g1⟩:=Np (u.map (·.2)) z;refine jz ⟨_,rfl,h _ (mz G (s.heap.objs.size+1) vs (u.map (·.2))) Y U X (λb o e=>?_) ?_⟩
  .unfold mz;rw[bP _ _ _ _ (ao (bQ (ag e)))];exact B b o e
  .rw [show (u.map (·.2)).toList.toArray=u.map (·.2) from gR]
   exact g1
def FJ{l:Addr}{vs:Ξ}{Q:Ψ}(hl:s.heap.IsList l vs.toArray) (r:vs.length<64)
  (hC:∀n:Shared,(∀b o,s.heap.get? b=some o->n.heap.get? b=some o)->(2<=vs.length->∀Q:jS->Shared->Prop,Q lZ n->jy (jA prog w) A.in1.in1 (lN vs.toArray) Q E n)/\CM prog w A.in1.in1 n lZ Pk lt)
  (t:∀v∈vs,Pk (v,v))
  (h:∀(out:Ξ) (h':Heap) (u:Nat),out.Perm vs->out.Pairwise (λx y=>lt (y,y) (x,x)=false)->(∀b o,s.heap.get? b=some o->h'.get? b=some o) ->
   h'.get? (s.heap.objs.size+1)=some (jE "list" out.toArray u)->Q (.ref (s.heap.objs.size+1)) { s with heap:=h' }) :
  jy (jA prog w) A (call (.builtin "sorted") [.ref l]) Q E s :=
 Dg hl r hC t h
end
end MrS
namespace Mr
open PySem PySem.Spec PyProof.Rows L2
section
open HT
theorem Ao:∀xs ys:Ϝ,qD xs ys=true->qD ys xs=false
 | [],[],_=>rfl
 | [],_::_,_=>rfl
 |_::_,[],h=>by cases h
 |x::xs,y::ys,h=>by
  rw[vq]at h ⊢
  by_cases e:x=y
  .rw [qd e]at h;rw[qd e.symm];exact Ao xs ys h
  .rw [qh e]at h;rw[qh (Ne.symm e)];have l:x<y:=of_decide_eq_true h;exact decide_eq_false (by lia)
theorem yK:∀xs ys l:Ϝ,qD ys xs=false->qD l ys=false->qD l xs=false
 | [],[],[],_,_=>rfl
 | [],[],_::_,_,h=>by exact h
 | [],_::_,[],_,h=>by cases h
 | [],_::_,_::_,_,_=>rfl
 |_::_,[],_,h,_=>by cases h
 |_::_,_::_,[],_,h=>by cases h
 |x::xs,y::ys,z::l,h1,h2=>by
  rw[vq]at h1 h2 ⊢
  by_cases r:y=x
  .rw [qd r]at h1;subst r
   by_cases n:z=y
   .rw [qd n]at h2 ⊢;exact yK xs ys l h1 h2
   .rw [qh n]at h2 ⊢;exact h2
  .rw [qh r]at h1;have s:¬ y<x:=of_decide_eq_false h1
   by_cases n:z=y
   .rw [qh (by lia)]
    exact decide_eq_false (by lia)
   .rw [qh n]at h2;have t:¬ z<y:=of_decide_eq_false h2;rw[qh (by lia)]
    exact decide_eq_false (by lia)
theorem Cp:∀xs ys:Ϝ,qD xs ys=false->qD ys xs=false->xs=ys
 | [],[],_,_=>rfl
 | [],_::_,h,_=>by cases h
 |_::_,[],_,h=>by cases h
 |x::xs,y::ys,h1,h2=>by
  rw[vq]at h1 h2
  by_cases e:x=y
  .rw [qd e]at h1;rw[qd e.symm]at h2;rw[e,Cp xs ys h1 h2]
  .rw [qh e]at h1;rw[qh (Ne.symm e)]at h2;have l:¬ x<y:=of_decide_eq_false h1;have n:¬ y<x:=of_decide_eq_false h2;lia
def Vr(x y:Ϝ):Bool:=!HT.qD y x
def OD(x y z:Ϝ) (h1:Vr x y=true) (h2:Vr y z=true):Vr x z=true:=by
 unfold Vr at *;simp only[fh]at *;exact yK x y z h1 h2
def OP(x y:Ϝ):(Vr x y || Vr y x)=true:=by
 unfold Vr;cases h:HT.qD y x with
 |false=>rfl
 |true=>rw[Ao y x h];rfl
def Do(rs:Λ):Λ:=rs.mergeSort Vr
def Ci(rs:Λ):(Do rs).Perm rs:=fX _ _
def vz(rs:Λ):(Do rs).Pairwise (λx y=>HT.qD y x=false):=by
 refine(fe OD OP rs).imp λ{a b} h=>?_
 unfold Vr at h;simpa using h
def Gn:∀{xs ys:Λ},xs.Perm ys->xs.Pairwise (λx y=>HT.qD y x=false)->ys.Pairwise (λx y=>HT.qD y x=false)->xs=ys
 |xs,ys,l,h1,h2=>cM.eq_of_pairwise (λa b _ _ n r=>(Cp b a n r).symm) h1 h2 l
def Bx{xs rs:Λ}(l:xs.Perm rs) (h:xs.Pairwise (λx y=>HT.qD y x=false)):xs=Do rs :=
 Gn (l.trans (Ci rs).symm) h (vz rs)
def qj(ns:Ϝ):Ϝ:=ns.mergeSort (λx y=>decide (x<=y))
def qH(ns:Ϝ):(qj ns).Perm ns:=fX _ _
def xA(ns:Ϝ):(qj ns).Pairwise (·<=·):=by
 refine(fe (le:=λx y=>decide (x<=y)) (λa b c h1 h2=>?_) (λa b=>?_) ns).imp λ{a b} h=>by simpa using h
 .simp only [decide_eq_true_eq]at *;lia
 .simp only [iV,decide_eq_true_eq];lia
def Io{xs ns:Ϝ}(l:xs.Perm ns) (h:xs.Pairwise (·<=·)):xs=qj ns :=
 cM.eq_of_pairwise (λa b _ _ n r=>Int.le_antisymm n r) h (xA ns) (l.trans (qH ns).symm)
end
def sL(H:Hp) (ps:Δ) (rs:Λ):Prop:=ps.map H=rs.map (λr=>some (HO.lst (r.map V.int)))
def sL.nil{H:Hp}:sL H [] []:=rfl
theorem sL.length{H:Hp}{ps:Δ}{rs:Λ}(h:sL H ps rs):ps.length=rs.length:=by
 have:=congrArg aZ h;simpa using this
def sL.cons_iff{H:Hp}{ps:Δ}{rs:Λ}{p:Addr}{r:Ϝ}:sL H (p::ps) (r::rs)↔H p=some (.lst (r.map V.int))/\sL H ps rs:=by
 unfold sL;rw[ax,ax,iA.injEq]
def sL.get{H:Hp}{ps:Δ}{rs:Λ}(h:sL H ps rs) {i:Nat}{p:Addr}(e:ps[i]?=some p):∃r,rs[i]?=some r/\H p=some (.lst (r.map V.int)):=by
 have:=congrArg (λl=>l[i]?) h
 simp only[gMq,e,dg]at this;cases n:rs[i]? with
 |none=>rw[n]at this;cases this
 |some r=>rw[n]at this;exact⟨r,rfl,aN.inj this⟩
def sL.mem{H:Hp}{ps:Δ}{rs:Λ}(h:sL H ps rs) {p:Addr}(l:p∈ps):∃r,r∈rs/\H p=some (.lst (r.map V.int)):=by
 obtain⟨i,n⟩:=List.getElem?_of_mem l;obtain⟨r,s,e⟩:=h.get n;exact⟨r,mGq s,e⟩
def sL.keep{H l:Hp}{ps:Δ}{rs:Λ}(h:sL H ps rs) (k:∀p∈ps,l p=H p):sL l ps rs:=by
 unfold sL at *;rw[←h];exact mCq k
def sL.same{H l:Hp}{ps:Δ}{rs:Λ}(h:sL H ps rs) (s:pO H l):sL l ps rs :=
 h.keep λp n=>by
  obtain⟨r,_,e⟩:=h.mem n;rw[s _ _ e,e]
def toI:V->Int
 | .int i=>i
 |_=>0
def Bb(H:Hp) (p:Addr):Ϝ:=match H p with
 |some (.lst xs)=>xs.map toI
 |_=>[]
def KU{H:Hp}{p:Addr}{r:Ϝ}(h:H p=some (.lst (r.map V.int))):Bb H p=r:=by
 unfold Bb;rw[h];simp only[mPq];exact List.map_id'' (λ_=>rfl) r
def sL.fn{H:Hp}{ps:Δ}{rs:Λ}(h:sL H ps rs):rs=ps.map (Bb H):=by
 induction rs generalizing ps with
 |nil =>
  have:=h.length;have:ps=[]:=aY.mp this;rw[this];rfl
 |cons r rs l =>
  cases ps with
  |nil=>have:=h.length;simp at this
  |cons p ps =>
   obtain⟨h1,h2⟩:=sL.cons_iff.mp h;rw[ax,←l h2,KU h1]
def sL.fn_row{H:Hp}{ps:Δ}{rs:Λ}(h:sL H ps rs) {p:Addr}(l:p∈ps):H p=some (.lst ((Bb H p).map V.int)):=by
 obtain⟨r,_,e⟩:=h.mem l;rw[KU e];exact e
def sL.of_fn{H:Hp}{ps:Δ}(h:∀p∈ps,H p=some (.lst ((Bb H p).map V.int))):sL H ps (ps.map (Bb H)):=by
 unfold sL;rw[mPq];exact mCq h
def sL.perm{H:Hp}{ps l:Δ}{rs:Λ}(h:sL H ps rs) (r:l.Perm ps):∃n,sL H l n/\n.Perm rs/\n=l.map (Bb H) :=
 ⟨_,sL.of_fn λp m=>h.fn_row (r.mem_iff.mp m),by rw[h.fn];exact r.map _,rfl⟩
def sL.free{H l:Hp}{ps:Δ}{rs:Λ}(h:sL l ps rs) {q:Addr}(n:l q=none):q∉ps:=λm=>by
 obtain⟨r,_,e⟩:=h.mem m;rw[n]at e;cases e
theorem uj:∀{ps:Δ}{vs:Ξ},pS (ps.map V.ref) vs->vs=ps.map aj
 | [],vs,r=>by cases r;rfl
 |p::ps,vs,r=>by
  rw[ax]at r;cases r with
  |cons h1 h2 =>
   have e:_=aj p:=h1;rw[e,uj h2];rfl
theorem vn:∀(ps:Δ),pS (ps.map V.ref) (ps.map aj)
 | []=>.nil
 |p::ps=>.cons rfl (vn ps)
def qU:Value->Addr
 | .ref p=>p
 |_=>0
def intOf:Value->Int
 | .int i _=>i
 |_=>0
def HF{vs:Ξ}{ns:Ϝ}(h:jR vs ns):ns=vs.map intOf/\∀v∈vs,∃a t,v = .int a t:=by
 induction h with
 |nil=>exact⟨rfl,λv l=>by cases l⟩
 |cons a t _ n =>
  refine⟨by rw[ax,←n.1];rfl,λv l=>?_⟩
  rcases ah.mp l with rfl|l
  .exact ⟨a,t,rfl⟩
  .exact n.2 v l
theorem vals_ints:∀{vs:Ξ},(∀v∈vs,∃a t,v = .int a t)->pS ((vs.map intOf).map V.int) vs
 | [],_=>.nil
 |v::vs,h=>by
  obtain⟨a,t,rfl⟩:=h _ (ai ..);exact .cons ⟨t,rfl⟩ (vals_ints λv l=>h v (mCo _ l))
def Uj{M:Model}{A:Around}{E:Ψ}{s:Shared}{vs:Ξ}{T:String}{Q:jS->Shared->Prop}(h2:2<=vs.length) (r:∀v∈vs,W.Looks M s.heap (typeOf v) (.type T)) (l:(gu T != gu "tuple")=true) (n:(gu T == gu T)=true) (h:Q lZ s) :
  jy M A (lN vs.toArray) Q E s:=W.kas_kind h2 r l n h
def ltI(x y:jB):Bool:=match x.1,y.1 with
 | .int a _,.int b _=>decide (a<b)
 |_,_=>false
def YI(prog:jC) (w:jF) (A:Around) (s:Shared):MrS.CM prog w A s lZ (λx=>∃a t,x.1 = .int a t) ltI where
 ask:=by
  rintro⟨_,x⟩ ⟨_,y⟩ ⟨a,t,l⟩ ⟨b,u,n⟩ E Q q;dsimp only at l n;subst l n;rw[mY];exact oneLt_int q
 asym:=by
  rintro⟨_,x⟩ ⟨_,y⟩ ⟨a,t,l⟩ ⟨b,u,n⟩ h;dsimp only at l n;subst l n;have h':a<b:=of_decide_eq_true h;exact decide_eq_false (by lia)
 trans:=by
  rintro⟨_,x⟩ ⟨_,y⟩ ⟨_,z⟩ ⟨a,t,l⟩ ⟨b,u,n⟩ ⟨c,v,r⟩ h1 h2;dsimp only at l n r;subst l n r;have B:¬ b<a:=of_decide_eq_false h1;have C:¬ c<b:=of_decide_eq_false h2;exact decide_eq_false (by lia)
def ltR(r:Addr->Ϝ) (x y:jB):Bool:=match x.1,y.1 with
 | .ref p,.ref q=>HT.qD (r p) (r q)
 |_,_=>false
def abd{prog:jC}{w:jF}{A:Around}{s:Shared}{ps:Δ}{r:Addr->Ϝ}(P:A.units<jT)
  (h:∀p∈ps,∃vs:Ξ,PlainL s.heap p vs.toArray/\jR vs (r p)):MrS.CM prog w A s lZ (λx=>∃p,x.1 = .ref p/\p∈ps) (ltR r) where
 ask:=by
  rintro⟨_,x⟩ ⟨_,y⟩ ⟨p,l,R⟩ ⟨q,t,S⟩ E Q k;dsimp only at l t;subst l t;obtain⟨vs,⟨o,n,H,L,B,hd⟩,U⟩:=h p R;obtain⟨ws,⟨X,Y,I,C,u,G⟩,hj⟩:=h q S;obtain⟨cls,dd,data,sl⟩:=o;obtain⟨M,dd2,data2,J⟩:=X;simp only at L B hd C u G;subst L B hd C u G;rw[mY,oneLt'_eq];simp only[if_true];refine jx (wpAny_cRoomFor P ?_);refine jx (wpAny_callSpecialIfBound?_slot ⟨_,H,rfl⟩ F.slot_list_lt (kP F.slot_list_lt ⟨_,H,rfl⟩ F.entry_list_lt (F.args_list_lt_2 _ _)
   (HT.Ib p q vs.toArray ws.toArray n Y none none sl J (r p) (r q) (by simpa using U) (by simpa using hj)) ⟨H,I,?_⟩))
  exact jY k
 asym:=by
  rintro⟨_,x⟩ ⟨_,y⟩ ⟨a,l,_⟩ ⟨b,t,_⟩ h;dsimp only at l t;subst l t;exact Ao _ _ h
 trans:=by
  rintro⟨_,x⟩ ⟨_,y⟩ ⟨_,z⟩ ⟨a,l,_⟩ ⟨b,t,_⟩ ⟨c,O,_⟩ h1 h2;dsimp only at l t O;subst l t O;exact yK _ _ _ h1 h2
section
variable {X:Cx}
def Cf:yw X (.builtin "sorted") (λxs H Q=>∃(a:Addr) (ns:Ϝ),xs=[.ref a]/\ns.length<64/\rN X.K H a (ns.map V.int)/\∀p,H p=none->Q (.ref p) (qP H p (.lst ((qj ns).map V.int)))):=by
 intro Y s σ H xs us Q I r h;obtain⟨a,ns,rfl,hf,hS,q⟩:=h;obtain⟨u,rfl,G⟩:=xo r;cases G;obtain⟨J,hl,l,L⟩:=JT I hS;obtain⟨M,z⟩:=HF l;have B:=l.length;refine MrS.FJ (Pk:=λx=>∃a t,x.1 = .int a t) (lt:=ltI) hl (by lia) (λs' _=>⟨λh2 Q q=>?_,YI _ _ _ _⟩) (λv m=>z v m) λout C O E P R S=>?_
 .match J,l,h2 with
  | [],_,h2=>simp at h2
  | [_],_,h2=>simp at h2
  |v₁::v₂::sA,l,_ =>
   rw[keyKind_ints l];exact jz q
 .have n:∀v∈out,∃a t,v = .int a t:=λv m=>z v (E.mem_iff.mp m)
  have e:out.map intOf=qj ns:=by
   refine Io (by rw[M];exact E.map _) ?_
   rw[aF];refine P.imp_of_mem λ{x y} mx my h=>?_
   obtain⟨a,t,rfl⟩:=n x mx;obtain⟨b,u,rfl⟩:=n y my;have C:¬ b<a:=of_decide_eq_false h;show a<=b;lia
  have U:H (s.heap.objs.size+1)=none:=I.hok.fresh (bz _);refine⟨.ref (s.heap.objs.size+1),_,I.laid (t':=s.toks) R (bz _) (show qW X.prog X.w _ C _ (.lst ((qj ns).map V.int)) from ⟨?_,out,O,?_,S⟩),rfl,q _ U⟩
  .rw [lMq,(qH ns).length_eq];exact L
  .rw [←e];exact vals_ints n
def Im(hu:X.A.units+64<jT):yw X (.builtin "sorted") (λxs H Q=>∃(a:Addr) (ps:Δ) (rs:Λ),xs=[.ref a]/\ps.length<64/\rN X.K H a (ps.map V.ref)/\sL H ps rs /\
  ∀p z,H p=none->z.Perm ps->sL (qP H p (.lst (z.map V.ref))) z (Do rs)->Q (.ref p) (qP H p (.lst (z.map V.ref)))):=by
 intro og s σ H xs us Q I r h;obtain⟨a,ps,rs,rfl,hf,hS,U,q⟩:=h;obtain⟨u,rfl,ru⟩:=xo r;cases ru;obtain⟨G,O,hl,hz⟩:=I.list hS;have ei:=uj O;subst ei;have J:∀p∈ps,∃B:Ξ,PlainL s.heap p B.toArray/\jR B (Bb H p):=λp t=>by
  obtain⟨G,O,P,_⟩:=I.list (rN.of (U.fn_row t));exact⟨G,P,xi O⟩
 have y:∀(C:Shared),(∀b o,s.heap.get? b=some o->C.heap.get? b=some o)->∀p∈ps,∃B:Ξ,PlainL C.heap p B.toArray/\jR B (Bb H p):=λC k p t=>by
  obtain⟨B,⟨o,n,L,sA⟩,hi⟩:=J p t;exact⟨B,⟨o,n,k _ _ L,sA⟩,hi⟩
 refine MrS.FJ (Pk:=λx=>∃p,x.1 = .ref p/\p∈ps) (lt:=ltR (Bb H)) hl.isList (by simpa using hf) (λC k=>⟨λh2 Q q=>?_,abd (by show X.A.units+1+1<jT;lia) (y C k)⟩) (λv m=>?_) λout h' n' Y o2 o3 o4=>?_
 .refine Uj (T := "list") h2 (λv R=>?_) (by rfl) (by rfl) q
  obtain⟨p,t,rfl⟩:=mMq.mp R;obtain⟨B,P,_⟩:=y C k p t;intro A Q E s2 k2 q2;obtain⟨o,L,hc,_⟩:=P.isList;exact ki (T := "list") ⟨o,k2 _ _ L,hc⟩ q2
 .obtain ⟨p,t,rfl⟩:=mMq.mp m;exact⟨p,rfl,t⟩
 .have L:∀v∈out,∃p∈ps,v = .ref p:=λv m=>by
   obtain⟨p,t,rfl⟩:=mMq.mp (Y.mem_iff.mp m);exact⟨p,t,rfl⟩
  have S:out=(out.map qU).map aj:=by
   rw[mPq];have e:=mCq (l:=out) (f:=id) (g:=aj∘qU) λv R=>by
    obtain⟨p,_,rfl⟩:=L v R;rfl
   rw[←e,dn]
  have M:(out.map qU).Perm ps:=by
   have:=Y.map qU;rw[mPq,show qU∘aj=id from rfl,dn]at this
   exact this
  have t:H (s.heap.objs.size+1)=none:=I.hok.fresh (bz _);generalize out.map qU=z at S M;obtain⟨ts,e1,e2,e3⟩:=U.perm M;have es:ts=Do rs:=by
   refine Bx e2 ?_;rw[e3,aF];rw[S,aF]at o2;exact o2
  refine⟨.ref (s.heap.objs.size+1),_,I.laid (t':=s.toks) o3 (bz _) (show qW X.prog X.w _ h' _ (.lst (z.map V.ref)) from ⟨?_,out,n',?_,o4⟩),rfl,q _ z t M (by rw[←es];exact e1.same (vf t))⟩
  .rw [lMq,M.length_eq];simpa using hz
  .rw [S];exact vn z
def xZ(r:Ϝ):PyData:=.list (r.map PyData.int)
def BZ(rs:Λ):PyData:=.list (rs.map xZ)
theorem DM:∀rs:Λ,PyData.canLayAll0 (rs.map xZ)=true
 | []=>by simp[PyData.canLayAll0]
 |r::rs=>by simp[PyData.canLayAll0,xZ,PyData.canLay0,W.canLayAll0_ints r,DM rs]
theorem EU:∀rs:Λ,PyData.depthAll (rs.map xZ)<=3
 | []=>by simp[PyData.depthAll]
 |r::rs=>by
  have h1:=EU rs;have h2:=W.depthAll_ints r;simp only[ax,PyData.depthAll,xZ,PyData.depth];lia
def DE(rs:Λ):SeqAt.shaped (BZ rs)=true:=by
 have h1:=EU rs;have h2:PyData.depth (BZ rs)<=64:=by simp only[BZ,PyData.depth];lia
 show (PyData.canLay0 (BZ rs) && decide (PyData.depth (BZ rs)<=64))=true;rw[gv];exact⟨by simp only[BZ,PyData.canLay0];exact DM rs,decide_eq_true h2⟩
theorem Fu:∀rs l:Λ,SeqAt.noMixAll (rs.map xZ) (l.map xZ)=true
 | [],[]=>by simp[SeqAt.noMixAll]
 | [],_::_=>by simp[SeqAt.noMixAll]
 |_::_,[]=>by simp[SeqAt.noMixAll]
 |r::rs,t::l=>by simp[SeqAt.noMixAll,xZ,SeqAt.noMix,W.noMix_ints r t,Fu rs l]
theorem GA:∀rs l:Λ,PySem.Spec.sameAll (rs.map xZ) (l.map xZ)=decide (rs=l)
 | [],[]=>by simp[PySem.Spec.sameAll]
 | [],_::_=>by simp[PySem.Spec.sameAll]
 |_::_,[]=>by simp[PySem.Spec.sameAll]
 |r::rs,t::l=>by
  simp only[ax,PySem.Spec.sameAll,xZ,PySem.Spec.same,W.same_ints r t];rw[GA rs l]
  by_cases h:r=t <;> simp[h]
end
end Mr
namespace Mr
open PySem L2
structure Bt (mg:Str->Υ):Prop where
 len:mg "len" = none
 min:mg "min" = none
 max:mg "max" = none
 abs:mg "abs" = none
 all:mg "all" = none
 sorted:mg "sorted" = none
 isi:mg "isinstance" = none
 list:mg "list" = none
 int:mg "int" = none
 bool:mg "bool" = none
 str:mg "str" = none
 dict:mg "dict" = none
 zip:mg "zip" = none
 enum:mg "enumerate" = none
 range:mg "range" = none
 reversed:mg "reversed" = none
structure Fn (P:jC) (w:jF) (K:Ζ) (mg:Str->Υ) (base:Heap) (k:Nat) (x:Str) (st:Stmt) (ps:List Str) (sp:Sp) (f:Addr) (fd:jQ):Prop where
 D:ye K mg x st ps f fd
 ok:yk P w K mg base Tv k f fd ps sp
def sZ.units65{k:Nat}{A:Around}(r:sZ k A):A.units+65<jT:=by have:=r.un;lia
section
variable {X:Cx}{k:Nat}{f:Addr}{fd:jQ}{ps:List Str}{sp:Sp}{x:Str}{p pos:Pos}{e:Expr}{es:List Expr}{t:TA}{st:Stmt}
def Y8(G:Fn X.prog X.w X.K X.mg X.base k x st ps sp f fd) (hr:sZ k X.A) (ha:PA X (e::es) t) (r:Gl X x:=by rfl) (l:(x == ("__debug__" : Str))=false:=by decide)
  (s:jH (e::es) X.env=(false,eval e X.env)::jH es X.env:=by rfl) (n:(kx pos (jH es X.env)).any (·.1)=false:=by rfl) :
  PE X (.Call (.Name x p) (e::es) [] pos) (J6 sp [] E0 t):=Uc G.ok hr r G.D.m G.D.F.kp G.D.b .nil Y0 ha l s n
end
section
variable (K:Ζ)
def MZ:Sp:=λvs H Q _=>∃(a:Addr) (ns:Ϝ),vs=[.ref a]/\rN K H a (ns.map V.int)/\ns.length<=63/\∀l,Q (.bl true) l
end
def qv{α:Type}{l:List α}{i:Nat}{x:α}(h:l[i]?=some x):l.take (i+1)=l.take i++[x]:=by
 rw[eA,h];rfl
end Mr
namespace Xe
open PySem PySem.Spec PySem.W PyProof.Rows L2 Mr
abbrev lk0(K:Frag) (C:Addr):Bool:=findIn K (.ref C) "__setattr__" == some (some (.builtin "object.__setattr__")) && findIn K (.ref C) "__getattribute__" == some (some (.builtin "BaseException.__getattribute__")) &&
 findIn K (.ref C) "__getattr__" == some none && findIn K (.ref C) "__class__" == some (some (.builtin "object.__class__"))
def Xv(K:Frag) (c:Str) (C:Addr) (l:Ξ):Bool:=match K.lookup C with
 |some ⟨.type "type", _,.cls cd,sl⟩=>(match sl.toList with
  | [_,_,_,_,some (.builtin n),_]=>cd.name == c && cd.mro == .ref C::l && n == "ValueError.__new__" && !cd.hasDel && cd.hasDict && tailIn K VEm l
  |_=>false)
 |_=>false
structure Ref (K:Frag) (c:Str) (C M:Addr):Prop where
 nm:nsIn K jG c=some (some (.ref C))
 nmM:nsIn K jG "MapError" = some (some (.ref M))
 xc:Xv K c C (.ref M::VEm)=true
 xm:Xv K "MapError" M VEm=true
 lk:lk0 K C=true
def IsC(K:Frag) (c:Str) (C:Addr):Prop:=nsIn K jG c=some (some (.ref C))/\((∃M,Ref K c C M)∨(c = "MapError" /\ Xv K "MapError" C VEm=true))
def ExA(e C:Addr) (od:Option Addr):HO:=.ext λh=>∃o vs,h.get? e=some o/\o.cls = .ref C/\o.dict=od/\o.data = .fields vs
section
variable {X:Cx}
def Wu{kvs:List (pE×V)}{vs:List (pE×Value)}(r:KV kvs vs):∀{i:Nat}{p:pE×V},kvs[i]?=some p->∃u,vs[i]?=some (p.1,u)/\qk p.2 u:=by
 induction r with
 |nil=>intro i p h;simp at h
 | @cons a b _ _ r t l =>
  intro i p h;cases i with
  |zero=>simp at h;subst h;exact⟨b.2,by simp[r.1],r.2⟩
  |succ i=>obtain⟨u,n,g2⟩:=l (by simpa using h);exact⟨u,by simpa using n,g2⟩
end
end Xe
namespace Mr
open PySem PyProof.Rows L2
section
variable {X:Cx}
def Rw(_ j:Int):Prop:=0<j/\j.natAbs.log2<9000
def RC:Gq X (lh .FloorDiv) (rI Rw λi j=>.int (i / j)):=ZM λi j _ _ _ _ _ l q=>by
 have h1:(0:Int)<j:=l.1;exact floordiv_int (by lia) (by rw[gj i (by lia)];exact q) (.inl (PyProof.noPylong_of_log2 l.2))
end
end Mr
namespace MrS
open PySem PySem.W PyProof.Rows
section
variable {prog:jC}{w:jF}{A:Around}{E:Ψ}{s:Shared}{Pk:jB->Prop}{lt:jB->jB->Bool}{T:String}{r d:Addr}{n:Nat}{P:Nat->Value->Prop}{OK:Heap->Prop}
def KN{Q:Ξ->Shared->Prop}(K:KdlSrc prog w T r d n P OK) (hh:A.handled=none) (hok:OK s.heap) (hn:n<=jD)
  (h:∀h' tk (l:Ω),(∀b o,s.heap.get? b=some o->h'.get? b=some o)->s.heap.objs.size<h'.objs.size->ItemsOf P l n->Q l.toList { s with heap:=h',toks:=tk }) :
  jy (jA prog w) A (collect (.ref r)) Q E s:=by
 unfold collect;refine jx (wpAny_runValue (jL entry_proto_collect' ?_));show jy _ _ (do again (.builtin "list.__iadd__" ⟨[←newList [],.ref r],[]⟩)) _ _ s
 refine jx (kK (jz ⟨Code.quiet_builtin _ (by decide +kernel),jL entry_list_iadd' ?_⟩))
 show jy _ _ (Builtin.List.listExtendWith (.ref s.heap.objs.size) (.ref r) (.ref s.heap.objs.size)) _ _ { s with heap:=s.heap.push (jE "list" #[] 0) }
 have t:=K.there _ hok;have u:(s.heap.push (jE "list" #[] 0)).get? s.heap.objs.size=some (jE "list" #[] 0):=aC _ rfl;refine kdl_extend (A:=A) (R:=λr y=>match r with
   | .ok (.ret v)=>jy (jA prog w) A (match v with
    | .ref a=>do
     let o ←load a
     match o.data with
     | .seq x _=>pure x.toList
     |_=>nV "internal:collect"
    |_=>nV "internal:collect") Q E y
   | .ok _=>False
   | .error e=>E e y) (s:={ s with heap:=s.heap.push (jE "list" #[] 0) }) K hh (K.keep _ _ hok λb _ o e=>ae _ e) s.heap.objs.size (aO t.1) (aO t.2) (.ref s.heap.objs.size) 0 u (λh' tk l c hk hS z=>?_) hn
 show jy (jA prog w) A (do
   let o ←load s.heap.objs.size
   match o.data with
   | .seq x _=>pure x.toList
   |_=>nV "internal:collect") Q E { s with heap:=h',toks:=tk }
 refine jx (wpAny_load hS ?_);exact jz (h h' tk l (λb o e=>hk b o (ao (ag e)) (ae _ e)) (ag hS) z)
def KQ{Q:Ψ}(K:KdlSrc prog w T r d n P OK) (hh:A.handled=none) (hok:OK s.heap) (hn:n<64)
  (hC:∀(vs:Ξ),vs.length=n->(∀j v,vs[j]?=some v->P j v)->∀J:Shared,(2<=vs.length->∀Q:jS->Shared->Prop,Q lZ J->jy (jA prog w) A.in1.in1 (lN vs.toArray) Q E J)/\CM prog w A.in1.in1 J lZ Pk lt/\∀v∈vs,Pk (v,v))
  (h:∀(vs out:Ξ) (h':Heap) (p:Addr) (tk S:Nat),vs.length=n->(∀j v,vs[j]?=some v->P j v)->out.Perm vs->out.Pairwise (λx y=>lt (y,y) (x,x)=false)->(∀b o,s.heap.get? b=some o->h'.get? b=some o)->s.heap.objs.size<=p ->
   h'.get? p=some (jE "list" out.toArray S)->Q (.ref p) { s with heap:=h',toks:=tk }) :
  jy (jA prog w) A (call (.builtin "sorted") [.ref r]) Q E s:=by
 refine Calls.call_function_entry nW nO nR (args_sorted1 _) ?_;unfold Builtin.«sorted»;refine jx (m:=checkCount "sorted" 1 1 _) (jz ?_);refine jx (KN K hh hok (by rw[jN];lia) λu tk t C z M=>?_)
 have hl:t.toList.length=n:=by rw[cH];exact M.1
 have hP:∀j v,t.toList[j]?=some v->P j v:=λj v e=>M.2 j v (by rw[←ee];exact e)
 have O:t.toList.length<64:=by rw[hl];exact hn
 generalize t.toList=vs at hl hP O;refine jx (kK ?_ (by rw[jN];lia))
 have l:(u.push (jE "list" vs.toArray 0)).get? u.objs.size=some (jE "list" vs.toArray 0):=aC _ rfl;show jy _ _ _ _ _ { s with heap:=u.push (jE "list" vs.toArray 0),toks:=tk }
 have H:s.heap.objs.size<=u.objs.size:=bH z;have R:∀b o,s.heap.get? b=some o->(u.push (jE "list" vs.toArray 0)).get? b=some o:=λb o e=>ae _ (C b o e)
 have B:∀b o,s.heap.get? b=some o->b≠u.objs.size:=λb o e=>ao (ag (C b o e))
 generalize u.push (jE "list" vs.toArray 0)=G at l R ⊢
 clear z
 generalize u.objs.size=p at l H B ⊢;have U:∀b o,s.heap.get? b=some o->(vI G p vs).get? b=some o:=λb o e=>by
  refine ae _ (ae _ ?_);rw[bP _ _ _ _ (B b o e)];exact R b o e
 obtain⟨X,Y,q3⟩:=hC vs hl hP { s with heap:=vI G p vs,toks:=tk }
 refine jx (jK (kN mX ⟨_,l,rfl⟩ mK (CA (s:={ s with heap:=G,toks:=tk }) (Pk:=Pk) (lt:=lt) l O X Y (λx hx=>?_) λI a1 a2=>⟨_,rfl,?_⟩) (args_list_sort _)))
 .obtain ⟨m1,m2⟩:=xR hx;have:x=(x.1,x.1):=gG rfl m2;rw[this];exact q3 _ m1
 .obtain ⟨v1,v2⟩:=DB a1 a2;obtain⟨e1,L⟩:=NM vs l;obtain⟨n1,g1⟩:=Np (I.map (·.2)) L;refine jz ⟨_,rfl,h vs _ (mz G p vs (I.map (·.2))) p tk n1 hl hP v1 v2 (λb o e=>?_) H ?_⟩
  .unfold mz;rw[bP _ _ _ _ (B b o e)];exact U b o e
  .rw [show (I.map (·.2)).toList.toArray=I.map (·.2) from gR]
   exact g1
end
end MrS
namespace Mr
open PySem PySem.W PySem.Spec PyProof.Rows L2
section
variable {X:Cx}
theorem N0:∀{us:Ξ}{ns:Ϝ},us.length=ns.length->(∀(j:Nat) (v:Value) (n:Int),us[j]?=some v->ns[j]?=some n->∃t,v=gM n t)->jR us ns
 | [],[],_,_=>.nil
 | [],_::_,h,_=>by simp at h
 |_::_,[],h,_=>by simp at h
 |u::us,n::ns,h,g=>by
  obtain⟨t,rfl⟩:=g 0 u n rfl rfl;exact .cons n t (N0 (by simpa using h) λj v m l r=>g (j+1) v m (by simpa using l) (by simpa using r))
def U3:∀{kvs:List (pE×V)}{ws:List (pE×Value)},KV kvs ws->kvs.map (·.1)=ws.map (·.1):=λ{kvs ws} r=>by
 induction r with
 |nil=>rfl
 |cons a b l=>rw[ax,ax,l,a.1]
def yX(S:X.calm=true):yw X (.builtin "sorted") (λxs H Q=>∃(a:Addr) (kvs:List (pE×V)) (ns:Ϝ),xs=[.ref a]/\ns.length<64/\H a=some (.dK kvs)/\kvs.map (·.1)=ns.map ar/\∀p,H p=none->Q (.ref p) (qP H p (.lst ((qj ns).map V.int)))):=by
 intro og s σ H xs l Q I r h;obtain⟨a,kvs,ns,rfl,hf,ha,hk,q⟩:=h;obtain⟨u,rfl,U⟩:=xo r;cases U;obtain⟨Y,sa,B,kv,d⟩:=(show qW X.prog X.w H s.heap a (.dK kvs) from I.hok a _ ha)
 obtain⟨ep,da⟩:=d.dictAt;have hl:=Paired.length kv;have n:ns.length=B.length:=by
  have:=congrArg aZ hk;rw[lMq,lMq]at this;rw[←this,hl]
 have E:B.map (·.1)=ns.map ar:=by rw[←U3 kv,hk]
 have hI:∀l:Ξ,l.length=B.length->(∀(j:Nat) (v:Value),l[j]?=some v->∃k x,B[j]?=some (k,x)/\(qR X.prog X.w).is k v=true)->jR l ns:=λl h1 h2=>N0 (by rw[h1,n]) λj v m e1 e2=>by
  obtain⟨k,x,g1,g2⟩:=h2 j v e1;have M:(B.map (·.1))[j]?=some k:=by rw[gMq,g1];rfl
  rw[E,gMq,e2]at M;have e4:(ar m:pE)=k:=by simpa using M
  subst e4;rcases qV (k:=ar m) (v:=v) g2 with ⟨i,t,G,e6⟩|⟨z,t,G,_⟩
  .cases G;exact⟨t,e6⟩
  .cases G
 refine MrS.KQ (kdl_dict (knd:=qR X.prog X.w) (d:=a) (kvs:=B) (ep:=ep) sa) (I.ok.hd S) da (by lia) (Pk:=λx:jB=>∃a t,x.1=gM a t) (lt:=ltI) (λl h1 h2 s'=>⟨λC Q q=>?_,YI _ _ _ _,λv m=>(HF (hI l h1 h2)).2 v m⟩) λl out O p tk n' h1 h2 P o2 o3 R o4=>?_
 .have J:=hI l h1 h2
  match l,J,C with
  | [],_,C=>simp at C
  | [_],_,C=>simp at C
  |v₁::v₂::sA,J,_ =>
   rw[keyKind_ints J];exact jz q
 .obtain ⟨en,hv⟩:=HF (hI l h1 h2);have L:∀v∈out,∃a t,v = .int a t:=λv m=>hv v (P.mem_iff.mp m)
  have e:out.map intOf=qj ns:=by
   refine Io (by rw[en];exact P.map _) ?_
   rw[aF];refine o2.imp_of_mem λ{x y} mx my h=>?_
   obtain⟨a,t,rfl⟩:=L x mx;obtain⟨b,u,rfl⟩:=L y my;have O:¬ b<a:=of_decide_eq_false h;show a<=b;lia
  have hp:H p=none:=I.hok.fresh R;refine⟨.ref p,_,I.laid (t':=tk) o3 R (show qW X.prog X.w _ O _ (.lst ((qj ns).map V.int)) from ⟨?_,out,n',?_,o4⟩),rfl,q _ hp⟩
  .rw [lMq,(qH ns).length_eq,n,←hl];exact Y
  .rw [←e];exact vals_ints L
end
end Mr
namespace Z
open PySem L2 Mr
abbrev St:=L2.St
inductive D where
 |non|bl (b:Bool)|int (i:Int)|str (x:Str)|ty (n:String)|list (xs:List D)|tup (xs:List D)|dict (kvs:List (pE×D))|scr (ns:Ϝ)|exc (c:Str) (fs:List (Str×Int))|cls (c:Str)|fd (kvs:List (pE×D))|ins (c:Str) (fs:List (Str×D))
inductive qB (K:Ζ) (H:Hp):D->V->Prop
 |non:qB K H .non .non
 |bl {b:Bool}:qB K H (.bl b) (.bl b)
 |int {i:Int}:qB K H (.int i) (.int i)
 |str {x:Str}:qB K H (.str x) (.str x)
 |ty {n:String}:qB K H (.ty n) (.ty n)
 |list {p:Addr}{vs:List V}{ds:List D}(h:H p=some (.lst vs)) (l:ds.length=vs.length) (e:∀(i:Nat) (d:D) (v:V),ds[i]?=some d->vs[i]?=some v->qB K H d v):qB K H (.list ds) (.ref p)
 |tup {p:Addr}{vs:List V}{ds:List D}(h:H p=some (.tup vs)) (l:ds.length=vs.length) (e:∀(i:Nat) (d:D) (v:V),ds[i]?=some d->vs[i]?=some v->qB K H d v):qB K H (.tup ds) (.ref p)
 |dict {p:Addr}{kvs:List (pE×V)}{ds:List (pE×D)}(h:H p=some (.dK kvs)) (l:ds.map (·.1)=kvs.map (·.1)) (e:∀(i:Nat) (d:pE×D) (v:pE×V),ds[i]?=some d->kvs[i]?=some v->qB K H d.2 v.2):qB K H (.dict ds) (.ref p)
 |scr {p:Addr}{ns:Ϝ}(h:rN K H p (ns.map V.int)):qB K H (.scr ns) (.ref p)
 |exc {c:Str}{fs:List (Str×Int)}{e C M dx:Addr}(rf:Xe.Ref K c C M) (nf:∀p∈fs,W.findIn K (.ref C) p.1=some none) (h:H e=some (Xe.ExA e C (some dx))) (hx:H dx=some (.xd (fs.map λp=>(p.1,V.int p.2)))):qB K H (.exc c fs) (.ref e)
 |exc0 {c:Str}{e C M:Addr}(rf:Xe.Ref K c C M) (h:H e=some (Xe.ExA e C none)):qB K H (.exc c []) (.ref e)
 |cls {c:Str}{C:Addr}(h:Xe.IsC K c C):qB K H (.cls c) (.ref C)
 |fd {p:Addr}{o:Obj}{kvs:List (pE×V)}{ds:List (pE×D)}(h:H p=some (.frz o (.dK kvs))) (l:ds.map (·.1)=kvs.map (·.1)) (e:∀(i:Nat) (d:pE×D) (v:pE×V),ds[i]?=some d->kvs[i]?=some v->qB K H d.2 v.2):qB K H (.fd ds) (.ref p)
 |ins {c:Str}{a C dx:Addr}{gs:List (Str×V)}{fs:List (Str×D)}(rf:W.nsIn K jG c=some (some (.ref C))) (h:H a=some (.ins C dx gs)) (l:fs.map (·.1)=gs.map (·.1)) (e:∀(i:Nat) (d:Str×D) (v:Str×V),fs[i]?=some d->gs[i]?=some v->qB K H d.2 v.2):qB K H (.ins c fs) (.ref a)
def pU(K:Ζ) (H:Hp) (ds:List D) (vs:List V):Prop:=ds.length=vs.length/\∀(i:Nat) (d:D) (v:V),ds[i]?=some d->vs[i]?=some v->qB K H d v
def uw(K:Ζ) (H:Hp) (ds:List (pE×D)) (kvs:List (pE×V)):Prop:=ds.map (·.1)=kvs.map (·.1)/\∀(i:Nat) (d:pE×D) (v:pE×V),ds[i]?=some d->kvs[i]?=some v->qB K H d.2 v.2
section
variable {K:Ζ}{H H':Hp}
def qB.mono{d:D}{v:V}(h:qB K H d v) (s:pO H H'):qB K H' d v:=by
 induction h with
 |non=>exact .non
 |bl=>exact .bl
 |int=>exact .int
 |str=>exact .str
 |ty=>exact .ty
 |list h l _ n=>exact .list (s _ _ h) l n
 |tup h l _ n=>exact .tup (s _ _ h) l n
 |dict h l _ n=>exact .dict (s _ _ h) l n
 |scr h=>exact .scr (s.seq h)
 |exc r t h u=>exact .exc r t (s _ _ h) (s _ _ u)
 |exc0 r h=>exact .exc0 r (s _ _ h)
 |cls h=>exact .cls h
 |fd h l _ n=>exact .fd (s _ _ h) l n
 |ins r h l _ n=>exact .ins r (s _ _ h) l n
theorem pU.mono{ds:List D}{vs:List V}(h:pU K H ds vs) (s:pO H H'):pU K H' ds vs:=⟨h.1,λi d v a b=>(h.2 i d v a b).mono s⟩
theorem uw.mono{ds:List (pE×D)}{vs:List (pE×V)}(h:uw K H ds vs) (s:pO H H'):uw K H' ds vs:=⟨h.1,λi d v a b=>(h.2 i d v a b).mono s⟩
def pU.nil:pU K H [] []:=⟨rfl,λi d v a=>by simp at a⟩
def pU.cons{d:D}{v:V}{ds:List D}{vs:List V}(h:qB K H d v) (t:pU K H ds vs):pU K H (d::ds) (v::vs):=⟨by simp[t.1],λi e w a b=>by
 cases i with
 |zero =>
  simp at a b;subst a b;exact h
 |succ i=>exact t.2 i e w (by simpa using a) (by simpa using b)⟩
def pU.cons_iff{d:D}{v:V}{ds:List D}{vs:List V}:pU K H (d::ds) (v::vs)↔qB K H d v/\pU K H ds vs :=
 ⟨λh=>⟨h.2 0 d v rfl rfl,by have:=h.1;simpa using this,λi e w a b=>h.2 (i+1) e w (by simpa using a) (by simpa using b)⟩,λh=>.cons h.1 h.2⟩
def pU.nil_inv{vs:List V}(h:pU K H [] vs):vs=[]:=by
 have:=h.1;cases vs with
 |nil=>rfl
 |cons _ _=>simp at this
def pU.cons_inv{d:D}{ds:List D}{vs:List V}(h:pU K H (d::ds) vs):∃v ws,vs=v::ws/\qB K H d v/\pU K H ds ws:=by
 cases vs with
 |nil=>have:=h.1;simp at this
 |cons v ws=>exact⟨v,ws,rfl,pU.cons_iff.mp h⟩
theorem pU.append:∀{ds es:List D}{vs ws:List V},pU K H ds vs->pU K H es ws->pU K H (ds++es) (vs++ws)
 | [],es,vs,ws,h,g=>by rw[h.nil_inv];exact g
 |d::ds,es,vs,ws,h,g=>by
  obtain⟨v,l,rfl,h1,h2⟩:=h.cons_inv;exact .cons h1 (pU.append h2 g)
theorem pU.take{ds:List D}{vs:List V}(h:pU K H ds vs) (n:Nat):pU K H (ds.take n) (vs.take n):=⟨by rw[lTq,lTq,h.1],λi d v a b=>by
 rw[List.getElem?_take]at a b;split at a
 .rename_i l;rw[qd l]at b;exact h.2 i d v a b
 .cases a⟩
theorem pU.drop{ds:List D}{vs:List V}(h:pU K H ds vs) (n:Nat):pU K H (ds.drop n) (vs.drop n):=⟨by rw[aQ,aQ,h.1],λi d v a b=>by
 rw[eY]at a b;exact h.2 _ d v a b⟩
def pU.get{ds:List D}{vs:List V}(h:pU K H ds vs) {i:Nat}{d:D}(e:ds[i]?=some d):∃v,vs[i]?=some v/\qB K H d v:=by
 have n:i<ds.length:=(gSq.mp e).1;have l:i<vs.length:=h.1 ▸ n;exact⟨vs[i],gEg l,h.2 i d _ e (gEg l)⟩
def pU.get'{ds:List D}{vs:List V}(h:pU K H ds vs) {i:Nat}{v:V}(e:vs[i]?=some v):∃d,ds[i]?=some d/\qB K H d v:=by
 have n:i<vs.length:=(gSq.mp e).1;have l:i<ds.length:=h.1.symm ▸ n;exact⟨ds[i],gEg l,h.2 i _ v (gEg l) e⟩
def qB.list_inv{ds:List D}{v:V}(h:qB K H (.list ds) v):∃p vs,v = .ref p/\H p=some (.lst vs)/\pU K H ds vs:=by
 cases h with
 |list h l e=>exact⟨_,_,rfl,h,l,e⟩
def qB.tup_inv{ds:List D}{v:V}(h:qB K H (.tup ds) v):∃p vs,v = .ref p/\H p=some (.tup vs)/\pU K H ds vs:=by
 cases h with
 |tup h l e=>exact⟨_,_,rfl,h,l,e⟩
def qB.dict_inv{ds:List (pE×D)}{v:V}(h:qB K H (.dict ds) v):∃p kvs,v = .ref p/\H p=some (.dK kvs)/\uw K H ds kvs:=by
 cases h with
 |dict h l e=>exact⟨_,_,rfl,h,l,e⟩
def qB.mk_list{ds:List D}{p:Addr}{vs:List V}(h:H p=some (.lst vs)) (r:pU K H ds vs):qB K H (.list ds) (.ref p):=.list h r.1 r.2
def qB.mk_tup{ds:List D}{p:Addr}{vs:List V}(h:H p=some (.tup vs)) (r:pU K H ds vs):qB K H (.tup ds) (.ref p):=.tup h r.1 r.2
def qB.mk_dict{ds:List (pE×D)}{p:Addr}{vs:List (pE×V)}(h:H p=some (.dK vs)) (r:uw K H ds vs):qB K H (.dict ds) (.ref p):=.dict h r.1 r.2
end
def D.scal:D->Bool
 | .non=>true
 | .bl _=>true
 | .int _=>true
 | .str _=>true
 | .ty _=>true
 |_=>false
theorem qB.scal{K:Ζ}{H l:Hp}{d:D}{v:V}(h:qB K H d v) (s:d.scal=true):qB K l d v:=by
 cases h with
 |non=>exact .non
 |bl=>exact .bl
 |int=>exact .int
 |str=>exact .str
 |ty=>exact .ty
 |_=>cases s
inductive AV where
 |sh (d:D)|ow (avs:List AV)|owd (kvs:List (pE×D))|owl (kvs:List (pE×Ϝ))|otl (x:Str) (ds:List D)
mutual
def oN:AV->D
 | .sh d=>d
 | .ow l=>.list (ED l)
 | .owd kvs=>.dict kvs
 | .owl kvs=>.dict (kvs.map λx=>(x.1,.list (x.2.map .int)))
 | .otl x ds=>.tup [.str x,.list ds]
def ED:List AV->List D
 | []=>[]
 |a::as=>oN a::ED as
end
theorem GY:∀l:List AV,ED l=l.map oN
 | []=>by simp[ED]
 |a::as=>by simp[ED,GY as]
@[simp] theorem qm (d:D):oN (.sh d)=d:=by simp[oN]
@[simp] theorem sJ (l:List AV):oN (.ow l) = .list (l.map oN):=by simp[oN,GY]
@[simp] theorem CP (kvs:List (pE×D)):oN (.owd kvs) = .dict kvs:=by simp[oN]
def G3(kvs:List (pE×Ϝ)):oN (.owl kvs) = .dict (kvs.map λx=>(x.1,.list (x.2.map .int))):=by simp[oN]
def Da(x:Str) (ds:List D):oN (.otl x ds) = .tup [.str x,.list ds]:=by simp[oN]
inductive pY (K:Ζ) (Hf H:Hp):AV->V->Δ->Prop
 |sh {d:D}{v:V}(r:qB K Hf d v):pY K Hf H (.sh d) v []
 |ow {p:Addr}{vs:List V}{avs:List AV}{Fs:List Δ}(h:H p=some (.lst vs)) (n:Hf p=none) (l:avs.length=vs.length) (lf:avs.length=Fs.length)
   (e:∀(i:Nat) (a:AV) (v:V) (F:Δ),avs[i]?=some a->vs[i]?=some v->Fs[i]?=some F->pY K Hf H a v F):pY K Hf H (.ow avs) (.ref p) (p::Fs.flatten)
 |owd {p:Addr}{kvs:List (pE×V)}{ds:List (pE×D)}(h:H p=some (.dK kvs)) (n:Hf p=none) (r:uw K Hf ds kvs):pY K Hf H (.owd ds) (.ref p) [p]
 |owl {p:Addr}{kvs:List (pE×Ϝ)}{qs:Δ}(h:H p=some (.dK (aR (λx q=>(x.1,V.ref q)) kvs qs))) (n:Hf p=none) (l:kvs.length=qs.length) (e:∀(i:Nat) (q:Addr) (x:pE×Ϝ),qs[i]?=some q->kvs[i]?=some x->H q=some (.lst (x.2.map V.int))/\Hf q=none):pY K Hf H (.owl kvs) (.ref p) (p::qs)
 |otl {t p:Addr}{x:Str}{vs:List V}{ds:List D}(h:H t=some (.tup [.str x,.ref p])) (n:Hf t=none) (h2:H p=some (.lst vs)) (n2:Hf p=none) (r:pU K Hf ds vs):pY K Hf H (.otl x ds) (.ref t) [t,p]
def M7{K:Ζ}{H:Hp}{p:Addr}{kvs:List (pE×Ϝ)}{r:Δ}(h:H p=some (.dK (aR (λx q=>(x.1,V.ref q)) kvs r))) (l:kvs.length=r.length) (e:∀(i:Nat) (q:Addr) (x:pE×Ϝ),r[i]?=some q->kvs[i]?=some x->H q=some (.lst (x.2.map V.int))):qB K H (.dict (kvs.map λx=>(x.1,.list (x.2.map .int)))) (.ref p):=by
 refine .dict h ?_ λi d v h1 h2=>?_
 .refine dh λi=>?_
  rw[gMq,gMq,gMq,bR]
  by_cases c:i<kvs.length
  .rw [gEg c,gEg (l ▸ c)];rfl
  .rw [bp (eF c)];rfl
 .rw [gMq]at h1;rw[bR]at h2;cases hk:kvs[i]? with
  |none=>rw[hk]at h1;cases h1
  |some x =>
   cases s:r[i]? with
   |none=>rw[hk,s]at h2;cases h2
   |some q =>
    rw[hk]at h1 h2;rw[s]at h2;cases h1;cases h2;refine .list (e i q x s hk) (by rw[lMq,lMq]) λj d v n t=>?_
    rw[gMq]at n t;cases u:x.2[j]? with
    |none=>rw[u]at n;cases n
    |some m =>
     rw[u]at n t;cases n;cases t;exact .int
def Yu{kvs:List (pE×Ϝ)}{n:Δ}(l:kvs.length=n.length) {q:Addr}(s:q∈n):∃(i:Nat) (x:pE×Ϝ),n[i]?=some q/\kvs[i]?=some x:=by
 obtain⟨i,r⟩:=ak.mp s;have hl:=(gSq.mp r).1;exact⟨i,_,r,gEg (l ▸ hl)⟩
section
variable {K:Ζ}{Hf Hf' H H':Hp}{av:AV}{v:V}{F:Δ}
def pY.owned(h:pY K Hf H av v F):∀q∈F,H q≠none/\Hf q=none:=by
 induction h with
 |sh _=>intro q s;cases s
 | @ow p u t y h n l lf e B =>
  intro q s;rcases ah.mp s with rfl|s
  .exact ⟨by rw[h];simp,n⟩
  .obtain ⟨F,C,s⟩:=mFq.mp s;obtain⟨i,J,rfl⟩:=bV.mp C;exact B i t[i] u[i] y[i] (by simp) (by simp) (by simp) q s
 |owd h n r =>
  intro q s;have:=mSq.mp s;subst this;exact⟨by rw[h];simp,n⟩
 |owl h n l e =>
  intro q s;rcases ah.mp s with z|z
  .rw [z];exact⟨by rw[h];simp,n⟩
  .obtain ⟨i,x,h1,h2⟩:=Yu l z;obtain⟨E,G⟩:=e i q x h1 h2;exact⟨by rw[E];simp,G⟩
 |otl h n h2 I r =>
  intro q s;simp only[ah,bB,or_false]at s;rcases s with z|z <;> rw[z]
  .exact ⟨by rw[h];simp,n⟩
  .exact ⟨by rw[h2];simp,I⟩
def pY.keep(h:pY K Hf H av v F) (s:pO Hf Hf') (hk:∀q∈F,H' q=H q) (hn:∀q∈F,Hf' q=none):pY K Hf' H' av v F:=by
 induction h with
 |sh r=>exact .sh (r.mono s)
 | @ow p E y G h n l lf e z =>
  refine .ow (by rw[hk p (by simp)];exact h) (hn p (by simp)) l lf λi a v F h1 h2 t=>z i a v F h1 h2 t (λq u=>hk q ?_) λq u=>hn q ?_
  all_goals exact mCo _ (mFq.mpr ⟨F,mGq t,u⟩)
 |owd h n r=>exact .owd (by rw[hk _ (by simp)];exact h) (hn _ (by simp)) (r.mono s)
 | @owl p B C h n l e =>
  refine .owl (by rw[hk _ (ai ..)];exact h) (hn _ (ai ..)) l λi q x h1 h2=>?_
  have m:q∈p::C:=mCo _ (mGq h1);exact⟨by rw[hk q m];exact(e i q x h1 h2).1,hn q m⟩
 |otl h n h2 I r=>exact .otl (by rw[hk _ (by simp)];exact h) (hn _ (by simp)) (by rw[hk _ (by simp)];exact h2) (hn _ (by simp)) (r.mono s)
def pY.rep(h:pY K Hf H av v F) (s:pO Hf H):qB K H (oN av) v:=by
 induction h with
 |sh r=>rw[qm];exact r.mono s
 | @ow p C u y h n l lf e z =>
  rw[sJ];refine .list h (by simp[l]) λi d v h1 h2=>?_
  rw[gMq]at h1;cases t:u[i]? with
  |none=>rw[t]at h1;cases h1
  |some a =>
   rw[t]at h1;cases h1;have B:i<y.length:=lf ▸ (gSq.mp t).1;exact z i a v y[i] t h2 (gEg B)
 |owd h n r=>rw[CP];exact .mk_dict h (r.mono s)
 |owl h n l e=>rw[G3];exact M7 h l λi q x h1 h2=>(e i q x h1 h2).1
 |otl h n h2 E r=>rw[Da];exact .mk_tup h (.cons .str (.cons (.mk_list h2 (r.mono s)) .nil))
def frz(Hf H:Hp) (F:Δ):Hp:=λb=>if b∈F then H b else Hf b
def BI{b:Addr}(h:b∈F):frz Hf H F b=H b:=qd h
def uC{b:Addr}(h:b∉F):frz Hf H F b=Hf b:=qh h
def tx(h:∀q∈F,Hf q=none):pO Hf (frz Hf H F):=λb o e=>by
 rw[uC λm=>by rw[h b m]at e;cases e]
 exact e
def TV(s:pO Hf H):pO (frz Hf H F) H:=λb o e=>by
 by_cases m:b∈F
 .rw [BI m]at e;exact e
 .rw [uC m]at e;exact s b o e
def pY.frozen(h:pY K Hf H av v F) (s:pO Hf Hf') (hk:∀q∈F,Hf' q=H q):qB K Hf' (oN av) v:=by
 induction h with
 |sh r=>rw[qm];exact r.mono s
 | @ow p E u y h n l lf e B =>
  rw[sJ];refine .list (by rw[hk p (by simp)];exact h) (by simp[l]) λi d v h1 h2=>?_
  rw[gMq]at h1;cases t:u[i]? with
  |none=>rw[t]at h1;cases h1
  |some a =>
   rw[t]at h1;cases h1;have z:i<y.length:=lf ▸ (gSq.mp t).1;exact B i a v y[i] t h2 (gEg z) λq C=>hk q (mCo _ (mFq.mpr ⟨y[i],gRq z,C⟩))
 |owd h n r=>rw[CP];exact .mk_dict (by rw[hk _ (by simp)];exact h) (r.mono s)
 |owl h n l e=>rw[G3];exact M7 (by rw[hk _ (ai ..)];exact h) l λi q x h1 h2=>by rw[hk q (mCo _ (mGq h1))];exact(e i q x h1 h2).1
 |otl h n h2 G r=>rw[Da];exact .mk_tup (by rw[hk _ (by simp)];exact h) (.cons .str (.cons (.mk_list (by rw[hk _ (by simp)];exact h2) (r.mono s)) .nil))
end
abbrev AS:=List (Option AV)
structure qe (K:Ζ) (H₀ Hf₀ Hf:Hp) (S:AS) (σ:St) (H:Hp) (Fs:List Δ):Prop where
 len:S.length=σ.length
 lenF:Fs.length=S.length
 rep:∀(i:Nat) (av:AV),S[i]?=some (some av)->∃v F,σ[i]?=some (some v)/\Fs[i]?=some F/\pY K Hf H av v F
 emp:∀i:Nat,S[i]?=some none->Fs[i]?=some []
 nd:Fs.flatten.Nodup
 fresh:∀p∈Fs.flatten,H₀ p=none
 sub:pO Hf H
 fr:pO H₀ H
 lim:∀b,Hf₀ b=none->H₀ b≠none->Hf b=none
 sf:pO Hf₀ Hf
structure yM (Hf H:Hp) (Fs:List Δ) (Hf' H':Hp) (Fs':List Δ):Prop where
 sf:pO Hf Hf'
 sh:pO H H'
 own:∀p∈Fs'.flatten,p∈Fs.flatten
 gr:∀b,Hf b=none->Hf' b≠none->H b=none∨b∈Fs.flatten
theorem yM.refl{Hf H:Hp}{l:List Δ}:yM Hf H l Hf H l:=⟨.refl _,.refl _,λ_ h=>h,λb h g=>absurd h g⟩
def Uk{H l:Hp}(s:pO H l) {b:Addr}(h:H b≠none):l b≠none:=by
 cases e:H b with
 |none=>exact absurd e h
 |some o=>rw[s b o e];simp
theorem yM.trans{Hf H Hf1 n l r:Hp}{s Fs1 Fs2:List Δ}(a:yM Hf H s Hf1 n Fs1) (b:yM Hf1 n Fs1 l r Fs2):yM Hf H s l r Fs2 :=
 ⟨a.sf.trans b.sf,a.sh.trans b.sh,λp h=>a.own p (b.own p h),λc h g=>by
  by_cases e:Hf1 c=none
  .rcases b.gr c e g with q|q
   .exact .inl (a.sh.free q)
   .exact .inr (a.own c q)
  .exact a.gr c h e⟩
section
variable {K:Ζ}{H₀ Hf₀ Hf Hf' H H':Hp}{S:AS}{σ:St}{Fs Fs':List Δ}
def Ot{b:Addr}(s:pO H H') (h:H b≠none):H' b=H b:=by
 cases e:H b with
 |none=>exact absurd e h
 |some o=>exact s b o e
def qe.mem(R:qe K H₀ Hf₀ Hf S σ H Fs) {q:Addr}(h:q∈Fs.flatten):H q≠none/\Hf q=none:=by
 obtain⟨F,u,n⟩:=mFq.mp h;obtain⟨i,s,rfl⟩:=bV.mp u;have l:i<S.length:=R.lenF ▸ s;cases e:S[i] with
 |none =>
  have:=R.emp i (by rw[gEg l,e])
  rw[gEg s]at this;rw[aN.inj this]at n;cases n
 |some x =>
  obtain⟨v,F,_,t,r⟩:=R.rep i x (by rw[gEg l,e])
  rw[gEg s]at t;rw[aN.inj t]at n;exact r.owned q n
def qe.more(R:qe K H₀ Hf₀ Hf S σ H Fs) (s:pO H H') (sf:pO Hf Hf') (sub:pO Hf' H') (hn:∀q∈Fs.flatten,Hf' q=none) (lim:∀b,Hf₀ b=none->H₀ b≠none->Hf' b=none):qe K H₀ Hf₀ Hf' S σ H' Fs where
 len:=R.len
 lenF:=R.lenF
 rep:=λi t e=>by
  obtain⟨v,F,u,n,r⟩:=R.rep i t e;refine⟨v,F,u,n,r.keep sf (λq l=>Ot s (r.owned q l).1) λq l=>hn q (mFq.mpr ⟨F,mGq n,l⟩)⟩
 emp:=R.emp
 nd:=R.nd
 fresh:=R.fresh
 sub:=sub
 fr:=R.fr.trans s
 lim:=lim
 sf:=R.sf.trans sf
def qe.laid(R:qe K H₀ Hf₀ Hf S σ H Fs) (s:pO H H'):qe K H₀ Hf₀ Hf S σ H' Fs:=R.more s (.refl _) (R.sub.trans s) (λq h=>(R.mem h).2) R.lim
def sX{F:Δ}{i:Nat}{p:Addr}(h:p∈(Fs.set i F).flatten):p∈F∨p∈Fs.flatten:=by
 obtain⟨G,n,l⟩:=mFq.mp h;rcases List.mem_or_eq_of_mem_set n with q|q
 .exact .inr (mFq.mpr ⟨G,q,l⟩)
 .subst q;exact .inl l
theorem sI:∀{Fs:List Δ}{F:Δ}(i:Nat),Fs.flatten.Nodup->F.Nodup->(∀p∈F,p∉Fs.flatten)->(Fs.set i F).flatten.Nodup
 | [],F,i,h,_,_=>by simp
 |G::Gs,F,0,h,hF,hd=>by
  rw[eZ,fCq,nAq];rw[fCq,nAq]at h;refine⟨hF,h.2.1,λa ha b l e=>hd a ha ?_⟩
  rw[fCq];exact ay _ (e ▸ l)
 |G::Gs,F,i+1,h,hF,hd=>by
  rw[fb,fCq,nAq];rw[fCq,nAq]at h;refine⟨h.1,sI i h.2.1 hF λp n m=>hd p n (by rw[fCq];exact ay _ m),λa ha b l e=>?_⟩
  rcases sX l with q|q
  .exact hd b q (by rw[fCq];exact cE _ (e ▸ ha))
  .exact h.2.2 a ha b q e
theorem qe.set(R:qe K H₀ Hf₀ Hf S σ H Fs) {s:AV}{v:V}{F:Δ}(i:Nat) (r:pY K Hf H s v F) (nd:F.Nodup) (hf:∀q∈F,H₀ q=none/\q∉Fs.flatten) :
  qe K H₀ Hf₀ Hf (S.set i (some s)) (σ.set i (some v)) H (Fs.set i F) where
 len:=by simp[R.len]
 lenF:=by simp[R.lenF]
 rep:=λj a e=>by
  rw[bD]at e
  by_cases l:i=j
  .subst l;rw[qd rfl]at e;split at e
   .rename_i t;cases e;exact⟨v,F,by rw[aM (R.len ▸ t)],by rw[aM (R.lenF.symm ▸ t)],r⟩
   .cases e
  .rw [qh l]at e;obtain⟨w,G,u,x,q⟩:=R.rep j a e;exact⟨w,G,by rw[aD l];exact u,by rw[aD l];exact x,q⟩
 emp:=λj e=>by
  rw[bD]at e
  by_cases l:i=j
  .subst l;rw[qd rfl]at e;split at e <;> cases e
  .rw [qh l]at e;rw[aD l];exact R.emp j e
 nd:=sI i R.nd nd λp n=>(hf p n).2
 fresh:=λp n=>by
  rcases sX n with q|q
  .exact (hf p q).1
  .exact R.fresh p q
 sub:=R.sub
 fr:=R.fr
 lim:=R.lim
 sf:=R.sf
def qS{i:Nat}{p:Addr}(h:p∈(Fs.set i []).flatten):p∈Fs.flatten:=by
 rcases sX h with q|q
 .cases q
 .exact q
theorem uX:∀{Fs:List Δ}{F:Δ}{i:Nat}{p:Addr},Fs.flatten.Nodup->Fs[i]?=some F->p∈F->p∉(Fs.set i []).flatten
 | [],F,i,p,_,e,_,_=>by simp at e
 |G::Gs,F,0,p,h,e,l,m=>by
  simp at e;subst e;rw[eZ,fCq,gH]at m;rw[fCq,nAq]at h;exact h.2.2 p l p m rfl
 |G::Gs,F,i+1,p,h,e,l,m=>by
  rw[fb,fCq]at m;rw[fCq,nAq]at h;have n:Gs[i]?=some F:=by simpa using e
  rcases mAq.mp m with q|q
  .exact h.2.2 p q p (mFq.mpr ⟨F,mGq n,l⟩) rfl
  .exact uX h.2.1 n l q
def qe.move(R:qe K H₀ Hf₀ Hf S σ H Fs) {i:Nat}{u:AV}(e:S[i]?=some (some u)):∃v F,σ[i]?=some (some v)/\Fs[i]?=some F/\pY K Hf H u v F/\F.Nodup/\(∀q∈F,H₀ q=none/\q∉(Fs.set i []).flatten) /\
  qe K H₀ Hf₀ Hf (S.set i none) σ H (Fs.set i []):=by
 obtain⟨v,F,z,s,r⟩:=R.rep i u e;have x:∀q∈F,q∈Fs.flatten:=λq t=>mFq.mpr ⟨F,mGq s,t⟩
 refine⟨v,F,z,s,r,bg.sublist (aB (mGq s)) R.nd,λq t=>⟨R.fresh q (x q t),uX R.nd s t⟩,?_⟩
 refine⟨by simp[R.len],by simp[R.lenF],λj a n=>?_,λj n=>?_,sI i R.nd aT (λp y=>by cases y),λp y=>R.fresh p (qS y),R.sub,R.fr,R.lim,R.sf⟩
 .rw [bD]at n
  by_cases l:i=j
  .subst l;rw[qd rfl]at n;split at n <;> cases n
  .rw [qh l]at n;obtain⟨w,G,f1,f2,q⟩:=R.rep j a n;exact⟨w,G,f1,by rw[aD l];exact f2,q⟩
 .rw [bD]at n
  by_cases l:i=j
  .subst l;rw[qd rfl]at n;split at n
   .rename_i B;rw[aM (R.lenF.symm ▸ B)]
   .cases n
  .rw [qh l]at n;rw[aD l];exact R.emp j n
theorem qe.frz(R:qe K H₀ Hf₀ Hf S σ H Fs) {F:Δ}(hf:∀q∈F,H₀ q=none/\q∉Fs.flatten) (hn:∀q∈F,Hf q=none):qe K H₀ Hf₀ (frz Hf H F) S σ H Fs:=by
 refine R.more (.refl _) (tx hn) (TV R.sub) (λq l=>?_) λb h1 h2=>?_
 .rw [uC λm=>(hf q m).2 l]
  exact(R.mem l).2
 .rw [uC λm=>h2 (hf b m).1]
  exact R.lim b h1 h2
end
abbrev ME:=AS->Option (D×AS)
abbrev MK:=AS->Option (AV×AS)
abbrev ML:=AS->Option (List D×AS)
abbrev MT:=AS->Option (Bool×AS)
abbrev MA:=AS->Option (List AV×AS)
def qa(K:Ζ) (Hf H:Hp) (l:List AV) (vs:List V) (n:List Δ):Prop :=
 l.length=vs.length/\l.length=n.length/\∀(i:Nat) (a:AV) (v:V) (F:Δ),l[i]?=some a->vs[i]?=some v->n[i]?=some F->pY K Hf H a v F
structure xS (H₀ H:Hp) (Fs Fs':List Δ) (F:Δ):Prop where
 nd:F.Nodup
 fr:∀q∈F,H₀ q=none
 out:∀q∈F,q∉Fs'.flatten
 new:∀q∈F,H q=none∨q∈Fs.flatten
def xS.nil{H₀ H:Hp}{n l:List Δ}:xS H₀ H n l []:=⟨aT,λq h=>(by cases h),λq h=>(by cases h),λq h=>(by cases h)⟩
section
variable (K:Ζ)
def SR(te:TE) (m:ME):Prop:=∀{H₀ l Hf:Hp}{S:AS}{σ:St}{H:Hp}{t:List Δ}{d:D}{S':AS},qe K H₀ l Hf S σ H t->m S=some (d,S')->∀Q:VK,
 (∀n s r v,yM Hf H t n s r->qe K H₀ l n S' σ s r->qB K s d v->Q v s)->te σ H Q
def SK(te:TE) (m:MK):Prop:=∀{H₀ l Hf:Hp}{S:AS}{σ:St}{H:Hp}{t:List Δ}{a:AV}{S':AS},qe K H₀ l Hf S σ H t->m S=some (a,S')->∀Q:VK,
 (∀n s r v F,yM Hf H t n s r->qe K H₀ l n S' σ s r->pY K n s a v F->xS H₀ H t r F->Q v s)->te σ H Q
def SL(te:TE) (m:ML):Prop:=∀{H₀ l Hf:Hp}{S:AS}{σ:St}{H:Hp}{t:List Δ}{ds:List D}{S':AS},qe K H₀ l Hf S σ H t->m S=some (ds,S')->∀Q:VK,
 (∀n s r p vs,yM Hf H t n s r->qe K H₀ l n S' σ s r->s p=some (.lst vs)->pU K n ds vs->Q (.ref p) s)->te σ H Q
def GS(u:TT) (m:MT):Prop:=∀{H₀ l Hf:Hp}{S:AS}{σ:St}{H:Hp}{t:List Δ}{b:Bool}{S':AS},qe K H₀ l Hf S σ H t->m S=some (b,S')->∀Q:Bool->Hp->Prop,
 (∀n s r,yM Hf H t n s r->qe K H₀ l n S' σ s r->Q b s)->u σ H Q
def SA(x:TA) (m:MA):Prop:=∀{H₀ l Hf:Hp}{S:AS}{σ:St}{H:Hp}{t:List Δ}{as:List AV}{S':AS},qe K H₀ l Hf S σ H t->m S=some (as,S')->∀Q:List V->Hp->Prop,
 (∀n s r vs u,yM Hf H t n s r->qe K H₀ l n S' σ s r->qa K n s as vs u->xS H₀ H t r u.flatten->Q vs s)->x σ H Q
def Tu(u:TA) (m:ML):Prop:=∀{H₀ l Hf:Hp}{S:AS}{σ:St}{H:Hp}{t:List Δ}{ds:List D}{S':AS},qe K H₀ l Hf S σ H t->m S=some (ds,S')->∀Q:List V->Hp->Prop,
 (∀n s r vs,yM Hf H t n s r->qe K H₀ l n S' σ s r->pU K s ds vs->Q vs s)->u σ H Q
end
section
variable {K:Ζ}{H₀ Hf₀ Hf Hf' H H':Hp}{S S':AS}{σ:St}{Fs Fs':List Δ}
def pY.stp{n:AV}{v:V}{F:Δ}(r:pY K Hf H n v F) (s:∀q∈F,q∉Fs.flatten) (t:yM Hf H Fs Hf' H' Fs'):pY K Hf' H' n v F :=
 r.keep t.sf (λq l=>Ot t.sh (r.owned q l).1) λq l=>by
  by_cases e:Hf' q=none
  .exact e
  .rcases t.gr q (r.owned q l).2 e with z|z
   .exact absurd z (r.owned q l).1
   .exact absurd z (s q l)
def qe.new(R:qe K H₀ Hf₀ Hf S σ H Fs) {p:Addr}{o:HO}(l:H p=none):yM Hf H Fs Hf (qP H p o) Fs/\qe K H₀ Hf₀ Hf S σ (qP H p o) Fs/\Hf p=none/\H₀ p=none/\p∉Fs.flatten :=
 ⟨⟨.refl _,vf l,λ_ h=>h,λb h g=>absurd h g⟩,R.laid (vf l),R.sub.free l,R.fr.free l,λm=>(R.mem m).1 l⟩
def uQ(n:Nat):(aw n ([]:Δ)).flatten=[]:=by
 induction n with
 |zero=>rfl
 |succ n l=>rw[gX,fCq,l];rfl
def pY.new{p:Addr}{vs:List V}{ds:List D}(h:H p=some (.lst vs)) (n:Hf p=none) (r:pU K Hf ds vs):pY K Hf H (.ow (ds.map .sh)) (.ref p) [p]:=by
 have e:[p]=p::(aw ds.length ([]:Δ)).flatten:=by rw[uQ]
 rw[e];refine .ow h n (by simp[r.1]) (by simp) λi a v F h1 h2 l=>?_
 rw[gMq]at h1;cases q:ds[i]? with
 |none=>rw[q]at h1;cases h1
 |some d =>
  rw[q]at h1;cases h1;have:F=[]:=dO (mGq l);subst this;exact .sh (r.2 i d v q h2)
def pY.news{p:Addr}{vs:List V}{l:List AV}{s:List Δ}(h:H p=some (.lst vs)) (n:Hf p=none) (r:qa K Hf H l vs s):pY K Hf H (.ow l) (.ref p) (p::s.flatten):=.ow h n r.1 r.2.1 r.2.2
def pY.ow_inv{r:List AV}{v:V}{F:Δ}(h:pY K Hf H (.ow r) v F):∃p vs s,v = .ref p/\F=p::s.flatten/\H p=some (.lst vs)/\Hf p=none/\qa K Hf H r vs s:=by
 cases h with
 |ow h n l lf e=>exact⟨_,_,_,rfl,rfl,h,n,l,lf,e⟩
def pY.owd_inv{ds:List (pE×D)}{v:V}{F:Δ}(h:pY K Hf H (.owd ds) v F):∃p kvs,v = .ref p/\F=[p]/\H p=some (.dK kvs)/\Hf p=none/\uw K Hf ds kvs:=by
 cases h with
 |owd h n r=>exact⟨_,_,rfl,rfl,h,n,r⟩
def pY.sh_inv{d:D}{v:V}{F:Δ}(h:pY K Hf H (.sh d) v F):F=[]/\qB K Hf d v:=by
 cases h with
 |sh r=>exact⟨rfl,r⟩
def qe.give{l:Hp}{Fs1:List Δ}(R:qe K H₀ Hf₀ Hf' S σ l Fs1) (t:yM Hf H Fs Hf' l Fs1) {u:AV}{v:V}{F:Δ}(r:pY K Hf' l u v F) (o:xS H₀ H Fs Fs1 F) :
  qe K H₀ Hf₀ (Z.frz Hf' l F) S σ l Fs1/\qB K (Z.frz Hf' l F) (oN u) v/\yM Hf H Fs (Z.frz Hf' l F) l Fs1:=by
 have n:∀q∈F,Hf' q=none:=λq s=>(r.owned q s).2
 refine⟨R.frz (λq s=>⟨o.fr q s,o.out q s⟩) n,r.frozen (tx n) λq s=>BI s,t.sf.trans (tx n),t.sh,t.own,λb h g=>?_⟩
 by_cases m:b∈F
 .exact o.new b m
 .rw [uC m]at g;exact t.gr b h g
def qa.nil:qa K Hf H [] [] []:=⟨rfl,rfl,λi a v F h=>by simp at h⟩
def qa.cons{a:AV}{v:V}{F:Δ}{as:List AV}{vs:List V}{n:List Δ}(h:pY K Hf H a v F) (t:qa K Hf H as vs n):qa K Hf H (a::as) (v::vs) (F::n) :=
 ⟨by simp[t.1],by simp[t.2.1],λi b w G h1 h2 l=>by
  cases i with
  |zero =>
   simp at h1 h2 l;subst h1 h2 l;exact h
  |succ i=>exact t.2.2 i b w G (by simpa using h1) (by simpa using h2) (by simpa using l)⟩
def qa.nil_inv{vs:List V}{l:List Δ}(h:qa K Hf H [] vs l):vs=[]/\l=[]:=by
 obtain⟨a,b,_⟩:=h;exact⟨aY.mp a.symm,aY.mp b.symm⟩
def qa.cons_inv{a:AV}{as:List AV}{vs:List V}{n:List Δ}(h:qa K Hf H (a::as) vs n):∃v ws F l,vs=v::ws/\n=F::l/\pY K Hf H a v F/\qa K Hf H as ws l:=by
 obtain⟨h1,h2,r⟩:=h;cases vs with
 |nil=>simp at h1
 |cons v ws =>
  cases n with
  |nil=>simp at h2
  |cons F l=>exact⟨v,ws,F,l,rfl,rfl,r 0 a v F rfl rfl rfl,by simpa using h1,by simpa using h2,λi b w G s t u=>r (i+1) b w G (by simpa using s) (by simpa using t) (by simpa using u)⟩
theorem qa.frozen(h:qa K Hf H as vs Gs) (s:pO Hf Hf') (hk:∀q∈Gs.flatten,Hf' q=H q):pU K Hf' (as.map oN) vs :=
 ⟨by simp[h.1],λi d v h1 h2=>by
  rw[gMq]at h1;cases l:as[i]? with
  |none=>rw[l]at h1;cases h1
  |some a =>
   rw[l]at h1;cases h1;have n:i<Gs.length:=h.2.1 ▸ (gSq.mp l).1;exact(h.2.2 i a v Gs[i] l h2 (gEg n)).frozen s λq r=>hk q (mFq.mpr ⟨Gs[i],gRq n,r⟩)⟩
theorem qa.owned(h:qa K Hf H as vs Gs):∀q∈Gs.flatten,H q≠none/\Hf q=none:=λq l=>by
 obtain⟨F,r,l⟩:=mFq.mp l;obtain⟨i,n,rfl⟩:=bV.mp r;have h1:i<as.length:=h.2.1.symm ▸ n;have h2:i<vs.length:=h.1 ▸ h1;exact(h.2.2 i as[i] vs[i] Gs[i] (gEg h1) (gEg h2) (gEg n)).owned q l
def qe.gives{l:Hp}{Fs1:List Δ}(R:qe K H₀ Hf₀ Hf' S σ l Fs1) (t:yM Hf H Fs Hf' l Fs1) {as:List AV}{vs:List V}{s:List Δ}(r:qa K Hf' l as vs s) (o:xS H₀ H Fs Fs1 s.flatten) :
  qe K H₀ Hf₀ (Z.frz Hf' l s.flatten) S σ l Fs1/\pU K (Z.frz Hf' l s.flatten) (as.map oN) vs/\yM Hf H Fs (Z.frz Hf' l s.flatten) l Fs1:=by
 have n:∀q∈s.flatten,Hf' q=none:=λq u=>(r.owned q u).2
 refine⟨R.frz (λq u=>⟨o.fr q u,o.out q u⟩) n,r.frozen (tx n) λq u=>BI u,t.sf.trans (tx n),t.sh,t.own,λb h g=>?_⟩
 by_cases m:b∈s.flatten
 .exact o.new b m
 .rw [uC m]at g;exact t.gr b h g
def xS.stp{Hf1 n l r:Hp}{Fs1 Fs2:List Δ}{F:Δ}(o:xS H₀ H Fs Fs1 F) (t:yM Hf1 n Fs1 l r Fs2):xS H₀ H Fs Fs2 F:=⟨o.nd,o.fr,λq h m=>o.out q h (t.own q m),o.new⟩
def xS.back{Hf1 l:Hp}{Fs1 Fs2:List Δ}{F:Δ}(t:yM Hf H Fs Hf1 l Fs1) (o:xS H₀ l Fs1 Fs2 F):xS H₀ H Fs Fs2 F:=⟨o.nd,o.fr,o.out,λq h=>(o.new q h).elim (λe=>.inl (t.sh.free e)) λm=>.inr (t.own q m)⟩
def xS.app{F G:Δ}(a:xS H₀ H Fs Fs' F) (b:xS H₀ H Fs Fs' G) (d:∀q∈F,q∉G):xS H₀ H Fs Fs' (F++G) :=
 ⟨nAq.mpr ⟨a.nd,b.nd,λx l y n e=>d x l (e ▸ n)⟩,λq h=>(mAq.mp h).elim (a.fr q) (b.fr q),λq h=>(mAq.mp h).elim (a.out q) (b.out q),λq h=>(mAq.mp h).elim (a.new q) (b.new q)⟩
def xS.apart{Hf1 l:Hp}{Fs1 Fs2:List Δ}{F G:Δ}(a:xS H₀ H Fs Fs1 F) (ha:∀q∈F,l q≠none) (b:xS H₀ l Fs1 Fs2 G):∀q∈F,q∉G:=λq h m=>by
 rcases b.new q m with e|e
 .exact ha q h e
 .exact a.out q h e
def xS.one(R:qe K H₀ Hf₀ Hf S σ H Fs) {p:Addr}(l:H p=none):xS H₀ H Fs Fs [p] :=
 ⟨by simp,λq h=>by rw[mSq.mp h];exact R.fr.free l,λq h m=>by rw[mSq.mp h]at m;exact(R.mem m).1 l,λq h=>by rw[mSq.mp h];exact .inl l⟩
end
def oq(i:Nat):ME:=λS=>(S[i]?.join).map λa=>(oN a,S)
def oU(i:Nat):MK:=λS=>(S[i]?.join).map λa=>(.sh (oN a),S.set i (some (.sh (oN a))))
def DS(i:Nat):MK:=λS=>(S[i]?.join).map λa=>(a,S.set i none)
def DR(i:Nat):ML:=λS=>match S[i]?.join with
 |some (.sh (.list ds))=>some (ds,S)
 |some (.ow l)=>some (l.map oN,S.set i (some (.ow ((l.map oN).map .sh))))
 |_=>none
def rOf(k:MK):ME:=λS=>(k S).map λx=>(oN x.1,x.2)
def kSc(m:ME):MK:=λS=>(m S).bind λx=>if x.1.scal then some (.sh x.1,x.2) else none
def lOf(k:MK):ML:=λS=>(k S).bind λx=>match x.1 with
 | .sh (.list ds)=>some (ds,x.2)
 | .ow l=>some (l.map oN,x.2)
 |_=>none
def wg(k:MK):MK:=λS=>(k S).map λx=>(.sh (oN x.1),x.2)
def rC(d:D):ME:=λS=>if d.scal then some (d,S) else none
section
variable {K:Ζ}
def pZ{S:AS}{i:Nat}{a:AV}(h:S[i]?.join=some a):S[i]?=some (some a):=by
 cases e:S[i]? with
 |none=>rw[e]at h;cases h
 |some z=>rw[e]at h;exact congrArg some h
def oj(i:Nat):SR K (yV i) (oq i):=by
 intro H₀ l t S σ H u d x R e Q q;obtain⟨a,n,e⟩:=oMq.mp e;cases e;obtain⟨v,F,s,y,r⟩:=R.rep i a (pZ n);exact⟨v,s,q _ _ _ v .refl R (r.rep R.sub)⟩
def ya(i:Nat):SK K (yV i) (DS i):=by
 intro H₀ n z S σ H B a C R e Q q;obtain⟨b,s,e⟩:=oMq.mp e;cases e;obtain⟨v,F,t,u,r,nd,o,x⟩:=R.move (pZ s);exact⟨v,t,q _ _ _ v F ⟨.refl _,.refl _,λp y=>qS y,λb h g=>absurd h g⟩ x r ⟨nd,λq l=>(o q l).1,λq l=>(o q l).2,λq l=>.inr (mFq.mpr ⟨F,mGq u,l⟩)⟩⟩
def qe.again{H₀ l Hf H:Hp}{S:AS}{σ:St}{n:List Δ}{i:Nat}{s:AV}{v:V}{F G:Δ}(R:qe K H₀ l Hf (S.set i none) σ H (n.set i [])) (t:σ[i]?=some (some v)) (r:pY K Hf H s v G) (nd:G.Nodup) (hf:∀q∈G,H₀ q=none/\q∉(n.set i []).flatten) :
  qe K H₀ l Hf (S.set i (some s)) σ H (n.set i G):=by
 have R2:=R.set i r nd hf;rw[fP,fP]at R2;have e:σ.set i (some v)=σ:=by
  obtain⟨hk,u⟩:=gSq.mp t;rw[←u];exact fy hk
 rw[e]at R2;exact R2
def oD(i:Nat):SK K (yV i) (oU i):=by
 intro H₀ l x S σ H I a J R e Q q;obtain⟨b,y,e⟩:=oMq.mp e;cases e;obtain⟨v,F,t,z,r,nd,o,B⟩:=R.move (pZ y);have n:∀q∈F,x q=none:=λq s=>(r.owned q s).2
 have R2:=B.frz o n;have u:=r.frozen (tx (H:=H) n) λq s=>BI s
 have C:=R2.again (F:=F) (G:=[]) t (.sh u) aT λq h=>(by cases h)
 refine⟨v,t,q _ _ _ v [] ⟨tx n,.refl _,λp E=>qS E,λb h g=>?_⟩ C (.sh u) .nil⟩
 by_cases m:b∈F
 .exact .inr (mFq.mpr ⟨F,mGq z,m⟩)
 .rw [uC m]at g;exact absurd h g
def Av(i:Nat):SL K (yV i) (DR i):=by
 intro H₀ u E S σ H Y ds S' R e Q q;unfold DR at e;split at e
 .rename_i L x;cases e;obtain⟨v,F,t,y,r⟩:=R.rep i _ (pZ x);obtain⟨p,B,rfl,h1,h2⟩:=r.sh_inv.2.list_inv;exact⟨_,t,q _ _ _ p B .refl R (R.sub _ _ h1) h2⟩
 .rename_i C x;cases e;obtain⟨v,F,t,y,r,nd,o,M⟩:=R.move (pZ x);obtain⟨p,B,s,rfl,rfl,h1,h2,I⟩:=r.ow_inv;have n:∀q∈s.flatten,E q=none:=λq l=>(I.owned q l).2
  have R2:=M.frz (F:=s.flatten) (λq l=>o q (mCo _ l)) n
  have J:=I.frozen (tx (H:=H) n) λq l=>BI l
  have O:p∉s.flatten:=(az.mp nd).1;have P:pY K (Z.frz E H s.flatten) H (.ow ((C.map oN).map .sh)) (.ref p) [p]:=pY.new h1 (by rw[uC O];exact h2) J
  have U:=R2.again (F:=p::s.flatten) (G:=[p]) t P (by simp) λq l=>by rw[mSq.mp l];exact o p (by simp)
  refine⟨_,t,q _ _ _ p B ⟨tx n,.refl _,λb X=>?_,λb h g=>?_⟩ U h1 J⟩
  .rcases sX X with z|z
   .rw [mSq.mp z];exact mFq.mpr ⟨_,mGq y,by simp⟩
   .exact z
  .by_cases m:b∈s.flatten
   .exact .inr (mFq.mpr ⟨_,mGq y,mCo _ m⟩)
   .rw [uC m]at g;exact absurd h g
 .cases e
theorem SK.rOf{te:TE}{k:MK}(h:SK K te k):SR K te (rOf k):=by
 intro H₀ l z S σ H B d C R e Q q;obtain⟨x,s,e⟩:=oMq.mp e;cases e;exact h R (a:=x.1) (S':=x.2) s Q λu E y v F t n r o=>q _ _ _ v t n (r.rep n.sub)
theorem SR.kSc{te:TE}{m:ME}(h:SR K te m):SK K te (kSc m):=by
 intro H₀ l B S σ H C a E R e Q q;obtain⟨x,n,e⟩:=oBq.mp e;split at e
 .rename_i s;cases e;exact h R (d:=x.1) (S':=x.2) n Q λu G y v t z r=>q _ _ _ v [] t z (.sh (r.scal s)) .nil
 .cases e
def SK.frz{te:TE}{k:MK}(h:SK K te k):SK K te (wg k):=by
 intro H₀ l C S σ H E a G R e Q q;obtain⟨x,n,e⟩:=oMq.mp e;cases e;refine h R (a:=x.1) (S':=x.2) n Q λs I u v F t y r o=>?_
 obtain⟨R2,z,B⟩:=y.give t r o;exact q _ _ _ v [] B R2 (.sh z) .nil
theorem SK.lOf{te:TE}{k:MK}(h:SK K te k):SL K te (lOf k):=by
 intro H₀ l J S σ H L M O R e Q q;obtain⟨x,z,e⟩:=oBq.mp e;refine h R (a:=x.1) (S':=x.2) z Q λB P C v F t n r o=>?_
 split at e
 .rename_i E s;cases e;rw[s]at r;obtain⟨p,u,rfl,h1,h2⟩:=r.sh_inv.2.list_inv;exact q _ _ _ p u t n (n.sub _ _ h1) h2
 .rename_i G s;cases e;obtain⟨R2,y,I⟩:=n.give t r o;rw[s,sJ]at y;obtain⟨p,u,rfl,h1,h2⟩:=y.list_inv;exact q _ _ _ p u I R2 (R2.sub _ _ h1) h2
 .cases e
def Sk{v:V}{d:D}(h:∀H,qB K H d v):SR K (tC v) (rC d):=by
 intro H₀ l n S σ H r s t R e Q q;unfold rC at e;split at e
 .cases e;exact q _ _ _ v .refl R (h _)
 .cases e
def oC{i:Int}:SR K (tC (.int i)) (rC (.int i)):=Sk λ_=>.int
def X1{i:Str}:SR K (tC (.str i)) (rC (.str i)):=Sk λ_=>.str
def vU{i:Bool}:SR K (tC (.bl i)) (rC (.bl i)):=Sk λ_=>.bl
def E8:SR K (tC .non) (rC .non):=Sk λ_=>.non
def K7{T:String}:SR K (tC (.ty T)) (rC (.ty T)):=Sk λ_=>.ty
end
def uR{α:Type}(p:Prop) (x:Option α):Option α:=@ite (Option α) p (dq p) x none
def vQ{α:Type}{p:Prop}(h:p) (x:Option α):uR p x=x:=qd h
def yJ{α:Type}(x:Option α):uR True x=x:=qd trivial
def pM{α:Type}{p:Prop}{x y:Option α}(h:uR p x=y):(p/\x=y)∨none=y:=by
 by_cases c:p
 .rw [vQ c]at h;exact .inl ⟨c,h⟩
 .exact .inr ((@if_neg p (dq p) c _ x none).symm.trans h)
def pR(f:D->D->Option D) (a b:ME):ME:=λS=>(a S).bind λx=>(b x.2).bind λy=>(f x.1 y.1).map λd=>(d,y.2)
def Ea(f:D->Option D) (a:ME):ME:=λS=>(a S).bind λx=>(f x.1).map λd=>(d,x.2)
def GV(K:Ζ) (r:R2) (f:D->D->Option D):Prop:=∀{x y:V}{H:Hp}{Q:VK}{l n d:D},qB K H l x->qB K H n y->f l n=some d->(∀v,qB K H d v->Q v H)->r x y H Q
def UnD(K:Ζ) (r:V->Hp->VK->Prop) (f:D->Option D):Prop:=∀{x:V}{H:Hp}{Q:VK}{l d:D},qB K H l x->f l=some d->(∀v,qB K H d v->Q v H)->r x H Q
section
variable {K:Ζ}{r:R2}{f:D->D->Option D}{ta tb:TE}{a b:ME}
def oE(hr:GV K r f) (ha:SR K ta a) (s:SR K tb b):SR K (Tw r ta tb) (pR f a b):=by
 intro H₀ l O S σ H P d U R e Q q;obtain⟨x,t,e⟩:=oBq.mp e;obtain⟨y,u,e⟩:=oBq.mp e;obtain⟨z,B,e⟩:=oMq.mp e;cases e;refine ha R (d:=x.1) (S':=x.2) t _ λC X Fs1 Y E G I=>s G (d:=y.1) (S':=y.2) u _ λJ H2 Fs2 v2 n R2 L=>?_
 exact hr (I.mono n.sh) L B λv M=>q _ _ _ v (E.trans n) R2 M
def yr{r:V->Hp->VK->Prop}{f:D->Option D}(hr:UnD K r f) (ha:SR K ta a):SR K (tUn r ta) (Ea f a):=by
 intro H₀ l E S σ H G d I R e Q q;obtain⟨x,n,e⟩:=oBq.mp e;obtain⟨z,s,e⟩:=oMq.mp e;cases e;exact ha R (d:=x.1) (S':=x.2) n _ λt J Fs1 L u y B=>hr B s λv C=>q _ _ _ v u y C
end
def LG(c:Int->Int->Prop) (g:Int->Int->D):D->D->Option D
 | .int i,.int j=>uR (c i j) (some (g i j))
 |_,_=>none
def dI1(g:Int->D):D->Option D
 | .int i=>some (g i)
 |_=>none
abbrev C6:=LG (λ_ _=>True) λi j=>.int (i+j)
abbrev Dq:=LG (λ_ _=>True) λi j=>.int (i-j)
abbrev CO:=LG Tf λi j=>.int (i*j)
abbrev tS:=LG (λ_ j=>0<j) λi j=>.int (i % j)
abbrev zL:=LG W3 λi j=>.int (i / j)
abbrev Jh:=LG WY λi j=>.int (i ^ j.toNat)
abbrev Yz:=LG (λ_ _=>True) λi j=>.bl (decide (i<j))
abbrev dLe:=LG (λ_ _=>True) λi j=>.bl (decide (i<=j))
abbrev MC:=LG (λ_ _=>True) λi j=>.bl (decide (j<i))
abbrev dGe:=LG (λ_ _=>True) λi j=>.bl (decide (j<=i))
abbrev xx:=dI1 λi=>.int (-i)
def Qc(b:Bool):Option D:=some (.bl b)
def IQ(x y:D):Option D:=match x with
 | .int i=>(match y with|.int j=>Qc (decide (i=j))|.non=>Qc false|.str _=>Qc false|_=>none)
 | .str i=>(match y with|.str j=>Qc (decide (i=j))|.non=>Qc false|.int _=>Qc false|_=>none)
 | .bl i=>(match y with|.bl j=>Qc (decide (i=j))|.non=>Qc false|_=>none)
 | .non=>(match y with|.non=>Qc true|.int _=>Qc false|.str _=>Qc false|.bl _=>Qc false|_=>none)
 |_=>none
def OY:D->Option D
 | .bl b=>some (.bl (!b))
 |_=>none
def Le(x y:D):Option D:=(IQ x y).bind OY
section
variable {K:Ζ}
def IV{C:Int->Int->Prop}{g:Int->Int->V}{g':Int->Int->D}(l:∀H i j,qB K H (g' i j) (g i j)):GV K (rI C g) (LG C g'):=by
 intro x y H Q s t d n r e q;unfold LG at e;split at e
 .rename_i i j;cases n;cases r;rcases pM e with ⟨h,e⟩|e
  .cases e;exact⟨i,j,rfl,rfl,h,q _ (l H i j)⟩
  .cases e
 .cases e
def Il{g:Int->Int->V}{g':Int->Int->D}(l:∀H i j,qB K H (g' i j) (g i j)):GV K (Q4 g) (LG (λ_ _=>True) g'):=by
 intro x y H Q s t d n r e q;unfold LG at e;split at e
 .rename_i i j;cases n;cases r;rw[yJ]at e;cases e;exact⟨i,j,rfl,rfl,q _ (l H i j)⟩
 .cases e
def xq:GV K (Q4 λi j=>.int (i+j)) C6:=Il λ_ _ _=>.int
def BH:GV K (Q4 λi j=>.int (i-j)) Dq:=Il λ_ _ _=>.int
def Ah:GV K (rI Tf λi j=>.int (i*j)) CO:=IV λ_ _ _=>.int
def rL:GV K (rI (λ_ j=>0<j) λi j=>.int (i % j)) tS:=IV λ_ _ _=>.int
def wt:GV K (rI W3 λi j=>.int (i / j)) zL:=IV λ_ _ _=>.int
def IB:GV K (rI WY λi j=>.int (i ^ j.toNat)) Jh:=IV λ_ _ _=>.int
def VO:GV K (Q4 λi j=>.bl (decide (i<j))) Yz:=Il λ_ _ _=>.bl
def GH:GV K (Q4 λi j=>.bl (decide (j<i))) MC:=Il λ_ _ _=>.bl
def vo:UnD K (rU λi=>.int (-i)) xx:=by
 intro x H Q n d l e q;cases l <;> simp only[dI1]at e
 all_goals first|(exfalso;simp at e;done)|skip
 rename_i i;cases e;exact⟨i,rfl,q _ .int⟩
def Ap:GV K rEq IQ:=by
 intro x y H Q r s d l n e q;unfold IQ at e;cases l <;> first|(cases e;done)|(cases n <;> first|(cases e;done)|skip)
 all_goals (cases e;refine⟨rfl,q _ ?_⟩;simp only[reduceCtorEq,decide_false,decide_true,V.int.injEq,V.str.injEq,V.bl.injEq];exact .bl)
def Fc:GV K rNe Le:=by
 intro x y H Q t u d l n e q;obtain⟨b,r,s⟩:=oBq.mp e;obtain⟨h1,h2⟩:=Ap l n r (Q:=λv _=>qB K H b v) λv h=>h
 cases h2;cases s;exact⟨h1,q _ .bl⟩
end
def Yo(a b:ME):ME:=λS=>(a S).bind λx=>match x.1 with
 | .bl true=>b x.2
 | .bl false=>some (.bl false,x.2)
 |_=>none
def rOr(a b:ME):ME:=λS=>(a S).bind λx=>match x.1 with
 | .bl true=>some (.bl true,x.2)
 | .bl false=>b x.2
 |_=>none
def Ym(a:ME):ME:=Ea OY a
def tK(a:ME):MT:=λS=>(a S).bind λx=>match x.1 with
 | .bl b=>some (b,x.2)
 |_=>none
def GJ(a b:MT):MT:=λS=>(a S).bind λx=>if x.1=true then b x.2 else some (false,x.2)
def A7(a b:MT):MT:=λS=>(a S).bind λx=>if x.1=true then some (true,x.2) else b x.2
def yu(a:MT):MT:=λS=>(a S).map λx=>(!x.1,x.2)
def rIf(c:MT) (a b:ME):ME:=λS=>(c S).bind λx=>if x.1=true then a x.2 else b x.2
def kIf(c:MT) (a b:MK):MK:=λS=>(c S).bind λx=>if x.1=true then a x.2 else b x.2
section
variable {K:Ζ}{ta tb:TE}{a b:ME}{ca cb:TT}{ma mb:MT}
def Wx(ha:SR K ta a) (u:SR K tb b):SR K (Wi ta tb) (Yo a b):=by
 intro H₀ n I S σ H J d L R e Q q;obtain⟨x,y,e⟩:=oBq.mp e;refine ha R (d:=x.1) (S':=x.2) y _ λz M Fs1 O s t l=>?_
 split at e
 .rename_i r;rw[r]at l;cases l;exact⟨true,rfl,JE (u t e Q λB P Fs2 C E R2 G=>q _ _ _ C (s.trans E) R2 G)⟩
 .rename_i r;rw[r]at l;cases l;cases e;exact⟨false,rfl,KI (q _ _ _ _ s t .bl)⟩
 .cases e
def Xn(ha:SR K ta a):SR K (Wr ta) (Ym a):=by
 intro H₀ n C S σ H E d G R e Q q;obtain⟨x,s,e⟩:=oBq.mp e;obtain⟨z,l,e⟩:=oMq.mp e;cases e;refine ha R (d:=x.1) (S':=x.2) s _ λt I Fs1 J u y r=>?_
 cases B:x.1 <;> rw[B]at l r <;> simp only[OY]at l
 all_goals first|(exfalso;simp at l;done)|skip
 cases r;cases l;exact⟨_,rfl,q _ _ _ _ u y .bl⟩
def xQ(ha:SR K ta a):GS K (tB ta) (tK a):=by
 intro H₀ l z S σ H B d C R e Q q;obtain⟨x,r,e⟩:=oBq.mp e;refine ha R (d:=x.1) (S':=x.2) r _ λs E Fs1 G t u n=>?_
 split at e
 .rename_i b y;rw[y]at n;cases n;cases e;exact⟨_,rfl,q _ _ _ t u⟩
 .cases e
def pV(ha:SR K ta a):GS K (V3 ta) (tK a):=xQ ha
def Rt(ha:GS K ca ma) (t:GS K cb mb):GS K (YH ca cb) (GJ ma mb):=by
 intro H₀ n C S σ H E d G R e Q q;obtain⟨x,u,e⟩:=oBq.mp e;refine ha R (b:=x.1) (S':=x.2) u _ λy I Fs1 r s=>?_
 split at e
 .rename_i l;rw[l];exact JE (t s e Q λz J Fs2 B R2=>q _ _ _ (r.trans B) R2)
 .rename_i l;cases e;rw[dA]at l;rw[l];exact KI (q _ _ _ r s)
def A9(ha:GS K ca ma) (t:GS K cb mb):GS K (tOr ca cb) (A7 ma mb):=by
 intro H₀ n C S σ H E d G R e Q q;obtain⟨x,u,e⟩:=oBq.mp e;refine ha R (b:=x.1) (S':=x.2) u _ λy I Fs1 r s=>?_
 split at e
 .rename_i l;cases e;rw[l];exact JE (q _ _ _ r s)
 .rename_i l;rw[dA]at l;rw[l];exact KI (t s e Q λz J Fs2 B R2=>q _ _ _ (r.trans B) R2)
def BL(ha:GS K ca ma):GS K (Z1 ca) (yu ma):=by
 intro H₀ l u S σ H y d z R e Q q;obtain⟨x,n,e⟩:=oMq.mp e;cases e;exact ha R (b:=x.1) (S':=x.2) n _ λr B Fs1 s t=>q _ _ _ s t
end
abbrev rH:Nat:=16777216
def wq:jD=rH:=jN
def SQ(K:Ζ) (te:TE) (m:ML):Prop:=∀{H₀ l Hf:Hp}{S:AS}{σ:St}{H:Hp}{t:List Δ}{ds:List D}{S':AS},qe K H₀ l Hf S σ H t->m S=some (ds,S')->∀Q:VK,
 (∀n s r p vs,yM Hf H t n s r->qe K H₀ l n S' σ s r->rN K s p vs->pU K n ds vs->Q (.ref p) s)->te σ H Q
theorem SL.q{K:Ζ}{te:TE}{m:ML}(h:SL K te m):SQ K te m:=by
 intro H₀ l z S σ H B C E R e Q q;exact h R e Q λn G s p u t x y r=>q _ _ _ p u t x (rN.of y) r
def tU(i:Nat):ML:=λS=>match S[i]?.join with
 |some (.sh (.scr ns))=>some (ns.map .int,S)
 |some (.sh (.list ds))=>some (ds,S)
 |some (.ow l)=>some (l.map oN,S.set i (some (.ow ((l.map oN).map .sh))))
 |_=>none
theorem uN{K:Ζ}{H:Hp}:∀ns:Ϝ,pU K H (ns.map .int) (ns.map V.int)
 | []=>.nil
 |n::ns=>.cons .int (uN ns)
def rh{K:Ζ}(i:Nat):SQ K (yV i) (tU i):=by
 intro H₀ n M S σ H O B C R e Q q;unfold tU at e;split at e
 .rename_i E l;cases e;obtain⟨v,F,G,P,r⟩:=R.rep i _ (pZ l);cases r.sh_inv.2 with
  |scr h=>exact⟨_,G,q _ _ _ _ _ .refl R (R.sub.seq h) (uN E)⟩
 .rename_i I l;cases e;refine Av i R (ds:=B) (S':=S) ?_ Q λs J u p x t y z r=>q _ _ _ p x t y (rN.of z) r
  unfold DR;rw[l]
 .rename_i L l;refine Av i R (ds:=B) (S':=C) ?_ Q λs J u p x t y z r=>q _ _ _ p x t y (rN.of z) r
  unfold DR;rw[l];exact e
 .cases e
section
variable {K:Ζ}{H₀ Hf₀ Hf Hf' H H':Hp}{S S':AS}{σ:St}{Fs Fs':List Δ}
theorem qa.stp{as:List AV}{vs:List V}{l:List Δ}(r:qa K Hf H as vs l) (s:∀q∈l.flatten,q∉Fs.flatten) (t:yM Hf H Fs Hf' H' Fs'):qa K Hf' H' as vs l :=
 ⟨r.1,r.2.1,λi a v F h1 h2 n=>(r.2.2 i a v F h1 h2 n).stp (λq u=>s q (mFq.mpr ⟨F,mGq n,u⟩)) t⟩
def qe.layF(R:qe K H₀ Hf₀ Hf S σ H Fs) {p:Addr}{o:HO}(l:H p=none):yM Hf H Fs (qP Hf p o) (qP H p o) Fs/\qe K H₀ Hf₀ (qP Hf p o) S σ (qP H p o) Fs:=by
 have hf:Hf p=none:=R.sub.free l;refine⟨⟨vf hf,vf l,λ_ h=>h,λb h g=>?_⟩,R.more (vf l) (vf hf) (λb u e=>?_) (λq n=>?_) λb h1 h2=>?_⟩
 .by_cases m:b=p
  .subst m;exact .inl l
  .rw [oP m]at g;exact absurd h g
 .by_cases m:b=p
  .subst m;rw[oX]at e ⊢;exact e
  .rw [oP m]at e ⊢;exact R.sub b u e
 .rw [oP λe=>(R.mem n).1 (by rw[e];exact l)]
  exact(R.mem n).2
 .rw [oP λe=>h2 (by rw[e];exact R.fr.free l)]
  exact R.lim b h1 h2
end
def pD:MA:=λS=>some ([],S)
def oB(k:MK) (r:MA):MA:=λS=>(k S).bind λx=>(r x.2).map λy=>(x.1::y.1,y.2)
def oS:ML:=λS=>some ([],S)
def ox(k:ME) (r:ML):ML:=λS=>(k S).bind λx=>(r x.2).map λy=>(x.1::y.1,y.2)
section
variable {K:Ζ}{te ta tb:TE}{tr:TA}
def oJ:SA K wk pD:=by
 intro H₀ l n S σ H r s t R e Q q;cases e;exact q _ _ _ [] [] .refl R .nil .nil
def om{k:MK}{r:MA}(hk:SK K te k) (hr:SA K tr r):SA K (sW te tr) (oB k r):=by
 intro H₀ l P S σ H U X Y R e Q q;obtain⟨x,C,e⟩:=oBq.mp e;obtain⟨y,E,e⟩:=oMq.mp e;cases e;refine hk R (a:=x.1) (S':=x.2) C _ λn H1 Fs1 v F u G z s=>hr G (as:=y.1) (S':=y.2) E _ λI H2 Fs2 J L t R2 M B=>?_
 refine q _ _ _ (v::J) (F::L) (u.trans t) R2 (.cons (z.stp s.out t) M) ?_;rw[fCq];exact(s.stp t).app (B.back u) (s.apart (Hf1:=n) (λq O=>(z.owned q O).1) B)
def oK:Tu K wk oS:=by
 intro H₀ l n S σ H r s t R e Q q;cases e;exact q _ _ _ [] .refl R .nil
def ou{k:ME}{r:ML}(hk:SR K te k) (hr:Tu K tr r):Tu K (sW te tr) (ox k r):=by
 intro H₀ l J S σ H L M O R e Q q;obtain⟨x,s,e⟩:=oBq.mp e;obtain⟨y,t,e⟩:=oMq.mp e;cases e;refine hk R (d:=x.1) (S':=x.2) s _ λu P Fs1 v z B C=>hr B (ds:=y.1) (S':=y.2) t _ λE U Fs2 G n R2 I=>?_
 exact q _ _ _ (v::G) (z.trans n) R2 (.cons (C.mono n.sh) I)
end
def uS(a:MA):MK:=λS=>(a S).bind λx=>uR (x.1.length<=rH) (some (.ow x.1,x.2))
def Hv(a:MA):MK:=λS=>(a S).bind λx=>uR (x.1.length<=rH) (some (.sh (.tup (x.1.map oN)),x.2))
section
variable {K:Ζ}{ta:TA}{a:MA}
def rF(ha:SA K ta a):SK K (Zm ta) (uS a):=by
 intro H₀ l L S σ H M O P R e Q q;obtain⟨x,B,e⟩:=oBq.mp e;rcases pM e with ⟨hl,e⟩|e
 .skip
  cases e;refine ha R (as:=x.1) (S':=x.2) B _ λC U Fs1 E s t u n y=>⟨by rw[wq,←n.1];exact hl,λp r=>?_⟩
  obtain⟨z,R2,G,X,Y⟩:=u.new (o:=.lst E) r;refine q _ _ _ (.ref p) (p::s.flatten) (t.trans z) R2 (pY.news oX G (n.stp y.out z)) ?_;have I:=(xS.one u r).back t;refine(show xS _ _ _ _ ([p]++s.flatten) from I.app y λq J m=>?_)
  rw[mSq.mp J]at m;exact(n.owned p m).1 r
 .cases e
def Hl(ha:SA K ta a):SK K (Yh ta) (Hv a):=by
 intro H₀ l J S σ H L M O R e Q q;obtain⟨x,s,e⟩:=oBq.mp e;rcases pM e with ⟨hl,e⟩|e
 .skip
  cases e;refine ha R (as:=x.1) (S':=x.2) s _ λt P Fs1 u U y z n B=>⟨by rw[wq,←n.1];exact hl,λp C=>?_⟩
  obtain⟨R2,E,G⟩:=z.gives y n B;obtain⟨r,I⟩:=R2.layF (o:=.tup u) C;exact q _ _ _ (.ref p) [] (G.trans r) I (.sh (.mk_tup oX (E.mono r.sf))) .nil
 .cases e
end
def LB(a b:ML):MK:=λS=>(a S).bind λx=>(b x.2).bind λy=>uR (x.1.length+y.1.length<=rH) (some (.ow ((x.1++y.1).map .sh),y.2))
section
variable {K:Ζ}{ta tb:TE}{a b:ML}
def ER(ha:SL K ta a) (C:SL K tb b):SK K (Tw ZV ta tb) (LB a b):=by
 intro H₀ s Y S σ H Fs av S' R e Q q;obtain⟨x,E,e⟩:=oBq.mp e;obtain⟨y,G,e⟩:=oBq.mp e;rcases pM e with ⟨hl,e⟩|e
 .skip
  cases e;refine ha R (ds:=x.1) (S':=x.2) E _ λI H1 Fs1 J l t L h1 u=>C L (ds:=y.1) (S':=y.2) G _ λM H2 Fs2 O n r R2 h2 z=>?_
  refine⟨J,O,l,n,rfl,rfl,r.sh _ _ h1,h2,by rw[wq,←u.1,←z.1];exact hl,λp B=>?_⟩
  obtain⟨P,U,X,n2,n3⟩:=R2.new (o:=.lst (l++n)) B;exact q _ _ _ (.ref p) [p] ((t.trans r).trans P) U (pY.new oX X ((u.mono r.sf).append z)) ((xS.one R2 B).back (t.trans r))
 .cases e
end
abbrev MO:=AS->Option (Option Int×AS)
def SO(K:Ζ) (to:TO) (m:MO):Prop:=∀{H₀ l Hf:Hp}{S:AS}{σ:St}{H:Hp}{t:List Δ}{o:Option Int}{S':AS},qe K H₀ l Hf S σ H t->m S=some (o,S')->∀Q:Option Int->Hp->Prop,
 (∀n s r,yM Hf H t n s r->qe K H₀ l n S' σ s r->Q o s)->to σ H Q
def zz:MO:=λS=>some (none,S)
def wx(m:ME):MO:=λS=>(m S).bind λx=>match x.1 with
 | .int i=>some (some i,x.2)
 |_=>none
def zI{α:Type}(xs:List α) (lo l:Option Int):List α:=(xs.drop (HT.GZ xs.length 0 lo)).take (HT.GZ xs.length xs.length l-HT.GZ xs.length 0 lo)
def Nt(l:ML) (lo n:MO):MK:=λS=>(l S).bind λx=>(lo x.2).bind λy=>(n y.2).map λz=>(.ow ((zI x.1 y.1 z.1).map .sh),z.2)
section
variable {K:Ζ}{te:TE}{tl th:TO}{l:ML}{lo hi:MO}{m:ME}
def vM:SO K Ou zz:=by
 intro H₀ n r S σ H s o t R e Q q;cases e;exact q _ _ _ .refl R
def tI(h:SR K te m):SO K (VW te) (wx m):=by
 intro H₀ n B S σ H C o E R e Q q;obtain⟨x,s,e⟩:=oBq.mp e;refine h R (d:=x.1) (S':=x.2) s _ λt G Fs1 v u y r=>?_
 split at e
 .rename_i i z;rw[z]at r;cases r;cases e;exact⟨i,rfl,q _ _ _ u y⟩
 .cases e
def pU.cut{H:Hp}{ds:List D}{vs:List V}(r:pU K H ds vs) (lo hi:Option Int):pU K H (zI ds lo hi) (LN vs lo hi):=by
 unfold zI LN;rw[r.1];exact(r.drop _).take _
def zu(hl:SQ K te l) (t:SO K tl lo) (u:SO K th hi):SK K (tSl (ZD K) te tl th) (Nt l lo hi):=by
 intro H₀ B Hf S σ H Fs av S' R e Q q;obtain⟨x,I,e⟩:=oBq.mp e;obtain⟨y,J,e⟩:=oBq.mp e;obtain⟨z,L,e⟩:=oMq.mp e;cases e;refine hl R (ds:=x.1) (S':=x.2) I _ λM H1 Fs1 O n C P h1 U=>t P (o:=y.1) (S':=y.2) J _ λX H2 Fs2 r R2=>u R2 (o:=z.1) (S':=z.2) L _ λY H3 Fs3 s E=>?_
 refine⟨O,n,rfl,(r.sh.trans s.sh).seq h1,λp G=>?_⟩
 obtain⟨t4,R4,n1,n2,n3⟩:=E.new (o:=.lst (LN n y.1 z.1)) G;exact q _ _ _ (.ref p) [p] (((C.trans r).trans s).trans t4) R4 (pY.new oX n1 ((U.mono (r.sf.trans s.sf)).cut _ _)) ((xS.one E G).back ((C.trans r).trans s))
end
def HU:D->D->Option D
 | .list ds,.int i=>atI ds i
 | .scr ns,.int i=>(atI ns i).map .int
 |_,_=>none
def vV:D->D->Option D
 | .tup ds,.int i=>atI ds i
 |_,_=>none
def P7(l:ML) (b:ME):MK:=λS=>(l S).bind λx=>(b x.2).bind λy=>match y.1 with
 | .int i=>(atI x.1 i).map λd=>(.sh d,y.2)
 |_=>none
section
variable {K:Ζ}{ta tb:TE}
theorem pU.atI{H:Hp}{ds:List D}{vs:List V}{i:Int}{d:D}(r:pU K H ds vs) (h:L2.atI ds i=some d):∃v,L2.atI vs i=some v/\qB K H d v:=by
 unfold L2.atI at h ⊢;rw[r.1]at h;obtain⟨j,h1,h2⟩:=oBq.mp h;rw[h1];exact r.get h2
def zZ:GV K (UX K) HU:=by
 intro x y H Q J L d s t e q;unfold HU at e;split at e
 .rename_i B i;cases t;obtain⟨p,u,rfl,h,r⟩:=s.list_inv;obtain⟨l,C⟩:=r;obtain⟨v,h1,h2⟩:=pU.atI (K:=K) (H:=H) (ds:=B) (vs:=u) ⟨l,C⟩ e;exact⟨p,u,i,v,rfl,rfl,rN.of h,h1,q v h2⟩
 .rename_i z i;cases t;cases s;rename_i p h;obtain⟨n,h1,h2⟩:=oMq.mp e;subst h2;obtain⟨v,E,G⟩:=pU.atI (K:=K) (H:=H) (uN z) (i:=i) (d:=.int n) (by
   unfold L2.atI at h1 ⊢;rw[lMq];obtain⟨j,I,g2⟩:=oBq.mp h1;rw[I];show (z.map D.int)[j]?=_;rw[gMq,g2];rfl)
  exact⟨p,_,i,v,rfl,rfl,h,E,q v G⟩
 .cases e
def Ar:GV K (WW K) vV:=by
 intro x y H Q u z d n s e q;unfold vV at e;split at e
 .rename_i t i;cases s;obtain⟨p,l,rfl,h,r⟩:=n.tup_inv;obtain⟨v,h1,h2⟩:=pU.atI (K:=K) (H:=H) (ds:=t) (vs:=l) r e;exact⟨p,l,i,v,rfl,rfl,BN.of h,h1,q v h2⟩
 .cases e
def He{l:ML}{b:ME}(hl:SQ K ta l) (u:SR K tb b):SK K (Tw (UX K) ta tb) (P7 l b):=by
 intro H₀ n U S σ H X Y S' R e Q q;obtain⟨x,z,e⟩:=oBq.mp e;obtain⟨y,B,e⟩:=oBq.mp e;refine hl R (ds:=x.1) (S':=x.2) z _ λC H1 Fs1 E r G I h1 J=>u I (d:=y.1) (S':=y.2) B _ λL H2 Fs2 v2 s R2 t=>?_
 split at e
 .rename_i i M;rw[M]at t;cases t;obtain⟨d,O,e⟩:=oMq.mp e;cases e;obtain⟨v,P,g2⟩:=(J.mono s.sf).atI O;exact⟨E,r,i,v,rfl,rfl,s.sh.seq h1,P,q _ _ _ v [] (G.trans s) R2 (.sh g2) .nil⟩
 .cases e
end
def CbD(K:Ζ) (r:List V->Hp->VK->Prop) (f:List D->Option D):Prop:=∀{vs:List V}{H:Hp}{Q:VK}{ds:List D}{d:D},pU K H ds vs->f ds=some d->(∀v,qB K H d v->Q v H)->r vs H Q
def wb(f:List D->Option D) (a:ML):ME:=λS=>(a S).bind λx=>(f x.1).map λd=>(d,x.2)
def qZ{K:Ζ}{r:List V->Hp->VK->Prop}{f:List D->Option D}{n:TA}{a:ML}(hr:CbD K r f) (ha:Tu K n a):SR K (JL r n) (wb f a):=by
 intro H₀ l G S σ H I d J R e Q q;obtain⟨x,s,e⟩:=oBq.mp e;obtain⟨z,t,e⟩:=oMq.mp e;cases e;exact ha R (ds:=x.1) (S':=x.2) s _ λu L Fs1 M y B C=>hr C t λv E=>q _ _ _ v y B E
def rB:List D->Option D
 | [.list ds]=>some (.int ds.length)
 | [.tup ds]=>some (.int ds.length)
 | [.scr ns]=>some (.int ns.length)
 | [.str x]=>uR (x.length<=rH) (some (.int x.length))
 |_=>none
def abV:List D->Option D
 | [.int i]=>some (.int (if i<0 then -i else i))
 |_=>none
def abu:List D->Option D
 | [.int i,.int j]=>some (.int (if j>i then j else i))
 |_=>none
def abK:List D->Option D
 | [.int i,.int j]=>some (.int (if j<i then j else i))
 |_=>none
def abI:List D->Option D
 | [.int i]=>some (.int i)
 | [.bl k]=>some (.int (if k then 1 else 0))
 |_=>none
def isT:D->String->Option D
 | .int _,T=>if T = "int" then some (.bl true) else if T = "bool" then some (.bl false) else none
 | .bl _,T=>if T = "bool" ∨ T = "int" then some (.bl true) else none
 | .str _,T=>if T = "str" then some (.bl true) else none
 | .list _,T=>if T = "list" then some (.bl true) else none
 | .tup _,T=>if T = "tuple" then some (.bl true) else none
 | .dict _,T=>if T = "dict" then some (.bl true) else none
 |_,_=>none
def A6:List D->Option D
 | [x,.ty T]=>isT x T
 |_=>none
def qT:List D->Option Ϝ
 | []=>some []
 | .int i::ds=>(qT ds).map (i :: ·)
 |_=>none
theorem uo:∀{ds:List D}{ns:Ϝ},qT ds=some ns->ds=ns.map .int
 | [],ns,h=>by cases h;rfl
 |d::ds,ns,h=>by
  cases d with
  |int i =>
   obtain⟨l,h1,h2⟩:=oMq.mp (show (qT ds).map (i :: ·)=some ns from h)
   subst h2;rw[uo h1];rfl
  |_=>cases h
@[simp] theorem rd (ns:Ϝ):qT (ns.map .int)=some ns:=by
 induction ns with
 |nil=>rfl
 |cons n ns l=>show (qT (ns.map .int)).map (n :: ·)=_;rw[l];rfl
theorem qo{K:Ζ}{H:Hp}:∀{ns:Ϝ}{vs:List V},pU K H (ns.map .int) vs->vs=ns.map V.int
 | [],vs,h=>h.nil_inv
 |n::ns,vs,h=>by
  obtain⟨v,l,rfl,h1,h2⟩:=pU.cons_inv (d:=.int n) (ds:=ns.map .int) h;cases h1;rw[qo h2];rfl
def M6:Ϝ->Option Int
 | []=>none
 |n::ns=>some (ns.foldl min n)
theorem yd:∀(ns:Ϝ) (n:Int),ns.foldl min n∈n::ns
 | [],n=>by simp
 |m::ns,n=>by
  have h:=yd ns (min n m);rw[bA];rcases ah.mp h with e|e
  .rw [e]
   by_cases c:n<=m
   .rw [Int.min_eq_left c];simp
   .rw [Int.min_eq_right (by lia)];simp
  .exact mCo _ (mCo _ e)
theorem wO:∀(ns:Ϝ) (n:Int),(ns.foldl min n<=n)/\∀x∈ns,ns.foldl min n<=x
 | [],n=>⟨gk _,λx h=>by cases h⟩
 |m::ns,n=>by
  obtain⟨h1,h2⟩:=wO ns (min n m);rw[bA];refine⟨by lia,λx l=>?_⟩
  rcases ah.mp l with e|e
  .subst e;lia
  .exact h2 x e
def T9:List D->Option D
 | [.list ds]=>(qT ds).bind λns=>(M6 ns).map .int
 |_=>none
section
variable {K:Ζ}
def qL:CbD K (λxs H Q=>∃x n,xs=[x]/\Z6 K x H n/\Q (.int n) H) rB:=by
 intro y H Q z d r e q;unfold rB at e;split at e
 .obtain ⟨v,l,rfl,h1,h2⟩:=r.cons_inv;rw[h2.nil_inv];obtain⟨p,s,rfl,t,u⟩:=h1.list_inv;cases e;exact⟨_,_,rfl,.inl ⟨s,rN.of t,u.1⟩,q _ .int⟩
 .obtain ⟨v,l,rfl,h1,h2⟩:=r.cons_inv;rw[h2.nil_inv];obtain⟨p,s,rfl,t,u⟩:=h1.tup_inv;cases e;exact⟨_,_,rfl,.inr ⟨s,BN.of t,u.1⟩,q _ .int⟩
 .obtain ⟨v,l,rfl,h1,h2⟩:=r.cons_inv;rw[h2.nil_inv];cases e;cases h1 with
  |scr h=>exact⟨_,_,rfl,.inl ⟨_,h,(lMq _).symm⟩,q _ .int⟩
 .rcases pM e with ⟨hl,e⟩|e
  .skip
   obtain⟨v,l,rfl,h1,h2⟩:=r.cons_inv;rw[h2.nil_inv];cases e;cases h1;exact⟨_,_,rfl,⟨by rw[wq];exact hl,rfl⟩,q _ .int⟩
  .cases e
 .cases e
def X2:CbD K (λxs H Q=>∃(a:Addr) (ns:Ϝ),xs=[.ref a]/\rN K H a (ns.map V.int)/\0<ns.length/\∀M,M∈ns->(∀x,x∈ns->M<=x)->Q (.int M) H) T9:=by
 intro G H Q I d r e q;unfold T9 at e;split at e
 .obtain ⟨v,J,rfl,h1,h2⟩:=r.cons_inv;rw[h2.nil_inv];obtain⟨ns,u,e⟩:=oBq.mp e;obtain⟨m,l,e⟩:=oMq.mp e;cases e;rw[uo u]at h1;obtain⟨p,L,rfl,s,y⟩:=h1.list_inv;rw[qo y]at s;cases ns with
  |nil=>cases l
  |cons n ns =>
   cases l;refine⟨p,_,rfl,rN.of s,by simp,λM B C=>?_⟩
   have E:M=ns.foldl min n:=by
    have O:=C _ (yd ns n);have t:=wO ns n;have P:ns.foldl min n<=M:=by
     rcases ah.mp B with z|z
     .subst z;exact t.1
     .exact t.2 M z
    lia
   rw[E];exact q _ .int
 .cases e
def Ew:CbD K (λxs H Q=>∃x T b,xs=[x,.ty T]/\Zi K x H T b/\Q (.bl b) H) A6:=by
 intro B H Q C d r e q;unfold A6 at e;split at e
 rotate_left
 .cases e
 rename_i x T;obtain⟨v,E,rfl,h1,h2⟩:=r.cons_inv;obtain⟨u,G,rfl,y,z⟩:=h2.cons_inv;rw[z.nil_inv];cases y;unfold isT at e;cases x <;> first|(cases e;done)|dsimp only at e
 case int =>
  cases h1;split at e
  .rename_i l;cases e;exact⟨_,_,_,rfl,.inl ⟨l,rfl⟩,q _ .bl⟩
  .split at e
   .rename_i l;cases e;exact⟨_,_,_,rfl,.inr ⟨l,rfl⟩,q _ .bl⟩
   .cases e
 case bl =>
  cases h1;split at e
  .rename_i l;cases e;rcases l with l|l
   .exact ⟨_,_,_,rfl,.inl ⟨l,rfl⟩,q _ .bl⟩
   .exact ⟨_,_,_,rfl,.inr ⟨l,rfl⟩,q _ .bl⟩
  .cases e
 case str =>
  cases h1;split at e
  .rename_i l;cases e;exact⟨_,_,_,rfl,⟨l,rfl⟩,q _ .bl⟩
  .cases e
 case list =>
  obtain⟨p,n,rfl,s,t⟩:=h1.list_inv;split at e
  .rename_i l;cases e;exact⟨_,_,_,rfl,.inl ⟨l,rfl,n,rN.of s⟩,q _ .bl⟩
  .cases e
 case tup =>
  obtain⟨p,n,rfl,s,t⟩:=h1.tup_inv;split at e
  .rename_i l;cases e;exact⟨_,_,_,rfl,.inr (.inr ⟨l,rfl,n,BN.of s⟩),q _ .bl⟩
  .cases e
 case dict =>
  obtain⟨p,n,rfl,s,t⟩:=h1.dict_inv;split at e
  .rename_i l;cases e;exact⟨_,_,_,rfl,.inr (.inl ⟨l,rfl,n,s⟩),q _ .bl⟩
  .cases e
end
abbrev MF:=List D->Option AV
def rK(K:Ζ) (f:MF):Sp:=λvs H Q _=>∃(Hf:Hp) (ds:List D) (a:AV),pO Hf H/\pU K Hf ds vs/\f ds=some a /\
 ∀l n v F,pO Hf l->pO H n->pO l n->(∀b,Hf b=none->H b≠none->l b=none)->pY K l n a v F->F.Nodup->(∀q∈F,H q=none)->Q v n
def oZ(f:MF) (a:MA):MK:=λS=>(a S).bind λx=>(f (x.1.map oN)).map λr=>(r,x.2)
def oR{K:Ζ}{f:MF}{B:TA}{a:MA}(ha:SA K B a):SK K (J6 (rK K f) [] E0 B) (oZ f a):=by
 intro H₀ s Hf S σ H Fs J S' R e Q q;obtain⟨x,L,e⟩:=oBq.mp e;obtain⟨z,M,e⟩:=oMq.mp e;cases e;refine ha R (as:=x.1) (S':=x.2) L _ λu y Fs1 vs O C P U X=>?_
 obtain⟨R2,Y,t2⟩:=P.gives C U X;rw[aNq];refine⟨_,_,J,R2.sub,Y,M,λt E v F G I s3 l r nd fr=>?_⟩
 have t3:yM (Z.frz u y O.flatten) y Fs1 t E Fs1:=⟨G,I,λ_ h=>h,λb h g=>.inl (by
  by_cases e:y b=none
  .exact e
  .exact absurd (l b h e) g)⟩
 have hn:∀q∈Fs1.flatten,t q=none:=λq n=>l q (R2.mem n).2 (R2.mem n).1
 have R3:qe K H₀ s t x.2 σ E Fs1:=R2.more I G s3 hn λb h1 h2=>l b (R2.lim b h1 h2) (Uk R2.fr h2)
 refine q _ _ _ v F (t2.trans t3) R3 r ⟨nd,λq n=>R2.fr.free (fr q n),λq n m=>(R2.mem m).1 (fr q n),λq n=>.inl (C.sh.free (fr q n))⟩
inductive Oq where
 |nx (S:AS)|rt (a:AV)|bk (S:AS)|ct (S:AS)
abbrev MS:=AS->Option Oq
def GR(K:Ζ) (H₀ n Hf:Hp) (D:A5):Oq->Prop
 | .nx S=>∀l r s t,pO Hf l->qe K H₀ n l S r s t->D.nx r s
 | .bk S=>∀l r s t,pO Hf l->qe K H₀ n l S r s t->D.bk r s
 | .ct S=>∀l r s t,pO Hf l->qe K H₀ n l S r s t->D.ct r s
 | .rt a=>∀l s v F,pO n l->pO H₀ s->pO l s->(∀b,n b=none->H₀ b≠none->l b=none)->pY K l s a v F->F.Nodup->(∀q∈F,H₀ q=none)->D.rt v s
def SS(K:Ζ) (t:TS) (m:MS):Prop:=∀{H₀ l Hf:Hp}{S:AS}{σ:St}{H:Hp}{n:List Δ}{o:Oq},qe K H₀ l Hf S σ H n->m S=some o->∀D:A5,GR K H₀ l Hf D o->t D σ H
def GR.mono{K:Ζ}{H₀ l Hf u:Hp}{D:A5}{o:Oq}(s:pO Hf u) (h:GR K H₀ l Hf D o):GR K H₀ l u D o:=by
 cases o with
 |nx S=>exact λn r x t y R=>h n r x t (s.trans y) R
 |bk S=>exact λn r x t y R=>h n r x t (s.trans y) R
 |ct S=>exact λn r x t y R=>h n r x t (s.trans y) R
 |rt a=>exact h
def qJ:MS:=λS=>some (.nx S)
def aaP:MS:=λS=>some (.bk S)
def aby:MS:=λS=>some (.ct S)
def Dd:MS:=λ_=>none
def oQ(a b:MS):MS:=λS=>(a S).bind λo=>match o with
 | .nx S'=>b S'
 |o=>some o
def pN(i:Nat) (k:MK):MS:=λS=>(k S).map λx=>.nx (x.2.set i (some x.1))
def So(k:MK):MS:=λS=>(k S).map λx=>.nx x.2
def qw(k:MK):MS:=λS=>(k S).map λx=>.rt x.1
def zC(c:MT) (a b:MS):MS:=λS=>(c S).bind λx=>if x.1=true then a x.2 else b x.2
section
variable {K:Ζ}{t u:TS}{a b:MS}{te:TE}{k:MK}
def qr:SS K V6 qJ:=by
 intro H₀ l n S σ H r o R e D h;cases e;exact h _ _ _ _ (.refl _) R
def B5:SS K QE Dd:=by
 intro H₀ l n S σ H r o R e D h;cases e
def oy(ha:SS K t a) (n:SS K u b):SS K (Ra t u) (oQ a b):=by
 intro H₀ l E S σ H G o R e D h;obtain⟨x,r,e⟩:=oBq.mp e;refine ha R r _ ?_;cases x with
 |nx I=>exact λy z J B s C=>n C e D (h.mono s)
 |rt a=>cases e;exact h
 |bk a=>cases e;exact h
 |ct a=>cases e;exact h
def oO{i:Nat}(hk:SK K te k):SS K (Gv te (sq i)) (pN i k):=by
 intro H₀ l E S σ H G o R e D h;obtain⟨x,s,e⟩:=oMq.mp e;cases e;refine hk R (a:=x.1) (S':=x.2) s _ λy I Fs1 v F z B C n=>?_
 exact h _ _ _ _ z.sf (B.set i C n.nd λq r=>⟨n.fr q r,n.out q r⟩)
def Ue(hk:SK K te k):SS K (BP te) (So k):=by
 intro H₀ l z S σ H B o R e D h;obtain⟨x,n,e⟩:=oMq.mp e;cases e;exact hk R (a:=x.1) (S':=x.2) n _ λr C Fs1 v F s y E G=>h _ _ _ _ s.sf y
def pK(hk:SK K te k):SS K (YU te) (qw k):=by
 intro H₀ n B S σ H C o R e D h;obtain⟨x,s,e⟩:=oMq.mp e;cases e;exact hk R (a:=x.1) (S':=x.2) s _ λy E Fs1 v F G l z r=>h _ _ v F l.sf l.fr l.sub l.lim z r.nd r.fr
def tF{c:TT}{m:MT}(y:GS K c m) (ha:SS K t a) (z:SS K u b):SS K (Uz c t u) (zC m a b):=by
 intro H₀ n E S σ H G o R e D h;obtain⟨x,B,e⟩:=oBq.mp e;refine y R (b:=x.1) (S':=x.2) B _ λC I Fs1 r s=>?_
 split at e
 .rename_i l;rw[l];exact JE (ha s e D (h.mono r.sf))
 .rename_i l;rw[dA]at l;rw[l];exact KI (z s e D (h.mono r.sf))
end
def rM(S:AS) (i:Nat):Option (List AV):=match S[i]?.join with
 |some (.ow l)=>some l
 |_=>none
def xH(S:AS) (i:Nat):Option (List (pE×D)):=match S[i]?.join with
 |some (.owd kvs)=>some kvs
 |_=>none
def zK(i:Nat) (k:MK):MS:=λS=>(rM S i).bind λ_=>(k S).bind λx=>(rM x.2 i).bind λl =>
 uR (l.length<rH) (some (.nx (x.2.set i (some (.ow (l++[x.1]))))))
def JC(i:Nat) (l:ML):MS:=λS=>(rM S i).bind λ_=>(l S).bind λx=>(rM x.2 i).bind λn =>
 uR (n.length+x.1.length<=rH) (some (.nx (x.2.set i (some (.ow (n++x.1.map .sh))))))
def intOf:D->Option Int
 | .int i=>some i
 |_=>none
def ab9(i:Nat) (b:ME) (k:MK):MS:=λS=>(wg k S).bind λx=>(rM x.2 i).bind λ_=>(b x.2).bind λy=>(rM y.2 i).bind λl=>(intOf y.1).bind λj=>(Jx l.length j).map λn =>
 .nx (y.2.set i (some (.ow (((l.map oN).set n (oN x.1)).map .sh))))
def wy:D->Option pE
 | .int i=>some (.inl i)
 | .str x=>some (.inr x)
 |_=>none
def wI(kvs:List (pE×D)) (k:pE) (d:D):List (pE×D):=if kvs.any (λkv=>decide (kv.1=k)) then kvs.map (λkv=>if kv.1=k then (kv.1,d) else kv) else kvs++[(k,d)]
def getD(kvs:List (pE×D)) (k:pE):Option D:=(kvs.find? λkv=>decide (kv.1=k)).map (·.2)
def zx(i:Nat) (b:ME) (k:MK):MS:=λS=>(wg k S).bind λx=>(xH x.2 i).bind λ_=>(b x.2).bind λy=>(xH y.2 i).bind λkvs=>(wy y.1).bind λkey =>
 uR (kvs.length<rH) (some (.nx (y.2.set i (some (.owd (wI kvs key (oN x.1)))))))
section
variable {K:Ζ}{H₀ Hf₀ Hf H:Hp}{S:AS}{σ:St}{Fs:List Δ}
def qe.turn(R:qe K H₀ Hf₀ Hf S σ H Fs) {i:Nat}{y:AV}{p:Addr}{o:HO}{F F':Δ}(C:σ[i]?=some (some (.ref p))) (B:Fs[i]?=some F) (s:p∈F) (r:pY K Hf (qP H p o) y (.ref p) F') (nd:F'.Nodup)
  (hf:∀q∈F',H₀ q=none/\q∉(Fs.set i []).flatten):qe K H₀ Hf₀ Hf (S.set i (some y)) σ (qP H p o) (Fs.set i F'):=by
 have t:p∈Fs.flatten:=mFq.mpr ⟨F,mGq B,s⟩;have pn:Hf p=none:=(R.mem t).2;have E:H₀ p=none:=R.fresh p t;have out:=uX R.nd B s;have I:qe K H₀ Hf₀ Hf (S.set i none) σ (qP H p o) (Fs.set i []):=by
  refine⟨by simp[R.len],by simp[R.lenF],λj a n=>?_,λj n=>?_,sI i R.nd aT (λp s=>by cases s),λp s=>R.fresh p (qS s),λb u e=>?_,λb u e=>?_,R.lim,R.sf⟩
  .rw [bD]at n
   by_cases l:i=j
   .subst l;rw[qd rfl]at n;split at n <;> cases n
   .rw [qh l]at n;obtain⟨w,G,f1,f2,q⟩:=R.rep j a n;refine⟨w,G,f1,by rw[aD l];exact f2,q.keep (.refl _) (λc x=>oP λe=>out ?_) λc x=>(q.owned c x).2⟩
    subst e;exact mFq.mpr ⟨G,mGq (i:=j) (by rw[aD l];exact f2),x⟩
  .rw [bD]at n
   by_cases l:i=j
   .subst l;rw[qd rfl]at n;split at n
    .rename_i J;rw[aM (R.lenF.symm ▸ J)]
    .cases n
   .rw [qh l]at n;rw[aD l];exact R.emp j n
  .rw [oP λz=>by rw[z,pn]at e;cases e]
   exact R.sub b u e
  .rw [oP λz=>by rw[z,E]at e;cases e]
   exact R.fr b u e
 exact I.again (F:=F) C r nd hf
def qu{i:Nat}{F:Δ}{q:Addr}(l:Fs[i]?=some F) (h:q∈F):q∈Fs.flatten:=mFq.mpr ⟨F,mGq l,h⟩
def qa.snoc{as:List AV}{vs:List V}{y:List Δ}{a:AV}{v:V}{F:Δ}(r:qa K Hf H as vs y) (s:pY K Hf H a v F):qa K Hf H (as++[a]) (vs++[v]) (y++[F]):=by
 obtain⟨h1,h2,z⟩:=r;refine⟨by simp[h1],by simp[h2],λi b w G l n t=>?_⟩
 by_cases u:i<as.length
 .rw [gZq u]at l;rw[gZq (h1 ▸ u)]at n;rw[gZq (h2 ▸ u)]at t;exact z i b w G l n t
 .have x:i=as.length:=by
   have:=(gSq.mp l).1;rw[lAq,lSq]at this;lia
  subst x;rw[gYq (ab _),dr]at l;rw[h1,gYq (ab _),dr]at n;rw[h2,gYq (ab _),dr]at t;cases l;cases n;cases t;exact s
def qa.keepUpd{as:List AV}{vs:List V}{l:List Δ}{p:Addr}{o:HO}(r:qa K Hf H as vs l) (t:p∉l.flatten):qa K Hf (qP H p o) as vs l :=
 ⟨r.1,r.2.1,λi a v F h1 h2 s=>by
  have q:=r.2.2 i a v F h1 h2 s;refine q.keep (.refl _) (λc n=>oP λe=>t ?_) λc n=>(q.owned c n).2
  subst e;exact mFq.mpr ⟨F,mGq s,n⟩⟩
def pY.keepUpd{a:AV}{v:V}{F:Δ}{p:Addr}{o:HO}(q:pY K Hf H a v F) (n:p∉F):pY K Hf (qP H p o) a v F :=
 q.keep (.refl _) (λc l=>oP λe=>n (e ▸ l)) λc l=>(q.owned c l).2
def VN{ds:List D}{vs:List V}(r:pU K Hf ds vs):qa K Hf H (ds.map .sh) vs (aw ds.length []) :=
 ⟨by simp[r.1],by simp,λi a v F h1 h2 l=>by
  rw[gMq]at h1;cases q:ds[i]? with
  |none=>rw[q]at h1;cases h1
  |some d =>
   rw[q]at h1;cases h1;have:F=[]:=dO (mGq l);subst this;exact .sh (r.2 i d v q h2)⟩
def qa.append{as bs:List AV}{vs ws:List V}{x y:List Δ}(r:qa K Hf H as vs x) (s:qa K Hf H bs ws y):qa K Hf H (as++bs) (vs++ws) (x++y):=by
 obtain⟨h1,h2,z⟩:=r;refine⟨by simp[h1,s.1],by simp[h2,s.2.1],λi b w G l n t=>?_⟩
 by_cases u:i<as.length
 .rw [gZq u]at l;rw[gZq (h1 ▸ u)]at n;rw[gZq (h2 ▸ u)]at t;exact z i b w G l n t
 .rw [gYq (by lia)]at l
  rw[gYq (by lia),←h1]at n
  rw[gYq (by lia),←h2]at t
  exact s.2.2 _ b w G l n t
end
section
variable {K:Ζ}{te ta tb:TE}{k:MK}{b:ME}{l:ML}
def ql{S:AS}{i:Nat}{n:List AV}(h:rM S i=some n):S[i]?=some (some (.ow n)):=by
 unfold rM at h;split at h
 .rename_i z e;cases h;exact pZ e
 .cases h
def Bz{S:AS}{i:Nat}{kvs:List (pE×D)}(h:xH S i=some kvs):S[i]?=some (some (.owd kvs)):=by
 unfold xH at h;split at h
 .rename_i z e;cases h;exact pZ e
 .cases h
theorem qe.ow{H₀ n Hf H:Hp}{S:AS}{σ:St}{u:List Δ}(R:qe K H₀ n Hf S σ H u) {i:Nat}{t:List AV}(h:S[i]?=some (some (.ow t))):∃p vs s,σ[i]?=some (some (.ref p))/\u[i]?=some (p::s.flatten)/\H p=some (.lst vs)/\Hf p=none/\qa K Hf H t vs s /\
  p∉s.flatten/\s.flatten.Nodup/\∀q∈p::s.flatten,H₀ q=none/\q∉(u.set i []).flatten:=by
 obtain⟨v,F,x,y,r,nd,o,_⟩:=R.move h;obtain⟨p,vs,s,rfl,rfl,h1,h2,z⟩:=r.ow_inv;exact⟨p,vs,s,x,y,h1,h2,z,(az.mp nd).1,(az.mp nd).2,o⟩
def xj{i:Nat}(hk:SK K te k):SS K (BP (TF K "list" AJ (yV i) (sW te wk))) (zK i k):=by
 intro H₀ B Hf S σ H Fs o R e D h;obtain⟨a0,Q,e⟩:=oBq.mp e;obtain⟨x,U,e⟩:=oBq.mp e;obtain⟨X,Y,e⟩:=oBq.mp e;rcases pM e with ⟨hl,e⟩|e
 .skip
  cases e;obtain⟨p,vs,Gs,C,_,h1,_⟩:=R.ow (ql Q);refine⟨.ref p,C,.inl ⟨rfl,vs,rN.of h1⟩,hk R (a:=x.1) (S':=x.2) U _ λHf1 H1 Fs1 v F t1 M r1 r=>?_⟩
  obtain⟨p',E,G,s,n,I,J,t,u,L,y⟩:=M.ow (ql Y);rw[C]at s;cases s;have O:p∉F:=λm=>r.out p m (qu n (by simp))
  refine⟨p,E,v,rfl,rfl,I,by rw[wq,←t.1];exact hl,h _ _ _ _ t1.sf (M.turn C n (by simp) (F':=p::(G++[F]).flatten) (pY.news oX J ((t.keepUpd u).snoc (r1.keepUpd O))) ?_ λq P=>?_)⟩
  .rw [fAq,aS];refine az.mpr ⟨λm=>(mAq.mp m).elim u O,nAq.mpr ⟨L,r.nd,λa ha b hb e=>r.out b hb (qu n (mCo _ (e ▸ ha)))⟩⟩
  .rw [fAq,aS]at P;rcases ah.mp P with z|z
   .exact y q (by rw[z];simp)
   .rcases mAq.mp z with z|z
    .exact y q (mCo _ z)
    .exact ⟨r.fr q z,λm=>r.out q z (qS m)⟩
 .cases e
def FG{i:Nat}(hl:SL K te l):SS K (BP (TF K "list" NF (yV i) (sW te wk))) (JC i l):=by
 intro H₀ t Hf S σ H Fs o R e D h;obtain⟨a0,P,e⟩:=oBq.mp e;obtain⟨x,Q,e⟩:=oBq.mp e;obtain⟨U,X,e⟩:=oBq.mp e;rcases pM e with ⟨u,e⟩|e
 .skip
  cases e;obtain⟨p,Y,Gs,y,_,h1,_⟩:=R.ow (ql P);refine⟨.ref p,y,.inl ⟨rfl,Y,rN.of h1⟩,hl R (ds:=x.1) (S':=x.2) Q _ λHf1 H1 Fs1 b ws t1 L hb M=>?_⟩
  obtain⟨p',z,B,n,C,E,G,r,s,I,J⟩:=L.ow (ql X);rw[y]at n;cases n;refine⟨p,b,z,ws,rfl,rfl,E,hb,by rw[wq,←r.1,←M.1];exact u,h _ _ _ _ t1.sf (L.turn y C (by simp) (F':=p::(B++aw x.1.length []).flatten) (pY.news oX G ((r.keepUpd s).append (VN M))) ?_ λq O=>?_)⟩
  .rw [fAq,uQ,aNq];exact az.mpr ⟨s,I⟩
  .rw [fAq,uQ,aNq]at O;exact J q O
 .cases e
theorem BR{H:Hp}:∀{ds:List (pE×D)}{kvs:List (pE×V)}{key:pE},uw K H ds kvs->match getD ds key with
  |some d=>∃v,BQ kvs key=some v/\qB K H d v
  |none=>BQ kvs key=none
 | [],kvs,key,h=>by
  have:kvs=[]:=by
   have:=congrArg aZ h.1;simpa using this.symm
  subst this;rfl
 |d::ds,[],key,h=>by
  have:=congrArg aZ h.1;simp at this
 |d::ds,v::kvs,key,h=>by
  have h1:d.1=v.1/\ds.map (·.1)=kvs.map (·.1):=by
   have:=h.1;simpa using this
  have h2:qB K H d.2 v.2:=h.2 0 d v rfl rfl;have ht:uw K H ds kvs:=⟨h1.2,λi a b n r=>h.2 (i+1) a b (by simpa using n) (by simpa using r)⟩
  unfold getD BQ
  by_cases c:d.1=key
  .rw [bL (by simp[c]),bL (by simp[←h1.1,c])]
   exact⟨v.2,rfl,h2⟩
  .rw [bG (by simp[c]),bG (by simp[←h1.1,c])]
   exact BR ht
def yp{H:Hp}{d:D}{v:V}{key:pE}(h:wy d=some key) (r:qB K H d v):v=kV key:=by
 cases r <;> simp only[wy]at h
 all_goals first|(exfalso;simp at h;done)|skip
 all_goals (cases h;rfl)
def uw.key{H:Hp}{ds:List (pE×D)}{kvs:List (pE×V)}(h:uw K H ds kvs) {i:Nat}{d:pE×D}{v:pE×V}(n:ds[i]?=some d) (r:kvs[i]?=some v):d.1=v.1:=by
 have:=congrArg (λl=>l[i]?) h.1
 simp only[gMq,n,r,dg]at this;exact aN.inj this
def uw.len{H:Hp}{ds:List (pE×D)}{kvs:List (pE×V)}(h:uw K H ds kvs):ds.length=kvs.length:=by
 have:=congrArg aZ h.1;simpa using this
def KS{H:Hp}{ds:List (pE×D)}{kvs:List (pE×V)}{key:pE}{d:D}{v:V}(h:uw K H ds kvs) (r:qB K H d v):uw K H (wI ds key d) (xy kvs key v):=by
 have ha:(ds.any λkv=>decide (kv.1=key))=kvs.any λkv=>decide (kv.1=key):=by
  have n:(ds.any λkv=>decide (kv.1=key))=(ds.map (·.1)).any λk=>decide (k=key):=by rw[jn];rfl
  have s:(kvs.any λkv=>decide (kv.1=key))=(kvs.map (·.1)).any λk=>decide (k=key):=by rw[jn];rfl
  rw[n,s,h.1]
 unfold wI xy;rw[ha];split
 .refine ⟨?_,λi a b n s=>?_⟩
  .rw [mPq,mPq];have n:((λkv:pE×D=>kv.1)∘λkv:pE×D=>if kv.1=key then (kv.1,d) else kv)=λkv=>kv.1:=by
    funext kv;show (if kv.1=key then (kv.1,d) else kv).1=kv.1
    split <;> rfl
   have s:((λkv:pE×V=>kv.1)∘λkv:pE×V=>if kv.1=key then (kv.1,v) else kv)=λkv=>kv.1:=by
    funext kv;show (if kv.1=key then (kv.1,v) else kv).1=kv.1
    split <;> rfl
   rw[n,s];exact h.1
  .rw [gMq]at n s;obtain⟨u,f1,rfl⟩:=oMq.mp n;obtain⟨y,f2,rfl⟩:=oMq.mp s;have hk:=h.key f1 f2
   by_cases c:u.1=key
   .rw [qd c,qd (hk ▸ c)];exact r
   .rw [qh c,qh (hk ▸ c)];exact h.2 i u y f1 f2
 .refine ⟨by rw[mBq,mBq,h.1];rfl,λi a b n s=>?_⟩
  by_cases x:i<ds.length
  .rw [gZq x]at n;rw[gZq (h.len ▸ x)]at s;exact h.2 i a b n s
  .have t:i=ds.length:=by
    have:=(gSq.mp n).1;rw[lAq,lSq]at this;lia
   subst t;rw[gYq (ab _),dr]at n;rw[h.len,gYq (ab _),dr]at s;cases n;cases s;exact r
def DI:MK:=λS=>some (.owd [],S)
def AK:SK K QG DI:=by
 intro H₀ n u S σ H x y z R e Q q;cases e;intro p r;obtain⟨t,R2,s,B,C⟩:=R.new (o:=.dK []) r;exact q _ _ _ (.ref p) [p] t R2 (.owd oX s ⟨rfl,λi d v h=>by simp at h⟩) (xS.one R r)
theorem qe.owd{H₀ n Hf H:Hp}{S:AS}{σ:St}{s:List Δ}(R:qe K H₀ n Hf S σ H s) {i:Nat}{ds:List (pE×D)}(h:S[i]?=some (some (.owd ds))):∃p kvs,σ[i]?=some (some (.ref p))/\s[i]?=some [p]/\H p=some (.dK kvs)/\Hf p=none/\uw K Hf ds kvs /\
  H₀ p=none/\p∉(s.set i []).flatten:=by
 obtain⟨v,F,t,u,r,nd,o,_⟩:=R.move h;obtain⟨p,kvs,rfl,rfl,h1,h2,x⟩:=r.owd_inv;exact⟨p,kvs,t,u,h1,h2,x,(o p (by simp)).1,(o p (by simp)).2⟩
def wA{i:Nat}(hk:SK K te k) (Q:SR K tb b):SS K (V9 (yV i) tb te) (zx i b k):=by
 intro H₀ t Hf S σ H Fs o R e D h;obtain⟨x,J,e⟩:=oBq.mp e;obtain⟨a0,U,e⟩:=oBq.mp e;obtain⟨y,X,e⟩:=oBq.mp e;obtain⟨Y,e3,e⟩:=oBq.mp e;obtain⟨key,e4,e⟩:=oBq.mp e;rcases pM e with ⟨hl,e⟩|e
 .skip
  cases e;have u:SK K te (wg k):=SK.frz hk;refine u R (a:=x.1) (S':=x.2) J _ λHf1 H1 Fs1 v F t1 L M o1=>?_
  obtain⟨O,_,z,_⟩:=L.owd (Bz U);refine⟨_,z,Q L (d:=y.1) (S':=y.2) X _ λHf2 H2 Fs2 w P R2 r2=>?_⟩
  obtain⟨q',kv,n,B,C,E,r,G,I⟩:=R2.owd (Bz e3);rw[z]at n;cases n;obtain⟨x1,s⟩:∃d,x.1 = .sh d:=by
   obtain⟨w,_,e⟩:=oMq.mp J;rw[←e];exact⟨_,rfl⟩
  rw[s]at M;have rv:=(M.sh_inv.2).mono P.sf;have hw:=yp e4 r2;subst hw;refine⟨O,_,rfl,Tt.k C (by rw[wq,←r.len];exact hl),h _ _ _ _ (t1.sf.trans P.sf) (R2.turn z B (by simp) (F':=[O]) (.owd oX E ?_) (by simp) λq hq=>by rw[mSq.mp hq];exact⟨G,I⟩)⟩
  rw[s,qm];exact KS r rv
 .cases e
def abZ(a b:ME):ME:=λS=>(a S).bind λx=>(b x.2).bind λy=>match y.1 with
 | .dict kvs=>(wy x.1).map λkey=>(.bl (getD kvs key).isSome,y.2)
 |_=>none
def xM(a b:ME):ME:=λS=>(a S).bind λx=>(b x.2).bind λy=>match y.1 with
 | .dict kvs=>(wy x.1).map λkey=>(.bl (!(getD kvs key).isSome),y.2)
 |_=>none
def tX(a b:ME):ME:=λS=>(a S).bind λx=>(b x.2).bind λy=>match x.1 with
 | .dict kvs=>(wy y.1).bind λkey=>(getD kvs key).map λd=>(d,y.2)
 |_=>none
def O9{H:Hp}{kvs:List (pE×D)}{x:V}{key:pE}{d:D}(r:qB K H (.dict kvs) x) (e:getD kvs key=some d):∃a v,x = .ref a/\Ex H a (kV key) (some v)/\qB K H d v:=by
 obtain⟨p,s,rfl,h1,h2⟩:=r.dict_inv;have g:=BR (key:=key) h2;rw[e]at g;obtain⟨v,n,g2⟩:=g;exact⟨p,v,rfl,by rw[←n];exact Ex.k h1,g2⟩
def Qo{H:Hp}{kvs:List (pE×D)}{x:V}{key:pE}(r:qB K H (.dict kvs) x):∃a o,x = .ref a/\Ex H a (kV key) o/\o.isSome=(getD kvs key).isSome:=by
 obtain⟨p,s,rfl,h1,h2⟩:=r.dict_inv;have g:=BR (key:=key) h2;refine⟨p,_,rfl,Ex.k h1,?_⟩;cases e:getD kvs key with
 |none=>rw[e]at g;rw[g];rfl
 |some d=>rw[e]at g;obtain⟨v,n,_⟩:=g;rw[n];rfl
def yI{a:ME}(ha:SR K ta a) (s:SR K tb b):SR K (NC ta tb) (xM a b):=by
 intro H₀ n P S σ H U d X R e Q q;obtain⟨x,t,e⟩:=oBq.mp e;obtain⟨y,u,e⟩:=oBq.mp e;refine ha R (d:=x.1) (S':=x.2) t _ λz Y Fs1 v1 B C E=>s C (d:=y.1) (S':=y.2) u _ λG H2 Fs2 v2 I R2 r=>?_
 split at e
 .rename_i J L;rw[L]at r;obtain⟨key,M,e⟩:=oMq.mp e;cases e;obtain⟨p,o,rfl,O,g2⟩:=Qo (key:=key) r;refine⟨p,o,rfl,by rw[yp M E];exact O,?_⟩
  rw[g2];exact q _ _ _ _ (B.trans I) R2 .bl
 .cases e
def uf{a:ME}(ha:SR K ta a) (t:SR K tb b):SR K (Tj ta tb) (tX a b):=by
 intro H₀ n U S σ H X d Y R e Q q;obtain⟨x,u,e⟩:=oBq.mp e;obtain⟨y,z,e⟩:=oBq.mp e;refine ha R (d:=x.1) (S':=x.2) u _ λB H1 Fs1 v1 C E r=>t E (d:=y.1) (S':=y.2) z _ λG H2 Fs2 v2 s R2 I=>?_
 split at e
 .rename_i J L;rw[L]at r;obtain⟨key,M,e⟩:=oBq.mp e;obtain⟨d',O,e⟩:=oMq.mp e;cases e;obtain⟨p,v,rfl,P,g2⟩:=O9 (r.mono s.sh) O;exact⟨p,v,rfl,by rw[yp M I];exact P,q _ _ _ _ (C.trans s) R2 g2⟩
 .cases e
end
def ur(x:Nat) (body:MS):List D->AS->Option Oq
 | [],S=>some (.nx S)
 |d::ds,S=>(body (S.set x (some (.sh d)))).bind λo=>match o with
  | .nx S'=>ur x body ds S'
  | .ct S'=>ur x body ds S'
  | .bk S'=>some (.nx S')
  | .rt a=>some (.rt a)
def uH:D->Option (List D)
 | .list ds=>some ds
 | .scr ns=>some (ns.map .int)
 |_=>none
def BK(x:Nat) (k:MK) (body:MS):MS:=λS=>(wg k S).bind λy=>(uH (oN y.1)).bind λds=>ur x body ds y.2
def qc(lo:Int) (n:Nat):List D:=(bJ n).map λi:Nat=>.int (lo+i)
def FF:List D->Option (List D)
 | [.int j]=>uR (-(2 ^ 62)<=j/\j<2 ^ 62) (some (qc 0 j.toNat))
 |_=>none
def aa3:List D->Option (List D)
 | [.int i,.int j]=>uR (-(2 ^ 62)<=i/\i<2 ^ 62/\-(2 ^ 62)<=j/\j<2 ^ 62) (some (qc i (j-i).toNat))
 |_=>none
def Br(x:Nat) (a:ML) (body:MS):MS:=λS=>(a S).bind λy=>(FF y.1).bind λds=>ur x body ds y.2
def aaE(x:Nat) (a:ML) (body:MS):MS:=λS=>(a S).bind λy=>(aa3 y.1).bind λds=>ur x body ds y.2
def Dk(x y:Nat) (body:MS):Nat->List D->AS->Option Oq
 |_,[],S=>some (.nx S)
 |i,d::ds,S=>(body ((S.set x (some (.sh (.int i)))).set y (some (.sh d)))).bind λo=>match o with
  | .nx S'=>Dk x y body (i+1) ds S'
  | .ct S'=>Dk x y body (i+1) ds S'
  | .bk S'=>some (.nx S')
  | .rt a=>some (.rt a)
def M1(x y:Nat) (k:MK) (body:MS):MS:=λS=>(wg k S).bind λz=>(uH (oN z.1)).bind λds=>Dk x y body 0 ds z.2
def Ak(x y:Nat) (body:MS):List D->List D->AS->Option Oq
 |d::ds,e::es,S=>(body ((S.set x (some (.sh d))).set y (some (.sh e)))).bind λo=>match o with
  | .nx S'=>Ak x y body ds es S'
  | .ct S'=>Ak x y body ds es S'
  | .bk S'=>some (.nx S')
  | .rt a=>some (.rt a)
 |_,_,S=>some (.nx S)
def RQ(x y:Nat) (k l:MK) (body:MS):MS:=λS=>(wg k S).bind λz=>(wg l z.2).bind λw=>(uH (oN z.1)).bind λds=>(uH (oN w.1)).bind λes =>
 if ds.length=es.length then Ak x y body ds es w.2 else none
def tO(c:MT) (body:MS):Nat->MS
 |0,_=>none
 |n+1,S=>(c S).bind λx=>if x.1=true then (body x.2).bind λo=>match o with
   | .nx S'=>tO c body n S'
   | .ct S'=>tO c body n S'
   | .bk S'=>some (.nx S')
   | .rt a=>some (.rt a)
  else some (.nx x.2)
section
variable {K:Ζ}{te tf:TE}{k l:MK}{tb:TS}{body:MS}{x y:Nat}
def yo{H:Hp}{d:D}{ds:List D}{v:V}(e:uH d=some ds) (r:qB K H d v):∃a vs,v = .ref a/\rN K H a vs/\pU K H ds vs:=by
 cases d with
 |list s =>
  cases e;obtain⟨p,vs,rfl,h1,h2⟩:=r.list_inv;exact⟨p,vs,rfl,rN.of h1,h2⟩
 |scr n =>
  cases e;cases r with
  |scr h=>exact⟨_,_,rfl,h,uN n⟩
 |_=>cases e
def AA{te:TE}{S:AS}{z:AV×AS}(e:wg k S=some z):∃d,z.1 = .sh d:=by
 obtain⟨w,_,e⟩:=oMq.mp e;rw[←e];exact⟨_,rfl⟩
def qe.setD{H₀ n Hf H:Hp}{S:AS}{σ:St}{s:List Δ}{d:D}{v:V}(R:qe K H₀ n Hf S σ H s) (i:Nat) (r:qB K Hf d v):qe K H₀ n Hf (S.set i (some (.sh d))) (σ.set i (some v)) H (s.set i []) :=
 R.set i (.sh r) aT λq h=>(by cases h)
def wu(hk:SK K te k) (hb:SS K tb body):SS K (Po (Ri K te) (sq x) tb) (BK x k body):=by
 intro H₀ B Hf S σ H Fs o R e D h;obtain⟨z,e1,e⟩:=oBq.mp e;obtain⟨X,e2,e⟩:=oBq.mp e;have Y:SK K te (wg k):=SK.frz hk;refine Y R (a:=z.1) (S':=z.2) e1 _ λE H1 Fs1 v F t1 R1 r1 o1=>?_
 obtain⟨d,hd⟩:=AA (te:=te) e1;rw[hd]at r1;rw[hd,qm]at e2;obtain⟨a,vs,rfl,g1,g2⟩:=yo e2 r1.sh_inv.2;refine⟨a,rfl,⟨vs,R1.sub.seq g1⟩,Rk (xs:=vs) (λi r P=>∃n G s,qe K H₀ B n G r P s/\pO E n/\ur x body (X.drop i) G=some o) ⟨E,z.2,Fs1,R1,.refl _,e⟩
  (λi r P _ ⟨n,G,s,I,u,_⟩=>I.sub.seq (u.seq g1)) ?_ ?_⟩
 .rintro i w r P hw ⟨n,G,s,I,u,C⟩;obtain⟨di,J,rw'⟩:=g2.get' hw;have hlt:i<X.length:=(gSq.mp J).1;rw[aA hlt]at C;have L:X[i]=di:=(gSq.mp J).2;rw[L]at C;obtain⟨ob,e3,Q⟩:=oBq.mp C;refine hb (I.setD x (rw'.mono u)) e3 _ ?_;cases ob with
  |nx U=>exact λt M H2 Fs2 O R2=>⟨t,U,Fs2,R2,u.trans O,Q⟩
  |ct U=>exact λt M H2 Fs2 O R2=>⟨t,U,Fs2,R2,u.trans O,Q⟩
  |bk U=>cases Q;exact λt M H2 Fs2 O R2=>h _ _ _ _ ((t1.sf.trans u).trans O) R2
  |rt a=>cases Q;exact h
 .rintro r P ⟨n,G,s,I,u,C⟩;rw[←g2.1,eI]at C;cases C;exact h _ _ _ _ (t1.sf.trans u) I
def O5{H₀ r Hf1 U:Hp}{P:AS}{σ:St}{Fs1:List Δ}{o:Oq}{D:A5}{lo:Int}{n:Nat}(Y:SS K tb body) (R1:qe K H₀ r Hf1 P σ U Fs1) (e:ur x body (qc lo n) P=some o) (h:GR K H₀ r Hf1 D o) :
  ∃W:Nat->Nat->St->Hp->Prop,(∃m,W 0 m σ U)/\∀i m σ H,W i m σ H ->
   ((UZ lo n).stop i H/\D.nx σ H)∨((UZ lo n).go i H/\∃N:St->Hp->Prop,(∀s t,N s t->∃X,X<m/\W (i+1) X s t)/\∀v t,(UZ lo n).yld i H v t->sq x v σ t λu J=>tb { D with nx:=N,ct:=N,bk:=D.nx } u J):=by
 refine Pt (λi s t=>∃z L C,qe K H₀ r z L s t C/\pO Hf1 z/\ur x body ((qc lo n).drop i) L=some o) ⟨Hf1,P,Fs1,R1,.refl _,e⟩ ?_ ?_
 .rintro i s t hi ⟨z,L,C,Q,G,E⟩;have R:i<(qc lo n).length:=by unfold qc;rw[lMq,bw];exact hi
  rw[aA R]at E;have S:(qc lo n)[i] = .int (lo+i):=by simp[qc]
  rw[S]at E;obtain⟨ob,e3,M⟩:=oBq.mp E;refine Y (Q.setD x .int) e3 _ ?_;cases ob with
  |nx O=>exact λB u J Fs2 I R2=>⟨B,O,Fs2,R2,G.trans I,M⟩
  |ct O=>exact λB u J Fs2 I R2=>⟨B,O,Fs2,R2,G.trans I,M⟩
  |bk O=>cases M;exact λB u J Fs2 I R2=>h _ _ _ _ (G.trans I) R2
  |rt a=>cases M;exact h
 .rintro s t ⟨z,L,C,Q,G,E⟩;have hl:(qc lo n).length=n:=by unfold qc;rw[lMq,bw]
  rw[cJ (dQ hl)]at E;cases E;exact h _ _ _ _ G Q
def Ab{s:TA}{a:ML}(ha:Tu K s a) (B:SS K tb body):SS K (Po (Q9 s) (sq x) tb) (Br x a body):=by
 intro H₀ r L S σ H M o R e D h;obtain⟨z,C,e⟩:=oBq.mp e;obtain⟨O,n,e⟩:=oBq.mp e;refine ha R (ds:=z.1) (S':=z.2) C _ λE P Fs1 Q G I t=>?_
 unfold FF at n;split at n
 .rename_i j J;rcases pM n with ⟨u,n⟩|n
  .skip
   cases n;rw[J]at t;obtain⟨v,U,rfl,h1,h2⟩:=t.cons_inv;rw[h2.nil_inv];cases h1;exact⟨j,rfl,u.1,u.2,O5 B I e (h.mono G.sf)⟩
  .cases n
 .cases n
def On(hk:SK K te k) (hb:SS K tb body):SS K (Po (Wo K (sW te wk)) (Lg K 2 (yA (sq x) (yA (sq y) Md))) tb) (M1 x y k body):=by
 intro H₀ B Hf S σ H Fs o R e D h;obtain⟨z,e1,e⟩:=oBq.mp e;obtain⟨X,e2,e⟩:=oBq.mp e;have Y:SK K te (wg k):=SK.frz hk;refine Y R (a:=z.1) (S':=z.2) e1 _ λE H1 Fs1 v F t1 R1 r1 o1=>?_
 obtain⟨d,hd⟩:=AA (te:=te) e1;rw[hd]at r1;rw[hd,qm]at e2;obtain⟨a,vs,rfl,g1,g2⟩:=yo e2 r1.sh_inv.2;refine⟨a,rfl,⟨vs,R1.sub.seq g1⟩,RG (xs:=vs) (λi r P=>∃n G s,qe K H₀ B n G r P s/\pO E n/\Dk x y body i (X.drop i) G=some o) ⟨E,z.2,Fs1,R1,.refl _,e⟩
  (λi r P _ ⟨n,G,s,I,u,_⟩=>I.sub.seq (u.seq g1)) ?_ ?_⟩
 .rintro i w r P T hw ⟨n,G,s,I,u,C⟩ hT;obtain⟨di,J,rw'⟩:=g2.get' hw;have hlt:i<X.length:=(gSq.mp J).1;rw[aA hlt]at C;have L:X[i]=di:=(gSq.mp J).2;rw[L]at C;obtain⟨ob,e3,Q⟩:=oBq.mp C;have R2:=(I.new (o:=.tup [.int i,w]) hT).2.1;refine hb ((R2.setD x .int).setD y (rw'.mono u)) e3 _ ?_;cases ob with
  |nx U=>exact λt M H2 Fs2 O R2=>⟨t,U,Fs2,R2,u.trans O,Q⟩
  |ct U=>exact λt M H2 Fs2 O R2=>⟨t,U,Fs2,R2,u.trans O,Q⟩
  |bk U=>cases Q;exact λt M H2 Fs2 O R2=>h _ _ _ _ ((t1.sf.trans u).trans O) R2
  |rt a=>cases Q;exact h
 .rintro r P ⟨n,G,s,I,u,C⟩;rw[←g2.1,eI]at C;cases C;exact h _ _ _ _ (t1.sf.trans u) I
def U7(hk:SK K te k) (hl:SK K tf l) (hb:SS K tb body):SS K (Po (Za K (sW te (sW tf wk))) (Lg K 2 (yA (sq x) (yA (sq y) Md))) tb) (RQ x y k l body):=by
 intro H₀ C Hf S σ H Fs o R e D h;obtain⟨z,e1,e⟩:=oBq.mp e;obtain⟨w,J,e⟩:=oBq.mp e;obtain⟨ds,e2,e⟩:=oBq.mp e;obtain⟨es,L,e⟩:=oBq.mp e;split at e
 .rename_i M;have hk':SK K te (wg k):=SK.frz hk;have hl':SK K tf (wg l):=SK.frz hl;refine hk' R (a:=z.1) (S':=z.2) e1 _ λHf1 H1 Fs1 v F t1 R1 r1 o1=>hl' R1 (a:=w.1) (S':=w.2) J _ λn H2 Fs2 v2 F2 t2 R2 r2 o2=>?_
  obtain⟨d,hd⟩:=AA (te:=te) e1;obtain⟨d2,O⟩:=AA (te:=te) J;rw[hd]at r1;rw[hd,qm]at e2;rw[O]at r2;rw[O,qm]at L;obtain⟨a,P,rfl,g1,g2⟩:=yo e2 (r1.sh_inv.2.mono t2.sf);obtain⟨b,ws,rfl,g3,g4⟩:=yo L r2.sh_inv.2;refine⟨a,b,rfl,⟨P,R2.sub.seq g1⟩,⟨ws,R2.sub.seq g3⟩,U4 (xs:=P) (ys:=ws) (λi t H'=>∃r E B,qe K H₀ C r E t H' B/\pO n r/\Ak x y body (ds.drop i) (es.drop i) E=some o) ⟨n,w.2,Fs2,R2,.refl _,e⟩ (by rw[←g2.1,←g4.1,M])
   (λi t H' _ ⟨r,E,B,G,s,_⟩=>⟨G.sub.seq (s.seq g1),G.sub.seq (s.seq g3)⟩) ?_ ?_⟩
  .rintro i u u' t H' T hu hu' ⟨r,E,B,G,s,I⟩ hT;obtain⟨di,Q,rw'⟩:=g2.get' hu;obtain⟨ei,U,rw2⟩:=g4.get' hu';have hlt:i<ds.length:=(gSq.mp Q).1;have X:i<es.length:=(gSq.mp U).1;rw[aA hlt,aA X,(gSq.mp Q).2,(gSq.mp U).2]at I;obtain⟨ob,e3,e4⟩:=oBq.mp I;have R3:=(G.new (o:=.tup [u,u']) hT).2.1;refine hb ((R3.setD x (rw'.mono s)).setD y (rw2.mono s)) e3 _ ?_;cases ob with
   |nx S2=>exact λn Y H2 Fs2 s2 R2=>⟨n,S2,Fs2,R2,s.trans s2,e4⟩
   |ct S2=>exact λn Y H2 Fs2 s2 R2=>⟨n,S2,Fs2,R2,s.trans s2,e4⟩
   |bk S2=>cases e4;exact λn Y H2 Fs2 s2 R2=>h _ _ _ _ (((t1.sf.trans t2.sf).trans s).trans s2) R2
   |rt a=>cases e4;exact h
  .rintro t H' ⟨r,E,B,G,s,I⟩;have e0:ds.drop P.length=[]:=by rw[←g2.1,eI]
   rw[e0]at I;have e0':Ak x y body [] (es.drop P.length) E=some (.nx E):=by
    cases es.drop P.length <;> rfl
   rw[e0']at I;cases I;exact h _ _ _ _ ((t1.sf.trans t2.sf).trans s) G
 .cases e
def Ce{c:TT}{m:MT}(n:Nat) (hc:GS K c m) (hb:SS K tb body):SS K (RW c tb) (tO m body n):=by
 intro H₀ s Q S σ H Fs o R e D h;refine⟨λn E X=>∃r C u,qe K H₀ s r C E X u/\pO Q r/\tO m body n C=some o,⟨n,Q,S,Fs,R,.refl _,e⟩,?_⟩
 rintro n E X ⟨r,C,u,R',J,Y⟩;cases n with
 |zero=>cases Y
 |succ n =>
  obtain⟨z,e1,U⟩:=oBq.mp Y;refine hc R' (b:=z.1) (S':=z.2) e1 _ λHf1 H1 Fs1 L R1=>?_
  split at U
  .rename_i M;rw[M];refine JE ⟨λt G=>∃r C u,qe K H₀ s r C t G u/\pO Q r/\tO m body n C=some o,λt G w=>⟨n,eG n,w⟩,?_⟩
   obtain⟨ob,e3,O⟩:=oBq.mp U;refine hb R1 e3 _ ?_;cases ob with
   |nx P=>exact λB t G Fs2 I R2=>⟨B,P,Fs2,R2,(J.trans L.sf).trans I,O⟩
   |ct P=>exact λB t G Fs2 I R2=>⟨B,P,Fs2,R2,(J.trans L.sf).trans I,O⟩
   |bk P=>cases O;exact λB t G Fs2 I R2=>h _ _ _ _ ((J.trans L.sf).trans I) R2
   |rt a=>cases O;exact h
  .rename_i M;rw[dA]at M;rw[M];cases U;exact KI (h _ _ _ _ (J.trans L.sf) R1)
end
def rO(l n:Nat) (m:MS):MF:=λds=>if ds.length=l then (m (ds.map (λd=>some (.sh d))++aw (n-ds.length) none)).bind λo=>match o with
  | .rt a=>some a
  | .nx _=>some (.sh .non)
  |_=>none
 else none
def GT{K:Ζ}{Hf H:Hp}{ds:List D}{vs:List V}(N:List Str) (s:pO Hf H) (r:pU K Hf ds vs) :
  qe K H Hf Hf (ds.map (λd=>some (.sh d))++aw (N.length-ds.length) none) (L2.yD N vs) H (aw (ds.length+(N.length-ds.length)) []):=by
 have fl:=uQ (ds.length+(N.length-ds.length));refine⟨by simp[L2.yD,r.1],by simp,λi z e=>?_,λi e=>?_,by rw[fl];exact aT,λp n=>(by rw[fl]at n;cases n),s,pO.refl _,λb h _=>h,pO.refl _⟩
 .by_cases l:i<ds.length
  .rw [gZq (by simpa using l),gMq]at e
   obtain⟨d,t,u⟩:=oMq.mp e;cases u;obtain⟨v,x,y⟩:=r.get t;refine⟨v,[],?_,?_,.sh y⟩
   .unfold L2.yD;rw[gZq (by simpa [←r.1] using l),gMq,x]
    rfl
   .rw [cF,qd (by lia)]
  .rw [gYq (by simpa using l)]at e
   have:=mGq e;rw[dO this]at e;have h2:=dO this;cases h2
 .rw [cF];have l:=(gSq.mp e).1;rw[lAq,lMq,bx]at l;rw[qd l]
def JM{K:Ζ}{t:TS}{m:MS}{B:Nat}(N:List Str) (h:SS K t m) {vs:List V}{H:Hp}{Q:VK}{E:XK}(C:rK K (rO B N.length m) vs H Q E):t { nx:=λ_ u=>Q .non u,rt:=Q } (L2.yD N vs) H:=by
 obtain⟨O,P,a,s,r,e,q⟩:=C;unfold rO at e;split at e
 .obtain ⟨o,G,x⟩:=oBq.mp e;refine h (GT N s r) G _ ?_;cases o with
  |rt S =>
   cases x;exact λn u v F y I J l r nd fr=>q n u v F y I J l r nd fr
  |nx z =>
   cases x;exact λn L u M y R=>q n u .non [] R.sf R.fr R.sub R.lim (.sh .non) aT λq h=>(by cases h)
  |bk z=>cases x
  |ct z=>cases x
 .cases e
def Tg{K:Ζ}{m:MS}{l n:Nat}{vs:List V}{H:Hp}{Q:VK}{E:XK}(t:rK K (rO l n m) vs H Q E):vs.length=l:=by
 obtain⟨u,x,a,s,r,e,q⟩:=t;unfold rO at e;split at e
 .rename_i h;rw[←r.1,h]
 .cases e
def fzAll:Θ->AS->Option AS
 | [],S=>some S
 |j::js,S=>(S[j]?.join).bind λa=>fzAll js (S.set j (some (.sh (oN a))))
def XD:Option AV->Option AV
 |some (.sh d)=>some (.sh d)
 |_=>none
def IJ(S:AS):Θ->Option AS
 | []=>some []
 |j::js=>(XD S[j]?.join).bind λa=>(IJ S js).map (some a :: ·)
def qY(l:MT) (te:MK) (cap:AS):List D->Option (List AV)
 | []=>some []
 |d::ds=>(l (some (.sh d)::cap)).bind λb=>if b.1=true then (te b.2).bind λa=>(qY l te cap ds).map (a.1 :: ·) else qY l te cap ds
abbrev MI:=AS->Option (List D×AS)
def zY(k:MK):MI:=λS=>(wg k S).bind λy=>(uH (oN y.1)).map λds=>(ds,y.2)
def Yy(a:ML):MI:=λS=>(a S).bind λy=>(FF y.1).map λds=>(ds,y.2)
def uu(l:MI) (fr:Θ) (s:MT) (te:MK):MK:=λS=>(l S).bind λy=>(fzAll fr y.2).bind λr=>(IJ r fr).bind λcap=>uR (y.1.length<=rH) ((qY s te cap y.1).map λn=>(.ow n,r))
def qA:MT:=λS=>some (true,S)
section
variable {K:Ζ}{H₀ Hf₀ Hf Hf' H H':Hp}{S S':AS}{σ:St}{Fs Fs':List Δ}
def qe.fz(R:qe K H₀ Hf₀ Hf S σ H Fs) {j:Nat}{a:AV}(e:S[j]?.join=some a):∃Hf' Fs',yM Hf H Fs Hf' H Fs'/\qe K H₀ Hf₀ Hf' (S.set j (some (.sh (oN a)))) σ H Fs':=by
 obtain⟨v,F,s,t,r,nd,o,u⟩:=R.move (pZ e);have n:∀q∈F,Hf q=none:=λq l=>(r.owned q l).2
 have R2:=u.frz o n;have x:=r.frozen (tx (H:=H) n) λq l=>BI l
 have y:=R2.again (F:=F) (G:=[]) s (.sh x) aT λq h=>(by cases h)
 refine⟨_,_,⟨tx n,.refl _,λp z=>qS z,λb h g=>?_⟩,y⟩
 by_cases m:b∈F
 .exact .inr (mFq.mpr ⟨F,mGq t,m⟩)
 .rw [uC m]at g;exact absurd h g
theorem qe.fzAll:∀{fr:Θ}{Hf:Hp}{S S':AS}{Fs:List Δ},qe K H₀ Hf₀ Hf S σ H Fs->fzAll fr S=some S'->∃Hf' Fs',yM Hf H Fs Hf' H Fs'/\qe K H₀ Hf₀ Hf' S' σ H Fs'
 | [],Hf,S,S',Fs,R,e=>by
  cases e;exact⟨Hf,Fs,.refl,R⟩
 |j::js,Hf,S,S',Fs,R,e=>by
  obtain⟨a,n,r⟩:=oBq.mp e;obtain⟨s,Fs1,t,u⟩:=R.fz n;obtain⟨l,Fs2,x,R2⟩:=qe.fzAll u r;exact⟨l,Fs2,t.trans x,R2⟩
theorem JU(R:qe K H₀ Hf₀ Hf S σ H Fs):∀{fr:Θ}{cap:AS},IJ S fr=some cap->cap.length=fr.length/\∀(k:Nat) (a:AV),cap[k]?=some (some a)->∃d v,a = .sh d/\(slots σ fr)[k]?=some (some v)/\qB K Hf d v
 | [],cap,e=>by
  cases e;exact⟨rfl,λk a h=>by simp at h⟩
 |j::js,cap,e=>by
  obtain⟨a,l,t⟩:=oBq.mp e;obtain⟨s,u,x⟩:=oMq.mp t;subst x;obtain⟨h1,h2⟩:=JU R u;refine⟨by simp[h1],λk b hk=>?_⟩
  cases k with
  |zero =>
   cases hk;cases n:S[j]?.join with
   |none=>rw[n]at l;cases l
   |some c =>
    rw[n]at l;cases c with
    |sh d =>
     cases l;obtain⟨v,F,y,z,r⟩:=R.rep j _ (pZ n);refine⟨d,v,rfl,?_,r.sh_inv.2⟩;show some ((σ[j]?).join)=_;rw[y];rfl
    |_=>cases l
  |succ k=>exact h2 k b (by simpa using hk)
def OB(R:qe K H₀ Hf₀ Hf S σ H Fs) {fr:Θ}{cap:AS}(e:IJ S fr=some cap) {d:D}{x:V}(s:qB K Hf d x) :
  qe K H₀ Hf₀ Hf (some (.sh d)::cap) (some x::slots σ fr) H (aw (cap.length+1) []):=by
 obtain⟨h1,h2⟩:=JU R e;have fl:=uQ (cap.length+1);refine⟨by simp[slots,h1],by simp,λi t l=>?_,λi l=>?_,by rw[fl];exact aT,λp n=>(by rw[fl]at n;cases n),R.sub,R.fr,R.lim,R.sf⟩
 .cases i with
  |zero =>
   cases l;exact⟨x,[],rfl,by simp,.sh s⟩
  |succ k =>
   have hk:k<cap.length:=(gSq.mp (by simpa using l)).1
   obtain⟨z,v,rfl,u,r⟩:=h2 k t (by simpa using l)
   exact⟨v,[],by simpa using u,by rw[cF,qd (by lia)],.sh r⟩
 .rw [cF];have y:=(gSq.mp l).1;rw[qd (by simpa using y)]
def qe.updOut(R:qe K H₀ Hf₀ Hf S σ H Fs) {p:Addr}{o:HO}(h1:p∉Fs.flatten) (h2:Hf p=none) (n:H₀ p=none):qe K H₀ Hf₀ Hf S σ (qP H p o) Fs where
 len:=R.len
 lenF:=R.lenF
 rep:=λi s e=>by
  obtain⟨v,F,t,l,r⟩:=R.rep i s e;exact⟨v,F,t,l,r.keepUpd λm=>h1 (qu l m)⟩
 emp:=R.emp
 nd:=R.nd
 fresh:=R.fresh
 sub:=λb u e=>by
  rw[oP λz=>by rw[z,h2]at e;cases e]
  exact R.sub b u e
 fr:=λb u e=>by
  rw[oP λz=>by rw[z,n]at e;cases e]
  exact R.fr b u e
 lim:=R.lim
 sf:=R.sf
def qe.outer{s:St}{Fs2 n:List Δ}{l r:Hp}{y:AS}(R:qe K H₀ Hf₀ Hf S σ H Fs) (u:qe K H₀ Hf₀ l y s r n) (t:yM Hf H Fs2 l r n) (B:Fs2.flatten=[]):yM Hf H Fs l r Fs/\qe K H₀ Hf₀ l S σ r Fs:=by
 have g:∀b,Hf b=none->H b≠none->l b=none:=λb h1 h2=>by
  by_cases e:l b=none
  .exact e
  .rcases t.gr b h1 e with z|z
   .exact absurd z h2
   .rw [B]at z;cases z
 exact⟨⟨t.sf,t.sh,λ_ h=>h,λb h1 h2=>.inl (by
  by_cases e:H b=none
  .exact e
  .exact absurd (g b h1 e) h2)⟩,R.more t.sh t.sf u.sub (λq x=>g q (R.mem x).2 (R.mem x).1) u.lim⟩
end
section
variable {K:Ζ}{tf:TT}{te:TE}{mf:MT}{me:MK}{fr:Θ}
def Ha{H₀ r Hf1 E:Hp}{S1:AS}{σ:St}{Fs1:List Δ}{cap:AS}{ds:List D}{G:List AV}{J:It}{Q:VK}(hf:GS K tf mf) (he:SK K te me)
  (R1:qe K H₀ r Hf1 S1 σ E Fs1) (ec:IJ S1 fr=some cap) (hl:ds.length<=rH) (e:qY mf me cap ds=some G)
  (hgo:∀i H,pO Hf1 H->i<ds.length->J.go i H) (hst:∀H,pO Hf1 H->J.stop ds.length H) (hy:∀i H x n,pO Hf1 H->i<ds.length->J.yld i H x n->n=H/\∃d,ds[i]?=some d/\qB K Hf1 d x)
  (q:∀X n v F,yM Hf1 E Fs1 X n Fs1->qe K H₀ r X S1 σ n Fs1->pY K X n (.ow G) v F->xS H₀ E Fs1 Fs1 F->Q v n) :
  ∀l,E l=none->∃W:Nat->Nat->Hp->Prop,(∃m,W 0 m (qP E l (.lst [])))/\∀i m H,W i m H ->
   (J.stop i H/\Q (.ref l) H) ∨
   (J.go i H/\∃N:Hp->Prop,(∀n,N n->∃m',m'<m/\W (i+1) m' n)/\∀x n,J.yld i H x n->tf (some x::slots σ fr) n λb H2 =>
    if b=true then te (some x::slots σ fr) H2 λy H3=>∃ys,H3 l=some (.lst ys)/\ys.length<jD/\N (qP H3 l (.lst (ys++[y]))) else N H2):=by
 intro l u;obtain⟨t0,R0,n1,n2,n3⟩:=R1.new (o:=.lst []) u
 let P:Nat->Hp->Prop:=λi H=>∃Hf as M Y sA,qe K H₀ r Hf S1 σ H Fs1/\yM Hf1 E Fs1 Hf H Fs1/\H l=some (.lst M)/\Hf l=none/\qa K Hf H as M Y/\xS H₀ E Fs1 Fs1 (l::Y.flatten)/\as.length<=i /\
  qY mf me cap (ds.drop i)=some sA/\G=as++sA
 refine⟨λi m H=>m=ds.length-i/\i<=ds.length/\P i H,⟨ds.length,by simp,aE _,Hf1,[],[],[],G,R0,t0,oX,n1,.nil,xS.one R1 u,aE _,e,rfl⟩,?_⟩
 rintro i m H ⟨rfl,hi,Hf,as,M,Y,sA,R,t,ha,hfa,ra,ow,la,er,ea⟩;have hs:pO Hf1 H:=t.sf.trans R.sub
 by_cases I:i<ds.length
 .refine .inr ⟨hgo i H hs I,P (i+1),λn p=>⟨ds.length-(i+1),by lia,rfl,I,p⟩,λx n y=>?_⟩
  obtain⟨rfl,d,hd,rx⟩:=hy i H x n hs I y;rw[aA I,(gSq.mp hd).2]at er;obtain⟨b,e1,e2⟩:=oBq.mp er;have fl:=uQ (cap.length+1);refine hf (OB R ec (rx.mono t.sf)) (b:=b.1) (S':=b.2) e1 _ λHf2 H2 Fs2 t2 R2=>?_
  obtain⟨L,R2'⟩:=R.outer R2 t2 fl;have B:H2 l=some (.lst M):=t2.sh _ _ ha;have O:Hf2 l=none:=by
   by_cases z:Hf2 l=none
   .exact z
   .rcases t2.gr l hfa z with z|z
    .rw [ha]at z;cases z
    .rw [fl]at z;cases z
  have ra2:=ra.stp (λq C=>ow.out q (mCo _ C)) L
  split at e2
  .rename_i hb;rw[hb];refine JE ?_;obtain⟨a,e3,e4⟩:=oBq.mp e2;obtain⟨rest',e5,e6⟩:=oMq.mp e4;subst e6;refine he R2 (a:=a.1) (S':=a.2) e3 _ λHf3 H3 Fs3 v F t3 R3 r3 o3=>?_
   have fl2:Fs2.flatten=[]:=by
    cases hz:Fs2.flatten with
    |nil=>rfl
    |cons z zs =>
     have:=t2.own z (by rw[hz];simp)
     rw[fl]at this;cases this
   obtain⟨t3',R3'⟩:=R2'.outer R3 t3 fl2;have ha3:H3 l=some (.lst M):=t3.sh _ _ B;have S:Hf3 l=none:=by
    by_cases z:Hf3 l=none
    .exact z
    .rcases t3.gr l O z with z|z
     .rw [B]at z;cases z
     .rw [fl2]at z;cases z
   have ra3:=ra2.stp (λq C=>ow.out q (mCo _ C)) t3'
   have s:∀q∈F,H2 q=none:=λq C=>(o3.new q C).elim id λz=>by rw[fl2]at z;cases z
   have U:l∉F:=λm=>by rw[s l m]at B;cases B
   have accG:l∉Y.flatten:=(az.mp ow.nd).1;have tt:=(t.trans L).trans t3';refine⟨M,ha3,?_,?_⟩
   .rw [wq,←ra.1];lia
   .refine ⟨Hf3,as++[a.1],M++[v],Y++[F],rest',R3'.updOut n3 S n2,⟨tt.sf,λb o eb=>?_,λ_ h=>h,tt.gr⟩,oX,S,(ra3.keepUpd accG).snoc (r3.keepUpd U),?_,by rw[lAq,lSq];lia,e5,by rw[ea];simp⟩
    .rw [oP λz=>by rw[z,u]at eb;cases eb]
     exact tt.sh b o eb
    .rw [fAq,aS];have oF:xS H₀ E Fs1 Fs1 F:=⟨o3.nd,o3.fr,λq C m=>(R2'.mem m).1 (s q C),λq C=>.inl ((t.trans L).sh.free (s q C))⟩
     refine(show xS H₀ E Fs1 Fs1 ((l::Y.flatten)++F) from ow.app oF λq C m=>?_)
     rcases ah.mp C with z|z
     .rw [z]at m;exact U m
     .exact (ra2.owned q z).1 (s q m)
  .rename_i hb;rw[dA]at hb;rw[hb];exact KI ⟨Hf2,as,M,Y,sA,R2',t.trans L,B,O,ra2,ow,by lia,e2,ea⟩
 .have e0:i=ds.length:=by lia
  subst e0;rw[eI]at er;cases er;rw[aNq]at ea;subst ea;exact .inl ⟨hst H hs,q Hf H (.ref l) _ t R (pY.news ha hfa ra) ow⟩
def sH{tl:TE}{k:MK}(hk:SK K tl k) (hf:GS K tf mf) (O:SK K te me):SK K (NK (Ri K tl) fr tf te) (uu (zY k) fr mf me):=by
 intro H₀ B Hf S σ H Fs av S' R e Q q;obtain⟨y,l,e⟩:=oBq.mp e;obtain⟨z,I,l⟩:=oBq.mp l;obtain⟨ds,J,l⟩:=oMq.mp l;subst l;obtain⟨S2,P,e⟩:=oBq.mp e;obtain⟨U,X,e⟩:=oBq.mp e;rcases pM e with ⟨hl,e⟩|e
 .obtain ⟨Y,e5,e⟩:=oMq.mp e;cases e;have C:SK K tl (wg k):=SK.frz hk;refine C R (a:=z.1) (S':=z.2) I _ λHf1 H1 Fs1 v F L R1 M o1=>?_
  obtain⟨d,hd⟩:=AA (te:=tl) I;rw[hd]at M;rw[hd,qm]at J;obtain⟨Hf2,Fs2,E,R2⟩:=R1.fzAll P;obtain⟨a,n,rfl,u,g2⟩:=yo J (M.sh_inv.2.mono E.sf);refine⟨a,rfl,⟨n,R2.sub.seq u⟩,Ha (K:=K) hf O R2 X hl e5 (λi H s G=>⟨n,n[i]'(g2.1 ▸ G),s.seq u,gEg (g2.1 ▸ G)⟩) (λH s=>⟨n,s.seq u,dQ g2.1.symm⟩) (λi H x H' s G y=>?_) λHf' H' v F t R' r o=>q _ _ _ v F ((L.trans E).trans t) R' r (o.back (L.trans E))⟩
  obtain⟨y1,y2⟩:=y;obtain⟨di,h1,h2⟩:=g2.get' (y2 n (s.seq u));exact⟨y1,di,h1,h2⟩
 .cases e
def zh{lo:Int}{n i:Nat}(h:i<n):(qc lo n)[i]?=some (.int (lo+i)):=by
 unfold qc;rw[gMq,fY h];rfl
def pX(lo:Int) (n:Nat):(qc lo n).length=n:=by unfold qc;rw[lMq,bw]
def A4{C:TA}{a:ML}(ha:Tu K C a) (hf:GS K tf mf) (L:SK K te me):SK K (NK (Q9 C) fr tf te) (uu (Yy a) fr mf me):=by
 intro H₀ B Hf S σ H Fs av S' R e Q q;obtain⟨y,n,e⟩:=oBq.mp e;obtain⟨z,M,n⟩:=oBq.mp n;obtain⟨ds,l,n⟩:=oMq.mp n;subst n;obtain⟨S2,O,e⟩:=oBq.mp e;obtain⟨P,U,e⟩:=oBq.mp e;rcases pM e with ⟨hl,e⟩|e
 .obtain ⟨X,Y,e⟩:=oMq.mp e;cases e;refine ha R (ds:=z.1) (S':=z.2) M _ λHf1 H1 Fs1 vs E R1 G=>?_
  unfold FF at l;split at l
  .rename_i j hz;rcases pM l with ⟨I,l⟩|l
   .skip
    cases l;rw[hz]at G;obtain⟨v,ws,rfl,h1,h2⟩:=G.cons_inv;rw[h2.nil_inv];cases h1;obtain⟨Hf2,Fs2,J,R2⟩:=R1.fzAll O;refine⟨j,rfl,I.1,I.2,Ha (K:=K) hf L R2 U hl Y (λi H s u=>(by rw[pX]at u;exact u)) (λH s=>(by rw[pX];exact ab _)) (λi H x H' s u y=>?_) λHf' H' v F t R' r o=>q _ _ _ v F ((E.trans J).trans t) R' r (o.back (E.trans J))⟩
    obtain⟨y1,y2⟩:=y;rw[pX]at u;exact⟨y1,_,zh u,by rw[y2];exact .int⟩
   .cases l
  .cases l
 .cases e
def ud:GS K ZY qA:=by
 intro H₀ l n S σ H r b s R e Q q;cases e;exact q _ _ _ .refl R
end
mutual
def py:D->Option PyData
 | .non=>some .none
 | .bl b=>some (.bool b)
 | .int i=>some (.int i)
 | .str x=>some (.str x)
 | .list ds=>(K9 ds).map .list
 | .tup ds=>(K9 ds).map .tuple
 |_=>none
def K9:List D->Option (List PyData)
 | []=>some []
 |d::ds=>(py d).bind λx=>(K9 ds).map (x :: ·)
end
section
variable {X:Cx}
theorem Aj{h:Heap}:∀{ds:List D}{vs:List V}{l:Ξ}{xs:List PyData},(∀(i:Nat) (d:D) (v:V),ds[i]?=some d->vs[i]?=some v->∀u x,qk v u->py d=some x->∃as,Reads h u x as)->ds.length=vs.length->pS vs l->K9 ds=some xs->∃as,ReadsAll h l xs as
 | [],vs,l,xs,_,hl,n,e=>by
  have:vs=[]:=aY.mp hl.symm;subst this;cases n;simp only[K9]at e;cases e;exact⟨_,.nil⟩
 |d::ds,vs,l,xs,ih,hl,n,e=>by
  cases vs with
  |nil=>simp at hl
  |cons v vs =>
   cases n with
   |cons r t =>
    simp only[K9]at e;obtain⟨x,s,y⟩:=oBq.mp e;obtain⟨I,z,B⟩:=oMq.mp y;subst B;obtain⟨as,h1⟩:=ih 0 d v rfl rfl _ x r s;obtain⟨bs,h2⟩:=Aj (λi C E G H=>ih (i+1) C E (by simpa using G) (by simpa using H)) (by simpa using hl) t z
    exact⟨_,.cons h1 h2⟩
def BU{O:Φ}{σ:St}{H:Hp}{s:Shared}(I:Inv X O σ H s) {d:D}{v:V}(r:qB X.K H d v):∀(u:Value) (x:PyData),qk v u->py d=some x->∃as,Reads s.heap u x as:=by
 induction r with
 |non=>intro u x y e;cases y;simp only[py]at e;cases e;exact⟨_,.none⟩
 |bl=>intro u x y e;cases y;simp only[py]at e;cases e;exact⟨_,.bool _⟩
 |int=>intro u x y e;obtain⟨t,rfl⟩:=y;simp only[py]at e;cases e;exact⟨_,.int _ _⟩
 |str=>intro u x y e;obtain⟨t,rfl⟩:=y;simp only[py]at e;cases e;exact⟨_,.str _ _⟩
 |ty=>intro u x y e;simp only[py]at e;cases e
 |list h l _ z =>
  intro u x y e;cases y;simp only[py]at e;obtain⟨P,B,rfl⟩:=oMq.mp e;obtain⟨C,E,hl,Q⟩:=I.list (rN.of h);obtain⟨o,G,J,n,hd⟩:=hl.isList;obtain⟨as,L⟩:=Aj z l E B;exact⟨_,Reads.list G J hd (by simpa using L)⟩
 |tup h l _ z =>
  intro u x y e;cases y;simp only[py]at e;obtain⟨P,B,rfl⟩:=oMq.mp e;obtain⟨C,E,⟨o,G,J,n,hd⟩,Q⟩:=I.tuple (BN.of h);obtain⟨as,L⟩:=Aj z l E B;exact⟨_,Reads.tuple G J hd (by simpa using L)⟩
 |dict h l _ z=>intro u x y e;simp only[py]at e;cases e
 |fd h l _ z=>intro u x y e;simp only[py]at e;cases e
 |scr h=>intro u x y e;simp only[py]at e;cases e
 |exc M R h S=>intro u x y e;simp only[py]at e;cases e
 |exc0 M h=>intro u x y e;simp only[py]at e;cases e
 |cls h=>intro u x y e;simp only[py]at e;cases e
 |ins M h l _ z=>intro u x y e;simp only[py]at e;cases e
def Vx(K:Ζ) (neg:Bool):R2:=λx y H Q=>∃(d e:D) (a b:PyData),qB K H d x/\qB K H e y/\py d=some a/\py e=some b/\SeqAt.shaped a=true/\SeqAt.shaped b=true/\SeqAt.noMix a b=true /\
 Q (.bl (if neg then !(PySem.Spec.same a b) else PySem.Spec.same a b)) H
def QT(l:X.A.units+64<jT):Gq X (ko .Eq) (Vx X.K false):=by
 intro J s σ H x y v u Q I n r h;obtain⟨d,e,a,b,h1,h2,t,z,B,C,nm,q⟩:=h;obtain⟨L,E⟩:=BU I h1 _ _ n t;obtain⟨bs,G⟩:=BU I h2 _ _ r z;exact jf E G B C l nm (qg I q rfl)
def CZ(l:X.A.units+64<jT):Gq X (ko .NotEq) (Vx X.K true):=by
 intro J s σ H x y v u Q I n r h;obtain⟨d,e,a,b,h1,h2,t,z,B,C,nm,q⟩:=h;obtain⟨L,E⟩:=BU I h1 _ _ n t;obtain⟨bs,G⟩:=BU I h2 _ _ r z;exact jg E G B C l nm (qg I q rfl)
end
def B6(d e:D):Option D:=(py d).bind λa=>(py e).bind λb=>if SeqAt.shaped a=true/\SeqAt.shaped b=true/\SeqAt.noMix a b=true then some (.bl (PySem.Spec.same a b)) else none
def BD(d e:D):Option D:=(B6 d e).bind OY
section
variable {K:Ζ}
def SU:GV K (Vx K false) B6:=by
 intro x y H Q l n d r s e q;obtain⟨a,t,e⟩:=oBq.mp e;obtain⟨b,u,e⟩:=oBq.mp e;split at e
 .rename_i h;cases e;exact⟨l,n,a,b,r,s,t,u,h.1,h.2.1,h.2.2,q _ .bl⟩
 .cases e
def C5:GV K (Vx K true) BD:=by
 intro x y H Q l n d r s e q;obtain⟨c,e,t⟩:=oBq.mp e;obtain⟨a,u,e⟩:=oBq.mp e;obtain⟨b,z,e⟩:=oBq.mp e;split at e
 .rename_i h;cases e;cases t;exact⟨l,n,a,b,r,s,u,z,h.1,h.2.1,h.2.2,q _ .bl⟩
 .cases e
end
abbrev dI(ns:Ϝ):D:=.list (ns.map .int)
abbrev dM(rs:Λ):D:=.list (rs.map dI)
def Rv(ns:Ϝ):K9 (ns.map .int)=some (ns.map PyData.int):=by
 induction ns with
 |nil=>simp[K9]
 |cons n ns l=>simp[K9,py,l]
def Ww(ns:Ϝ):py (dI ns)=some (xZ ns):=by
 show py (.list _)=_;simp only[py,Rv];rfl
def SF(rs:Λ):K9 (rs.map dI)=some (rs.map xZ):=by
 induction rs with
 |nil=>simp[K9]
 |cons r rs l =>
  show K9 (dI r::rs.map dI)=_;simp only[K9,Ww,l];rfl
def Zv(rs:Λ):py (dM rs)=some (BZ rs):=by
 show py (.list _)=_;simp only[py,SF];rfl
def Ei(r:Ϝ):SeqAt.shaped (xZ r)=true:=by
 have h2:=W.depthAll_ints r;have l:PyData.depth (xZ r)<=64:=by simp only[xZ,PyData.depth];lia
 show (PyData.canLay0 (xZ r) && decide (PyData.depth (xZ r)<=64))=true;rw[gv];exact⟨by simp only[xZ,PyData.canLay0];exact W.canLayAll0_ints r,decide_eq_true l⟩
@[simp] theorem X9 (ns ms:Ϝ):B6 (dI ns) (dI ms)=some (.bl (decide (ns=ms))):=by
 unfold B6;rw[Ww,Ww];show (if _ then _ else _)=_
 rw[qd ⟨Ei ns,Ei ms,by simp only[xZ,SeqAt.noMix];exact W.noMix_ints ns ms⟩]
 simp only[xZ,PySem.Spec.same,W.same_ints]
@[simp] theorem WU (rs l:Λ):B6 (dM rs) (dM l)=some (.bl (decide (rs=l))):=by
 unfold B6;rw[Zv,Zv];show (if _ then _ else _)=_
 rw[qd ⟨DE rs,DE l,by simp only[BZ,SeqAt.noMix];exact Fu rs l⟩]
 simp only[BZ,PySem.Spec.same,GA]
@[simp] theorem QR (ns ms:Ϝ):BD (dI ns) (dI ms)=some (.bl (!decide (ns=ms))):=by unfold BD;rw[X9];rfl
@[simp] theorem WR (rs l:Λ):BD (dM rs) (dM l)=some (.bl (!decide (rs=l))):=by unfold BD;rw[WU];rfl
def zy(l:ML):MK:=λS=>(l S).map λx=>(.ow (x.1.map .sh),x.2)
def Ij(l:ML):MK:=λS=>(l S).bind λx=>(qT x.1).bind λns=>uR (ns.length<64) (some (.ow ((qj ns).map λn=>.sh (.int n)),x.2))
def wm:List D->Option Λ
 | []=>some []
 | .list ds::es=>(qT ds).bind λr=>(wm es).map (r :: ·)
 |_=>none
@[simp] theorem vx (rs:Λ):wm (rs.map dI)=some rs:=by
 induction rs with
 |nil=>rfl
 |cons r rs l =>
  show (qT (r.map .int)).bind (λr=>(wm (rs.map dI)).map (r :: ·))=_
  rw[rd,l];rfl
def aay(l:ML):MK:=λS=>(l S).bind λx=>(wm x.1).bind λrs=>uR (rs.length<64) (some (.ow ((Do rs).map λr=>.sh (dI r)),x.2))
section
variable {K:Ζ}{te:TE}{l:ML}
def AQ(hl:SQ K te l):SK K (JL (λxs H Q=>∃p ys,xs=[.ref p]/\(rN K H p ys∨BN K H p ys)/\∀l,H l=none->Q (.ref l) (qP H l (.lst ys))) (sW te wk)) (zy l):=by
 intro H₀ r J S σ H L M O R e Q q;obtain⟨x,y,e⟩:=oMq.mp e;cases e;refine hl R (ds:=x.1) (S':=x.2) y _ λz P Fs1 B n s t h1 C=>⟨B,n,rfl,.inl h1,λp u=>?_⟩
 obtain⟨E,G,I,U,X⟩:=t.new (o:=.lst n) u;exact q _ _ _ (.ref p) [p] (s.trans E) G (pY.new oX I C) ((xS.one t u).back s)
def Al(ns:Ϝ):(ns.map λn=>AV.sh (.int n))=(ns.map D.int).map .sh:=by rw[mPq];rfl
def HH{α:Type}{c:Prop}{x:Option α}{y:α}(e:uR c x=some y):c/\x=some y:=by
 rcases pM e with h|h
 .exact h
 .cases h
def Js(hl:SQ K te l):SK K (JL (λxs H Q=>∃(a:Addr) (ns:Ϝ),xs=[.ref a]/\ns.length<64/\rN K H a (ns.map V.int)/\∀p,H p=none->Q (.ref p) (qP H p (.lst ((qj ns).map V.int)))) (sW te wk)) (Ij l):=by
 intro H₀ n M S σ H O P U R e Q q;obtain⟨x,z,e⟩:=oBq.mp e;obtain⟨ns,B,e⟩:=oBq.mp e;obtain⟨r,e⟩:=HH e;cases e;refine hl R (ds:=x.1) (S':=x.2) z _ λC X Fs1 E G s t h1 u=>?_
 rw[uo B]at u;rw[qo u]at h1;refine⟨E,ns,rfl,r,h1,λp y=>?_⟩
 obtain⟨I,J,L,Y,n3⟩:=t.new (o:=.lst ((qj ns).map V.int)) y;rw[Al]at q;exact q _ _ _ (.ref p) [p] (s.trans I) J (pY.new oX L (uN _)) ((xS.one t y).back s)
end
def Y2:String->D->Bool
 |T,.list _=>T == "list"
 |T,.scr _=>T == "list"
 |T,.str _=>T == "str"
 |_,_=>false
def rBM(T:String) (f:D->List D->Option D) (a:ME) (as:ML):ME:=λS=>(a S).bind λx=>if Y2 T x.1=true then (as x.2).bind λy=>(f x.1 y.1).map λd=>(d,y.2) else none
def BmD(K:Ζ) (r:V->List V->Hp->VK->Prop) (f:D->List D->Option D):Prop:=∀{x:V}{vs:List V}{H:Hp}{Q:VK}{l:D}{ds:List D}{d:D},qB K H l x->pU K H ds vs->f l ds=some d->(∀v,qB K H d v->Q v H)->r x vs H Q
section
variable {K:Ζ}{te:TE}{ta:TA}{a:ME}{as:ML}{r:V->List V->Hp->VK->Prop}{f:D->List D->Option D}{T:String}
def XQ{H:Hp}{d:D}{v:V}(h:Y2 T d=true) (n:qB K H d v):tyV K T v H:=by
 cases n <;> simp only[Y2]at h
 all_goals first|(exfalso;simp at h;done)|skip
 .exact eq_of_beq h
 .rename_i p s t h1 l e;exact .inl ⟨eq_of_beq h,s,rN.of h1⟩
 .rename_i p u h1;exact .inl ⟨eq_of_beq h,_,h1⟩
def Wt(hr:BmD K r f) (ha:SR K te a) (t:Tu K ta as):SR K (TF K T r te ta) (rBM T f a as):=by
 intro H₀ l P S σ H U d X R e Q q;obtain⟨x,u,e⟩:=oBq.mp e;split at e
 .rename_i B;obtain⟨y,C,e⟩:=oBq.mp e;obtain⟨z,E,e⟩:=oMq.mp e;cases e;refine ha R (d:=x.1) (S':=x.2) u _ λG Y Fs1 v I J n=>⟨XQ B n,t J (ds:=y.1) (S':=y.2) C _ λL H2 Fs2 vs s R2 M=>?_⟩
  exact hr (n.mono s.sh) M E λv O=>q _ _ _ v (I.trans s) R2 O
 .cases e
def Di:D->List D->Option D
 | .list ds,[.int k]=>(qT ds).bind λns=>if k∈ns then some (.int (ns.idxOf k:Nat)) else none
 |_,_=>none
def Kz:BmD K (RP K) Di:=by
 intro x z H Q B C d l s e q;unfold Di at e;split at e
 .rename_i E k;obtain⟨t,u,e⟩:=oBq.mp e;split at e
  .rename_i hk;cases e;obtain⟨v,G,rfl,h1,h2⟩:=s.cons_inv;rw[h2.nil_inv];cases h1;rw[uo u]at l;obtain⟨p,I,rfl,n,y⟩:=l.list_inv;rw[qo y]at n;exact⟨p,t,k,rfl,rfl,rN.of n,hk,q _ .int⟩
  .cases e
 .cases e
def abq(a:ME):ME:=λS=>(a S).bind λx=>match x.1 with
 | .list ds=>(wm ds).map λrs=>(.int (rs.countP (·=([]:Ϝ)):Nat),x.2)
 |_=>none
def aaB:D->Option Bool
 | .non=>some false
 | .bl b=>some b
 | .int i=>some (i != 0)
 | .list ds=>some (!ds.isEmpty)
 | .tup ds=>some (!ds.isEmpty)
 | .dict ds=>some (!ds.isEmpty)
 |_=>none
def ab5(a:ME):MT:=λS=>(a S).bind λx=>(aaB x.1).map λb=>(b,x.2)
end
def qF:AV->Θ->Option (List AV)
 | .ow l,[]=>some l
 | .ow l,j::js=>(l[j]?).bind λa=>qF a js
 |_,_=>none
def putAt:AV->Θ->List AV->AV
 | .ow _,[],as=>.ow as
 | .ow l,j::n,as=>match l[j]? with
  |some a=>.ow (l.set j (putAt a n as))
  |none=>.ow l
 |a,_,_=>a
def IH(H:Hp):V->Θ->V->Prop
 |v,[],w=>v=w
 |v,j::js,w=>∃p vs u,v = .ref p/\H p=some (.lst vs)/\vs[j]?=some u/\IH H u js w
section
variable {K:Ζ}{H₀ Hf₀ Hf Hf' H H':Hp}{S S':AS}{σ:St}{Fs Fs':List Δ}
theorem zw:∀{Fs:List Δ}{F G:Δ}(i:Nat),Fs.flatten.Nodup->Fs[i]?=some G->F.Nodup->(∀p∈F,p∈G∨p∉Fs.flatten)->(Fs.set i F).flatten.Nodup
 | [],F,G,i,h,e,_,_=>by simp at e
 |E::Gs,F,G,0,h,e,hF,hd=>by
  simp at e;subst e;rw[eZ,fCq,nAq];rw[fCq,nAq]at h;refine⟨hF,h.2.1,λa ha b l e=>?_⟩
  subst e;rcases hd a ha with z|z
  .exact h.2.2 a z a l rfl
  .exact z (by rw[fCq];exact ay _ l)
 |E::Gs,F,G,i+1,h,e,hF,hd=>by
  rw[fb,fCq,nAq];rw[fCq,nAq]at h;have n:Gs[i]?=some G:=by simpa using e
  refine⟨h.1,zw i h.2.1 n hF λp r=>(hd p r).imp id λz m=>z (by rw[fCq];exact ay _ m),λa ha b l e=>?_⟩
  subst e;rcases sX l with q|q
  .rcases hd a q with z|z
   .exact h.2.2 a ha a (mFq.mpr ⟨G,mGq n,z⟩) rfl
   .exact z (by rw[fCq];exact cE _ ha)
  .exact h.2.2 a ha a q rfl
theorem Eb:∀{Fs:List Δ}{F G:Δ}{i j:Nat}{p:Addr},Fs.flatten.Nodup->Fs[i]?=some F->Fs[j]?=some G->i≠j->p∈F->p∉G
 | [],F,G,i,j,p,_,e,_,_,_,_=>by simp at e
 |E::Es,F,G,0,0,p,h,e,f,n,_,_=>n rfl
 |E::Es,F,G,0,j+1,p,h,e,f,n,hp,m=>by
  simp at e;subst e;rw[fCq,nAq]at h;exact h.2.2 p hp p (mFq.mpr ⟨G,mGq (i:=j) (by simpa using f),m⟩) rfl
 |E::Es,F,G,i+1,0,p,h,e,f,n,hp,m=>by
  simp at f;subst f;rw[fCq,nAq]at h;exact h.2.2 p m p (mFq.mpr ⟨F,mGq (i:=i) (by simpa using e),hp⟩) rfl
 |E::Es,F,G,i+1,j+1,p,h,e,f,n,hp,m=>by
  rw[fCq,nAq]at h;exact Eb h.2.1 (i:=i) (j:=j) (by simpa using e) (by simpa using f) (λz=>n (by rw[z])) hp m
theorem pY.path:∀{path:Θ}{L:AV}{v:V}{F:Δ}{as:List AV},pY K Hf H L v F->F.Nodup->qF L path=some as->∃p vs I,IH H v path (.ref p)/\H p=some (.lst vs)/\Hf p=none/\qa K Hf H as vs I/\p∈F/\p∉I.flatten/\I.flatten.Nodup/\(∀q∈I.flatten,q∈F) /\
  ∀t s l,qa K Hf (qP H p (.lst s)) t s l->(p::l.flatten).Nodup->(∀q∈l.flatten,q∈I.flatten∨q∉F)->∃F',pY K Hf (qP H p (.lst s)) (putAt L path t) v F'/\F'.Nodup/\∀q∈F',q∈F∨q∈l.flatten
 | [],L,v,F,as,r,nd,e=>by
  cases L with
  |ow u =>
   cases e;obtain⟨p,vs,I,rfl,rfl,h1,h2,C⟩:=r.ow_inv;have n:=az.mp nd;refine⟨p,vs,I,rfl,h1,h2,C,by simp,n.1,n.2,λq B=>mCo _ B,λt s l r' M _=>⟨p::l.flatten,pY.news oX h2 r',M,λq B=>?_⟩⟩
   rcases ah.mp B with z|z
   .exact .inl (by rw[z];simp)
   .exact .inr z
  |_=>cases e
 |j::js,L,v,F,as,r,nd,e=>by
  cases L with
  |ow u =>
   obtain⟨a,e1,e2⟩:=oBq.mp (show (u[j]?).bind (λa=>qF a js)=some as from e)
   obtain⟨J,E,Gs0,rfl,rfl,h1,h2,C⟩:=r.ow_inv;have n:=az.mp nd;have P:j<u.length:=(gSq.mp e1).1;have X:E[j]?=some (E[j]'(C.1 ▸ P)):=gEg _;have Q:Gs0[j]?=some (Gs0[j]'(C.2.1 ▸ P)):=gEg _;generalize E[j]'(C.1 ▸ P)=vj at X;generalize Gs0[j]'(C.2.1 ▸ P)=Y at Q;have rj:=C.2.2 j a vj Y e1 X Q;have ndj:Y.Nodup:=bg.sublist (aB (mGq Q)) n.2;have sub:∀q∈Y,q∈Gs0.flatten:=λq B=>qu Q B
   obtain⟨p,vs,I,g1,g2,g3,g4,g5,g6,g6',g7,g8⟩:=pY.path rj ndj e2;have pne:J≠p:=λz=>n.1 (z ▸ sub p g5)
   refine⟨p,vs,I,⟨J,E,vj,rfl,h1,X,g1⟩,g2,g3,g4,mCo _ (sub p g5),g6,g6',λq B=>mCo _ (sub q (g7 q B)),λt s l r' M hd=>?_⟩
   obtain⟨F',k1,k2,k3⟩:=g8 t s l r' M λq B=>(hd q B).imp id λz m=>z (mCo _ (sub q m))
   have hF':∀q∈F',q∈Y∨q∉Gs0.flatten:=λq B=>by
    rcases k3 q B with z|z
    .exact .inl z
    .rcases hd q z with y|y
     .exact .inl (g7 q y)
     .exact .inr λm=>y (mCo _ m)
   refine⟨J::(Gs0.set j F').flatten,?_,az.mpr ⟨λm=>?_,zw j n.2 Q k2 hF'⟩,λq B=>?_⟩
   .show pY K Hf (qP H p (.lst s)) (match u[j]? with|some a=>.ow (u.set j (putAt a js t))|none=>.ow u) (.ref J) _
    rw[e1];refine .ow (vs:=E) (by rw[oP pne];exact h1) h2 (by rw[lZq];exact C.1) (by rw[lZq,lZq];exact C.2.1) λi b w G U q2 R=>?_
    rw[bD]at U R
    by_cases O:j=i
    .subst O;rw[qd rfl,qd P]at U;rw[qd rfl,qd (C.2.1 ▸ P)]at R;rw[X]at q2;cases U;cases q2;cases R;exact k1
    .rw [qh O]at U R;exact(C.2.2 i b w G U q2 R).keepUpd λm=>Eb n.2 Q R O g5 m
   .rcases sX m with z|z
    .rcases k3 J z with y|y
     .exact n.1 (sub J y)
     .rcases hd J y with x|x
      .exact n.1 (sub J (g7 J x))
      .exact x (by simp)
    .exact n.1 z
   .rcases ah.mp B with z|z
    .exact .inl (by rw[z];simp)
    .rcases sX z with z|z
     .exact (k3 q z).imp (λy=>mCo _ (sub q y)) id
     .exact .inl (mCo _ z)
  |_=>cases e
def qe.turnAny(R:qe K H₀ Hf₀ Hf S σ H Fs) {i:Nat}{y:AV}{p:Addr}{o:HO}{v:V}{F F':Δ}(C:σ[i]?=some (some v)) (B:Fs[i]?=some F) (s:p∈F) (r:pY K Hf (qP H p o) y v F') (nd:F'.Nodup)
  (hf:∀q∈F',H₀ q=none/\q∉(Fs.set i []).flatten):qe K H₀ Hf₀ Hf (S.set i (some y)) σ (qP H p o) (Fs.set i F'):=by
 have t:p∈Fs.flatten:=mFq.mpr ⟨F,mGq B,s⟩;have pn:Hf p=none:=(R.mem t).2;have E:H₀ p=none:=R.fresh p t;have out:=uX R.nd B s;have I:qe K H₀ Hf₀ Hf (S.set i none) σ (qP H p o) (Fs.set i []):=by
  refine⟨by simp[R.len],by simp[R.lenF],λj a n=>?_,λj n=>?_,sI i R.nd aT (λp s=>by cases s),λp s=>R.fresh p (qS s),λb u e=>?_,λb u e=>?_,R.lim,R.sf⟩
  .rw [bD]at n
   by_cases l:i=j
   .subst l;rw[qd rfl]at n;split at n <;> cases n
   .rw [qh l]at n;obtain⟨w,G,f1,f2,q⟩:=R.rep j a n;refine⟨w,G,f1,by rw[aD l];exact f2,q.keep (.refl _) (λc x=>oP λe=>out ?_) λc x=>(q.owned c x).2⟩
    subst e;exact mFq.mpr ⟨G,mGq (i:=j) (by rw[aD l];exact f2),x⟩
  .rw [bD]at n
   by_cases l:i=j
   .subst l;rw[qd rfl]at n;split at n
    .rename_i J;rw[aM (R.lenF.symm ▸ J)]
    .cases n
   .rw [qh l]at n;rw[aD l];exact R.emp j n
  .rw [oP λz=>by rw[z,pn]at e;cases e]
   exact R.sub b u e
  .rw [oP λz=>by rw[z,E]at e;cases e]
   exact R.fr b u e
 exact I.again (F:=F) C r nd hf
def qe.kill(R:qe K H₀ Hf₀ Hf S σ H Fs) (x:Nat):qe K H₀ Hf₀ Hf (S.set x none) σ H (Fs.set x []):=by
 refine⟨by simp[R.len],by simp[R.lenF],λj a n=>?_,λj n=>?_,sI x R.nd aT (λp r=>by cases r),λp r=>R.fresh p (qS r),R.sub,R.fr,R.lim,R.sf⟩
 .rw [bD]at n
  by_cases l:x=j
  .subst l;rw[qd rfl]at n;split at n <;> cases n
  .rw [qh l]at n;obtain⟨w,G,f1,f2,q⟩:=R.rep j a n;exact⟨w,G,f1,by rw[aD l];exact f2,q⟩
 .rw [bD]at n
  by_cases l:x=j
  .subst l;rw[qd rfl]at n;split at n
   .rename_i s;rw[aM (R.lenF.symm ▸ s)]
   .cases n
  .rw [qh l]at n;rw[aD l];exact R.emp j n
def qe.any(R:qe K H₀ Hf₀ Hf (S.set x none) σ H Fs) (v:V):qe K H₀ Hf₀ Hf (S.set x none) (σ.set x (some v)) H Fs where
 len:=by rw[R.len,lZq]
 lenF:=R.lenF
 rep:=λi n e=>by
  by_cases l:x=i
  .subst l;rw[bD]at e;rw[qd rfl]at e;split at e <;> cases e
  .obtain ⟨w,G,f1,f2,q⟩:=R.rep i n e;exact⟨w,G,by rw[aD l];exact f1,f2,q⟩
 emp:=R.emp
 nd:=R.nd
 fresh:=R.fresh
 sub:=R.sub
 fr:=R.fr
 lim:=R.lim
 sf:=R.sf
end
abbrev aI(ns:Ϝ):AV:=.ow (ns.map λn=>.sh (.int n))
def DN:List AV->Option Ϝ
 | []=>some []
 | .sh (.int i)::r=>(DN r).map (i :: ·)
 |_=>none
def FQ:List AV->Option Λ
 | []=>some []
 | .ow as::r=>(DN as).bind λns=>(FQ r).map (ns :: ·)
 |_=>none
theorem Ju:∀{as:List AV}{ns:Ϝ},DN as=some ns->as=ns.map λn=>.sh (.int n)
 | [],ns,h=>by cases h;rfl
 |a::as,ns,h=>by
  cases a with
  |sh d =>
   cases d with
   |int i =>
    obtain⟨l,h1,h2⟩:=oMq.mp (show (DN as).map (i :: ·)=some ns from h)
    subst h2;rw[Ju h1];rfl
   |_=>cases h
  |_=>cases h
theorem JI:∀{as:List AV}{rs:Λ},FQ as=some rs->as=rs.map aI
 | [],rs,h=>by cases h;rfl
 |a::as,rs,h=>by
  cases a with
  |ow l =>
   obtain⟨r,h1,h⟩:=oBq.mp (show (DN l).bind (λn=>(FQ as).map (n :: ·))=some rs from h)
   obtain⟨t,h2,s⟩:=oMq.mp h;subst s;rw[JI h2,Ju h1];rfl
  |_=>cases h
@[simp] theorem Pd (ns:Ϝ):DN (ns.map λn=>.sh (.int n))=some ns:=by
 induction ns with
 |nil=>rfl
 |cons n ns l=>show (DN (ns.map λn=>.sh (.int n))).map (n :: ·)=_;rw[l];rfl
@[simp] theorem OT (rs:Λ):FQ (rs.map aI)=some rs:=by
 induction rs with
 |nil=>rfl
 |cons r rs l=>show (DN (r.map λn=>.sh (.int n))).bind (λs=>(FQ (rs.map aI)).map (s :: ·))=_;rw[Pd,l];rfl
def Hm(k:MK):MK:=λS=>(k S).bind λx=>match x.1 with
 | .ow l=>(FQ l).bind λrs=>uR (rs.length<64) (some (.ow ((Do rs).map aI),x.2))
 |_=>none
section
variable {K:Ζ}{Hf H:Hp}
def LA{ns:Ϝ}{v:V}{F:Δ}(h:pY K Hf H (aI ns) v F):∃p,v = .ref p/\F=[p]/\H p=some (.lst (ns.map V.int))/\Hf p=none:=by
 obtain⟨p,l,r,rfl,rfl,h1,h2,s⟩:=h.ow_inv;have e:∀{ns:Ϝ}{l:List V}{r:List Δ},qa K Hf H (ns.map λn=>AV.sh (.int n)) l r->l=ns.map V.int/\r.flatten=[]:=by
  intro ns
  induction ns with
  |nil =>
   intro l r h;obtain⟨a,b⟩:=h.nil_inv;exact⟨a,by rw[b];rfl⟩
  |cons n ns t =>
   intro l r h;obtain⟨v,E,F,u,rfl,rfl,x,y⟩:=qa.cons_inv (a:=.sh (.int n)) h;obtain⟨f1,f2⟩:=x.sh_inv;subst f1;cases f2;obtain⟨z,g2⟩:=t y;rw[z];exact⟨rfl,by rw[fCq,g2];rfl⟩
 obtain⟨B,C⟩:=e s;rw[C];subst B;exact⟨p,rfl,rfl,h1,h2⟩
def Xu{ns:Ϝ}{p:Addr}(h1:H p=some (.lst (ns.map V.int))) (h2:Hf p=none):pY K Hf H (aI ns) (.ref p) [p]:=by
 have:=pY.new (K:=K) (Hf:=Hf) (H:=H) (ds:=ns.map D.int) h1 h2 (uN ns);rw[←Al]at this;exact this
theorem Ag:∀{rs:Λ}{vs:List V}{l:List Δ},qa K Hf H (rs.map aI) vs l->∃ps,vs=ps.map V.ref/\l=ps.map (λp=>[p])/\sL H ps rs/\∀p∈ps,Hf p=none
 | [],vs,l,h=>by
  obtain⟨a,b⟩:=h.nil_inv;exact⟨[],a,b,.nil,λp n=>by cases n⟩
 |r::rs,vs,l,h=>by
  obtain⟨v,B,F,s,rfl,rfl,t,u⟩:=qa.cons_inv (a:=aI r) (as:=rs.map aI) h;obtain⟨p,rfl,rfl,h1,h2⟩:=LA t;obtain⟨ps,rfl,rfl,x,y⟩:=Ag u;exact⟨p::ps,rfl,rfl,sL.cons_iff.mpr ⟨h1,x⟩,λq z=>(ah.mp z).elim (λe=>e ▸ h2) (y q)⟩
theorem Eh:∀{rs:Λ}{ps:Δ},sL H ps rs->(∀p∈ps,Hf p=none)->qa K Hf H (rs.map aI) (ps.map V.ref) (ps.map λp=>[p])
 | [],[],_,_=>.nil
 | [],_::_,h,_=>by have:=h.length;simp at this
 |_::_,[],h,_=>by have:=h.length;simp at this
 |r::rs,p::ps,h,n=>by
  obtain⟨h1,h2⟩:=sL.cons_iff.mp h;exact .cons (Xu h1 (n p (by simp))) (Eh h2 λq l=>n q (mCo _ l))
def Kh(ps:Δ):(ps.map λp=>[p]).flatten=ps:=by
 induction ps with
 |nil=>rfl
 |cons p ps l=>rw[ax,fCq,l];rfl
def OJ{te:TE}{k:MK}(hk:SK K te k):SK K (JL (λxs H Q=>∃(a:Addr) (ps:Δ) (rs:Λ),xs=[.ref a]/\ps.length<64/\rN K H a (ps.map V.ref)/\sL H ps rs /\
  ∀p l,H p=none->l.Perm ps->sL (qP H p (.lst (l.map V.ref))) l (Do rs)->Q (.ref p) (qP H p (.lst (l.map V.ref)))) (sW te wk)) (Hm k):=by
 intro H₀ t Hf S σ H Fs av S' R e Q q;obtain⟨x,M,e⟩:=oBq.mp e;refine hk R (a:=x.1) (S':=x.2) M _ λO P Fs1 v F I U J r=>?_
 split at e
 .rename_i X Y;obtain⟨rs,e2,e⟩:=oBq.mp e;obtain⟨u,e⟩:=HH e;cases e;rw[Y,JI e2]at J;obtain⟨L,vs,Gs,rfl,rfl,h1,h2,h3⟩:=J.ow_inv;obtain⟨ps,rfl,rfl,B,hn⟩:=Ag h3;rw[Kh]at r;refine⟨L,ps,rs,rfl,by rw[B.length];exact u,rN.of h1,B,λp l C s E=>?_⟩
  obtain⟨t4,R4,n1,n2,n3⟩:=U.new (o:=.lst (l.map V.ref)) C;have pq:p∉l:=λm=>B.free (H:=P) C (s.mem_iff.mp m)
  have G:∀z∈l,z∈L::ps:=λz n=>mCo _ (s.mem_iff.mp n)
  refine q _ _ _ (.ref p) (p::(l.map λp=>[p]).flatten) (I.trans t4) R4 (pY.news oX n1 (Eh E λz n=>hn z (s.mem_iff.mp n))) ?_
  rw[Kh];refine⟨az.mpr ⟨pq,s.nodup_iff.mpr (az.mp r.nd).2⟩,λz n=>?_,λz n=>?_,λz n=>?_⟩
  .rcases ah.mp n with y|y
   .rw [y];exact n2
   .exact r.fr z (G z y)
  .rcases ah.mp n with y|y
   .rw [y];exact n3
   .exact r.out z (G z y)
  .rcases ah.mp n with y|y
   .rw [y];exact .inl (I.sh.free C)
   .exact r.new z (G z y)
 .cases e
def OH:AV->Option D
 | .sh d=>if d.scal=true then some d else none
 |_=>none
def sN(f:MF) (a:ML):ME:=λS=>(a S).bind λx=>(f x.1).bind λr=>(OH r).map λd=>(d,x.2)
def rQ{f:MF}{u:TA}{a:ML}(ha:Tu K u a):SR K (J6 (rK K f) [] E0 u) (sN f a):=by
 intro H₀ t Hf S σ H X d Y R e Q q;obtain⟨x,C,e⟩:=oBq.mp e;obtain⟨r,E,e⟩:=oBq.mp e;obtain⟨z,n,e⟩:=oMq.mp e;cases e;refine ha R (ds:=x.1) (S':=x.2) C _ λs y Fs1 vs G I J=>?_
 rw[aNq];refine⟨y,x.1,r,.refl _,J,E,λL M v F s1 B s3 l O nd fr=>?_⟩
 have P:yM s y Fs1 s M Fs1:=⟨.refl _,B,λ_ h=>h,λb h g=>absurd h g⟩
 cases r with
 |sh d' =>
  simp only[OH]at n;split at n
  .rename_i U;cases n;exact q _ _ _ v (G.trans P) (I.laid B) (O.sh_inv.2.scal U)
  .cases n
 |_=>cases n
end
section
variable (S:AS)
@[simp] theorem ZQ (i:Nat):oq i S=(S[i]?.join).map λa=>(oN a,S):=rfl
@[simp] theorem ZJ (i:Nat):oU i S=(S[i]?.join).map λa=>(.sh (oN a),S.set i (some (.sh (oN a)))):=rfl
@[simp] theorem ZN (i:Nat):DS i S=(S[i]?.join).map λa=>(a,S.set i none):=rfl
@[simp] theorem aaI (k:MK):rOf k S=(k S).map λx=>(oN x.1,x.2):=rfl
@[simp] theorem aaN (m:ME):kSc m S=(m S).bind λx=>if x.1.scal then some (.sh x.1,x.2) else none:=rfl
@[simp] theorem Y5 (k:MK):wg k S=(k S).map λx=>(.sh (oN x.1),x.2):=rfl
@[simp] theorem rC_ (d:D):rC d S=if d.scal then some (d,S) else none:=rfl
@[simp] theorem aaL (f:D->D->Option D) (a b:ME):pR f a b S=(a S).bind λx=>(b x.2).bind λy=>(f x.1 y.1).map λd=>(d,y.2):=rfl
@[simp] theorem aa8 (f:D->Option D) (a:ME):Ea f a S=(a S).bind λx=>(f x.1).map λd=>(d,x.2):=rfl
@[simp] theorem Zc (a:ME):Ym a S=(a S).bind λx=>(OY x.1).map λd=>(d,x.2):=rfl
@[simp] theorem WS (a b:MT):GJ a b S=(a S).bind λx=>if x.1=true then b x.2 else some (false,x.2):=rfl
@[simp] theorem Zy (a b:MT):A7 a b S=(a S).bind λx=>if x.1=true then some (true,x.2) else b x.2:=rfl
@[simp] theorem Xd (a:MT):yu a S=(a S).map λx=>(!x.1,x.2):=rfl
def Yt:D->Option Bool
 | .bl b=>some b
 |_=>none
@[simp] theorem aba (a:ME):tK a S=(a S).bind λx=>(Yt x.1).map λb=>(b,x.2):=by
 show (a S).bind _=_;congr 1;funext x;obtain⟨d,l⟩:=x;cases d <;> rfl
@[simp] theorem YW (a b:ME):Yo a b S=(a S).bind λx=>(Yt x.1).bind λc=>if c=true then b x.2 else some (.bl false,x.2):=by
 show (a S).bind _=_;congr 1;funext x;obtain⟨d,l⟩:=x;cases d <;> try rfl
 rename_i c;cases c <;> rfl
@[simp] theorem UY (b:Bool):Yt (.bl b)=some b:=rfl
@[simp] theorem YB:pD S=some ([],S):=rfl
@[simp] theorem XF (k:MK) (r:MA):oB k r S=(k S).bind λx=>(r x.2).map λy=>(x.1::y.1,y.2):=rfl
@[simp] theorem XZ:oS S=some ([],S):=rfl
@[simp] theorem Ud (k:ME) (r:ML):ox k r S=(k S).bind λx=>(r x.2).map λy=>(x.1::y.1,y.2):=rfl
@[simp] theorem Y6 (a:MA):uS a S=(a S).bind λx=>uR (x.1.length<=rH) (some (.ow x.1,x.2)):=rfl
@[simp] theorem Y1 (a:MA):Hv a S=(a S).bind λx=>uR (x.1.length<=rH) (some (.sh (.tup (x.1.map oN)),x.2)):=rfl
@[simp] theorem Zx (a b:ML):LB a b S=(a S).bind λx=>(b x.2).bind λy=>uR (x.1.length+y.1.length<=rH) (some (.ow ((x.1++y.1).map .sh),y.2)):=rfl
@[simp] theorem XI:zz S=some (none,S):=rfl
@[simp] theorem Xw (m:ME):wx m S=(m S).bind λx=>(intOf x.1).map λi=>(some i,x.2):=by
 show (m S).bind _=_;congr 1;funext x;obtain⟨d,l⟩:=x;cases d <;> rfl
@[simp] theorem OR (i:Int):intOf (.int i)=some i:=rfl
@[simp] theorem aaZ (l:ML) (lo n:MO):Nt l lo n S=(l S).bind λx=>(lo x.2).bind λy=>(n y.2).map λz=>(.ow ((zI x.1 y.1 z.1).map .sh),z.2):=rfl
@[simp] theorem aaY (l:ML) (b:ME):P7 l b S=(l S).bind λx=>(b x.2).bind λy=>(intOf y.1).bind λi=>(atI x.1 i).map λd=>(.sh d,y.2):=by
 show (l S).bind _=_;congr 1;funext x;show (b x.2).bind _=_;congr 1;funext y;obtain⟨d,n⟩:=y;cases d <;> rfl
@[simp] theorem aaw (f:List D->Option D) (a:ML):wb f a S=(a S).bind λx=>(f x.1).map λd=>(d,x.2):=rfl
@[simp] theorem X8 (f:MF) (a:MA):oZ f a S=(a S).bind λx=>(f (x.1.map oN)).map λr=>(r,x.2):=rfl
@[simp] theorem XU (f:MF) (a:ML):sN f a S=(a S).bind λx=>(f x.1).bind λr=>(OH r).map λd=>(d,x.2):=rfl
@[simp] theorem W2:qJ S=some (.nx S):=rfl
@[simp] theorem Uw:Dd S=none:=rfl
def QJ(o:Option Oq) (b:MS):Option Oq:=o.bind λo=>match o with
 | .nx S'=>b S'
 |o=>some o
@[simp] theorem Sr (b:MS):QJ (some (.nx S)) b=b S:=rfl
@[simp] theorem Rf (a:AV) (b:MS):QJ (some (.rt a)) b=some (.rt a):=rfl
@[simp] theorem YL (a b:MS):oQ a b S=QJ (a S) b:=rfl
@[simp] theorem YM (i:Nat) (k:MK):pN i k S=(k S).map λx=>.nx (x.2.set i (some x.1)):=rfl
@[simp] theorem Xk (k:MK):So k S=(k S).map λx=>.nx x.2:=rfl
@[simp] theorem YD (k:MK):qw k S=(k S).map λx=>.rt x.1:=rfl
@[simp] theorem aaW (c:MT) (a b:MS):zC c a b S=(c S).bind λx=>if x.1=true then a x.2 else b x.2:=rfl
@[simp] theorem YN (i:Nat) (k:MK):zK i k S=(rM S i).bind λ_=>(k S).bind λx=>(rM x.2 i).bind λl=>uR (l.length<rH) (some (.nx (x.2.set i (some (.ow (l++[x.1])))))):=rfl
@[simp] theorem Y4 (i:Nat) (l:ML):JC i l S=(rM S i).bind λ_=>(l S).bind λx=>(rM x.2 i).bind λn=>uR (n.length+x.1.length<=rH) (some (.nx (x.2.set i (some (.ow (n++x.1.map .sh)))))):=rfl
@[simp] theorem WH (i:Nat) (b:ME) (k:MK):zx i b k S=(wg k S).bind λx=>(xH x.2 i).bind λ_=>(b x.2).bind λy=>(xH y.2 i).bind λkvs=>(wy y.1).bind λkey =>
 uR (kvs.length<rH) (some (.nx (y.2.set i (some (.owd (wI kvs key (oN x.1))))))):=rfl
def dictOf:D->Option (List (pE×D))
 | .dict kvs=>some kvs
 |_=>none
@[simp] theorem Jv (kvs:List (pE×D)):dictOf (.dict kvs)=some kvs:=rfl
@[simp] theorem OE (i:Int):wy (.int i)=some (.inl i):=rfl
@[simp] theorem SH (a b:ME):xM a b S=(a S).bind λx=>(b x.2).bind λy=>(dictOf y.1).bind λkvs=>(wy x.1).map λkey=>(.bl (!(getD kvs key).isSome),y.2):=by
 show (a S).bind _=_;congr 1;funext x;show (b x.2).bind _=_;congr 1;funext y;obtain⟨d,l⟩:=y;cases d <;> rfl
@[simp] theorem W5 (a b:ME):tX a b S=(a S).bind λx=>(b x.2).bind λy=>(dictOf x.1).bind λkvs=>(wy y.1).bind λkey=>(getD kvs key).map λd=>(d,y.2):=by
 show (a S).bind _=_;congr 1;funext x;show (b x.2).bind _=_;congr 1;funext y;obtain⟨d,l⟩:=x;cases d <;> rfl
@[simp] theorem WM:DI S=some (.owd [],S):=rfl
@[simp] theorem Zp (x:Nat) (k:MK) (body:MS):BK x k body S=(wg k S).bind λy=>(uH (oN y.1)).bind λds=>ur x body ds y.2:=rfl
@[simp] theorem Ux (x:Nat) (a:ML) (body:MS):Br x a body S=(a S).bind λy=>(FF y.1).bind λds=>ur x body ds y.2:=rfl
@[simp] theorem Yp (x y:Nat) (k:MK) (body:MS):M1 x y k body S=(wg k S).bind λz=>(uH (oN z.1)).bind λds=>Dk x y body 0 ds z.2:=rfl
@[simp] theorem XX (x y:Nat) (k l:MK) (body:MS):RQ x y k l body S=(wg k S).bind λz=>(wg l z.2).bind λw=>(uH (oN z.1)).bind λds=>(uH (oN w.1)).bind λes =>
 if ds.length=es.length then Ak x y body ds es w.2 else none:=rfl
@[simp] theorem XO (l:MI) (fr:Θ) (r:MT) (te:MK):uu l fr r te S=(l S).bind λy=>(fzAll fr y.2).bind λs=>(IJ s fr).bind λcap=>uR (y.1.length<=rH) ((qY r te cap y.1).map λn=>(.ow n,s)):=rfl
@[simp] theorem Zo (k:MK):zY k S=(wg k S).bind λy=>(uH (oN y.1)).map λds=>(ds,y.2):=rfl
@[simp] theorem aaS (a:ML):Yy a S=(a S).bind λy=>(FF y.1).map λds=>(ds,y.2):=rfl
@[simp] theorem P6:fzAll [] S=some S:=rfl
@[simp] theorem LP (j:Nat) (l:Θ):fzAll (j::l) S=(S[j]?.join).bind λa=>fzAll l (S.set j (some (.sh (oN a)))):=rfl
@[simp] theorem Qi:IJ S []=some []:=rfl
@[simp] theorem P3 (j:Nat) (l:Θ):IJ S (j::l)=(XD S[j]?.join).bind λa=>(IJ S l).map (some a :: ·):=rfl
@[simp] theorem XS (l:ML):zy l S=(l S).map λx=>(.ow (x.1.map .sh),x.2):=rfl
@[simp] theorem Vj (l:ML):Ij l S=(l S).bind λx=>(qT x.1).bind λns=>uR (ns.length<64) (some (.ow ((qj ns).map λn=>.sh (.int n)),x.2)):=rfl
def Yj:AV->Option (List AV)
 | .ow l=>some l
 |_=>none
@[simp] theorem U8 (l:List AV):Yj (.ow l)=some l:=rfl
@[simp] theorem Tq (k:MK):Hm k S=(k S).bind λx=>(Yj x.1).bind λl=>(FQ l).bind λrs=>uR (rs.length<64) (some (.ow ((Do rs).map aI),x.2)):=by
 show (k S).bind _=_;congr 1;funext x;obtain⟨d,n⟩:=x;cases d <;> rfl
@[simp] theorem abf (T:String) (f:D->List D->Option D) (a:ME) (as:ML):rBM T f a as S=(a S).bind λx=>if Y2 T x.1=true then (as x.2).bind λy=>(f x.1 y.1).map λd=>(d,y.2) else none:=rfl
def abg:D->Option (List D)
 | .list ds=>some ds
 |_=>none
def Zt:AV->Option (List D)
 | .sh (.list ds)=>some ds
 | .ow l=>some (l.map oN)
 |_=>none
@[simp] theorem XC (ds:List D):Zt (.sh (.list ds))=some ds:=rfl
@[simp] theorem Xh (l:List AV):Zt (.ow l)=some (l.map oN):=rfl
@[simp] theorem aaJ (k:MK):lOf k S=(k S).bind λx=>(Zt x.1).map λds=>(ds,x.2):=by
 show (k S).bind _=_;congr 1;funext x;obtain⟨a,l⟩:=x;cases a with
 |sh d=>cases d <;> rfl
 |_=>rfl
end
@[simp] theorem Q7 (ds:List D):(ds.map AV.sh).map oN=ds:=by
 rw[mPq];have:oN∘AV.sh=id:=by funext d;simp
 rw[this,dn]
def hlf:AV->AV
 | .ow l=>.ow ((l.map oN).map .sh)
 |a=>a
@[simp] theorem W7 (d:D):hlf (.sh d) = .sh d:=rfl
@[simp] theorem Yl (l:List AV):hlf (.ow l) = .ow ((l.map oN).map .sh):=rfl
def EE{S:AS}{i:Nat}{a:AV}(h:S[i]?=some (some a)):S.set i (some a)=S:=by
 obtain⟨hk,l⟩:=gSq.mp h;rw[←l];exact fy hk
@[simp] theorem Z4 (S:AS) (i:Nat):DR i S=(S[i]?.join).bind λa=>(Zt a).map λds=>(ds,S.set i (some (hlf a))):=by
 unfold DR;cases e:S[i]?.join with
 |none=>rfl
 |some a =>
  cases a with
  |sh d =>
   cases d with
   |list ds =>
    show some (ds,S)=some (ds,S.set i (some (.sh (.list ds))));rw[EE (pZ e)]
   |_=>rfl
  |ow n=>rfl
  |owd l=>rfl
  |owl l=>rfl
  |otl _ _=>rfl
def lsQ:AV->Option (List D)
 | .sh (.scr ns)=>some (ns.map .int)
 |a=>Zt a
@[simp] theorem Vi (ns:Ϝ):lsQ (.sh (.scr ns))=some (ns.map .int):=rfl
@[simp] theorem WN (ds:List D):lsQ (.sh (.list ds))=some ds:=rfl
@[simp] theorem Yv (l:List AV):lsQ (.ow l)=some (l.map oN):=rfl
@[simp] theorem Z9 (S:AS) (i:Nat):tU i S=(S[i]?.join).bind λa=>(lsQ a).map λds=>(ds,S.set i (some (hlf a))):=by
 unfold tU;cases e:S[i]?.join with
 |none=>rfl
 |some a =>
  cases a with
  |sh d =>
   cases d with
   |list ds =>
    show some (ds,S)=some (ds,S.set i (some (.sh (.list ds))));rw[EE (pZ e)]
   |scr l =>
    show some (l.map D.int,S)=some (l.map D.int,S.set i (some (.sh (.scr l))));rw[EE (pZ e)]
   |_=>rfl
  |ow r=>rfl
  |owd n=>rfl
  |owl n=>rfl
  |otl _ _=>rfl
@[simp] theorem Rr (i:Int):(D.int i).scal=true:=rfl
@[simp] theorem VG (i:Bool):(D.bl i).scal=true:=rfl
@[simp] theorem Sb (i:Str):(D.str i).scal=true:=rfl
@[simp] theorem Ss:D.non.scal=true:=rfl
@[simp] theorem TL (i:String):(D.ty i).scal=true:=rfl
@[simp] theorem Q1 (i:Int):OH (.sh (.int i))=some (.int i):=rfl
@[simp] theorem UC (i:Bool):OH (.sh (.bl i))=some (.bl i):=rfl
@[simp] theorem QI:OH (.sh .non)=some .non:=rfl
@[simp] theorem UA (i j:Int):IQ (.int i) (.int j)=some (.bl (decide (i=j))):=rfl
@[simp] theorem U0 (b:Bool):OY (.bl b)=some (.bl (!b)):=rfl
@[simp] theorem Uo (i j:Int):Le (.int i) (.int j)=some (.bl (!decide (i=j))):=rfl
@[simp] theorem PK (ds:List D):rB [.list ds]=some (.int ds.length):=rfl
@[simp] theorem R5 (ns:Ϝ):rB [.scr ns]=some (.int ns.length):=rfl
@[simp] theorem Tn (i:Int):A6 [.int i,.ty "int"]=some (.bl true):=by simp[A6,isT]
@[simp] theorem Ph (i:Int):A6 [.int i,.ty "bool"]=some (.bl false):=by simp[A6,isT]
@[simp] theorem IC (ds:List D):uH (.list ds)=some ds:=rfl
@[simp] theorem QV (ds:List D) (i:Int):HU (.list ds) (.int i)=atI ds i:=rfl
@[simp] theorem U9 (ns:Ϝ) (i:Int):HU (.scr ns) (.int i)=(atI ns i).map .int:=rfl
@[simp] theorem Uq (d:D):XD (some (.sh d))=some (.sh d):=rfl
@[simp] theorem Qw (ds:List D):Y2 "list" (.list ds)=true:=rfl
def TR(S:AS) (i:Nat):rM S i=(S[i]?.join).bind Yj:=by
 unfold rM;cases S[i]?.join with
 |none=>rfl
 |some a=>cases a <;> rfl
def VP:AV->Option (List (pE×D))
 | .owd kvs=>some kvs
 |_=>none
@[simp] theorem P4 (kvs:List (pE×D)):VP (.owd kvs)=some kvs:=rfl
def To(S:AS) (i:Nat):xH S i=(S[i]?.join).bind VP:=by
 unfold xH;cases S[i]?.join with
 |none=>rfl
 |some a=>cases a <;> rfl
theorem KM{x:Nat}{body:MS}(P:Nat->AS->Prop):∀{ds:List D}{S:AS}{k:Nat},P k S->(∀i d S,ds[i]?=some d->P (k+i) S->∃S',(body (S.set x (some (.sh d)))=some (.nx S')∨body (S.set x (some (.sh d)))=some (.ct S'))/\P (k+i+1) S')->∃S',ur x body ds S=some (.nx S')/\P (k+ds.length) S'
 | [],S,k,l,_=>⟨S,rfl,l⟩
 |d::ds,S,k,l,hs=>by
  obtain⟨S',e,h1⟩:=hs 0 d S rfl l;have n:∀i d S,ds[i]?=some d->P (k+1+i) S->∃S',(body (S.set x (some (.sh d)))=some (.nx S')∨body (S.set x (some (.sh d)))=some (.ct S'))/\P (k+1+i+1) S':=λi d S h p=>by
   have:=hs (i+1) d S (by simpa using h) (by rw[show k+(i+1)=k+1+i by lia];exact p)
   rw[show k+(i+1)=k+1+i by lia]at this
   exact this
  obtain⟨r,s,h2⟩:=KM P (k:=k+1) h1 n;refine⟨r,?_,by rw[lCq,show k+(ds.length+1)=k+1+ds.length by lia];exact h2⟩
  show (body _).bind _=_;rcases e with e|e <;> (rw[e];exact s)
def uV{x:Nat}{body:MS}(P:Nat->AS->Prop) {ds:List D}{S:AS}(l:P 0 S) (n:∀i d S,ds[i]?=some d->P i S->∃S',body (S.set x (some (.sh d)))=some (.nx S')/\P (i+1) S'):∃S',ur x body ds S=some (.nx S')/\P ds.length S':=by
 have:=KM (x:=x) (body:=body) P (ds:=ds) (k:=0) l λi d S h p=>by
  rw[aU]at p ⊢;obtain⟨S',e,q⟩:=n i d S h p;exact⟨S',.inl e,q⟩
 rw[aU]at this;exact this
theorem Qg{x y:Nat}{body:MS}(P:Nat->AS->Prop):∀{ds:List D}{S:AS}{k:Nat},P k S->(∀i d S,ds[i]?=some d->P (k+i) S->∃S',body ((S.set x (some (.sh (.int (k+i:Nat))))).set y (some (.sh d)))=some (.nx S')/\P (k+i+1) S')->∃S',Dk x y body k ds S=some (.nx S')/\P (k+ds.length) S'
 | [],S,k,l,_=>⟨S,rfl,l⟩
 |d::ds,S,k,l,hs=>by
  obtain⟨S',e,h1⟩:=hs 0 d S rfl l;have n:∀i d S,ds[i]?=some d->P (k+1+i) S->∃S',body ((S.set x (some (.sh (.int (k+1+i:Nat))))).set y (some (.sh d)))=some (.nx S')/\P (k+1+i+1) S':=λi d S h p=>by
   have:=hs (i+1) d S (by simpa using h) (by rw[show k+(i+1)=k+1+i by lia];exact p)
   rw[show k+(i+1)=k+1+i by lia]at this
   exact this
  obtain⟨r,s,h2⟩:=Qg P (k:=k+1) h1 n;refine⟨r,?_,by rw[lCq,show k+(ds.length+1)=k+1+ds.length by lia];exact h2⟩
  show (body ((S.set x (some (.sh (.int (k:Nat))))).set y (some (.sh d)))).bind _=_;rw[jo]at e;rw[e];exact s
theorem V0{x y:Nat}{body:MS}(P:Nat->AS->Prop):∀{ds es:List D}{S:AS}{k:Nat},ds.length=es.length->P k S->(∀i d e S,ds[i]?=some d->es[i]?=some e->P (k+i) S->∃S',body ((S.set x (some (.sh d))).set y (some (.sh e)))=some (.nx S')/\P (k+i+1) S')->∃S',Ak x y body ds es S=some (.nx S')/\P (k+ds.length) S'
 | [],[],S,k,_,l,_=>⟨S,rfl,l⟩
 | [],_::_,S,k,hl,_,_=>by simp at hl
 |_::_,[],S,k,hl,_,_=>by simp at hl
 |d::ds,b::es,S,k,hl,l,hs=>by
  obtain⟨S',e,h1⟩:=hs 0 d b S rfl rfl l;have n:∀i d e S,ds[i]?=some d->es[i]?=some e->P (k+1+i) S->∃S',body ((S.set x (some (.sh d))).set y (some (.sh e)))=some (.nx S')/\P (k+1+i+1) S':=λi d e S h r p=>by
   have:=hs (i+1) d e S (by simpa using h) (by simpa using r) (by rw[show k+(i+1)=k+1+i by lia];exact p)
   rw[show k+(i+1)=k+1+i by lia]at this
   exact this
  obtain⟨s,t,h2⟩:=V0 P (k:=k+1) (by simpa using hl) h1 n
  refine⟨s,?_,by rw[lCq,show k+(ds.length+1)=k+1+ds.length by lia];exact h2⟩
  show (body _).bind _=_;rw[e];exact t
theorem qO{te:MK}{cap:AS}(g:D->AV):∀{ds:List D},(∀d∈ds,∃S',te (some (.sh d)::cap)=some (g d,S'))->qY qA te cap ds=some (ds.map g)
 | [],_=>rfl
 |d::ds,h=>by
  obtain⟨S',e⟩:=h d (by simp)
  show (te (some (.sh d)::cap)).bind (λa=>(qY qA te cap ds).map (a.1 :: ·))=_
  rw[e,qO g λx l=>h x (mCo _ l)]
  rfl
def zR{α β:Type}(f:α->β) (xs:List α) (lo l:Option Int):zI (xs.map f) lo l=(zI xs lo l).map f:=by
 unfold zI;rw[lMq,eN,jj]
def AM{α:Type}(xs:List α) (i:Nat) (h:i<=xs.length):zI xs (some (i:Int)) none=xs.drop i:=by
 unfold zI;rw[HT.DV,HT.JN,dY h,cK (by rw[aQ];exact ab _)]
def BV{α:Type}(xs:List α) (i:Nat) (h:i<=xs.length):zI xs none (some (i:Int))=xs.take i:=by
 unfold zI;rw[HT.DV,HT.JN,dY h,gb,fO]
def JX{α:Type}(xs:List α) (i j:Nat):zI xs (some (i:Int)) (some (j:Int))=(xs.drop i).take (j-i):=by
 unfold zI;rw[HT.DV,HT.DV]
 by_cases h:i<=xs.length
 .rw [dY h]
  by_cases h2:j<=xs.length
  .rw [dY h2]
  .rw [iK (by lia),cK (by rw[aQ];exact ab _),cK (by rw[aQ];lia)]
 .have e:min i xs.length=xs.length:=iK (by lia)
  rw[e,bM (ab xs.length),bM (show xs.length<=i by lia)]
  simp
def Nq{α:Type}{xs:List α}{i:Int}(l:0<=i):atI xs i=xs[i.toNat]?:=by
 unfold atI Jx;rw[qd l]
 by_cases h:i<xs.length
 .rw [qd h];rfl
 .rw [qh h,bp (by lia)]
  rfl
def Vs{α β:Type}(f:α->β) (xs:List α) (i:Int):atI (xs.map f) i=(atI xs i).map f:=by
 unfold atI;rw[lMq];cases Jx xs.length i with
 |none=>rfl
 |some j=>show (xs.map f)[j]?=_;rw[gMq];rfl
def Nl{n:Nat}{i:Nat}(h:i<n):Jx n (i:Int)=some i:=by
 unfold Jx;rw[qd (by lia),qd (by lia)]
 simp
def DW(ns:Ϝ):(ns.map D.int).map AV.sh=ns.map λn=>AV.sh (.int n):=by rw[mPq];rfl
def Ir(ns:Ϝ):(ns.map λn=>AV.sh (.int n)).map oN=ns.map D.int:=by rw[mPq];exact mCq λn _=>by simp
def vL(rs:Λ):(rs.map aI).map oN=rs.map dI:=by
 rw[mPq];refine mCq λr _=>?_
 show oN (.ow (r.map λn=>AV.sh (.int n)))=_
 rw[sJ,Ir]
def TK(rs:Λ):(rs.map dI).map AV.sh=rs.map λr=>AV.sh (dI r):=by rw[mPq];rfl
def ND(rs:Λ):(rs.map λr=>AV.sh (dI r)).map oN=rs.map dI:=by rw[mPq];exact mCq λn _=>by simp
def oY(ns:Ϝ):oN (aI ns)=dI ns:=by
 show oN (.ow (ns.map λn=>AV.sh (.int n)))=_
 rw[sJ,Ir]
def TU(i j:Int):C6 (.int i) (.int j)=some (.int (i+j)):=yJ _
def UT(i j:Int):Dq (.int i) (.int j)=some (.int (i-j)):=yJ _
def Xr(i j:Int):Yz (.int i) (.int j)=some (.bl (decide (i<j))):=yJ _
def Xo(i j:Int):MC (.int i) (.int j)=some (.bl (decide (j<i))):=yJ _
def Xb(i:Int):xx (.int i)=some (.int (-i)):=rfl
def p40:Jh (.int 10) (.int 40)=some (.int (10 ^ 40)):=vQ ⟨by decide,by decide,by decide⟩ _
def p57:Jh (.int 10) (.int 57)=some (.int (10 ^ 57)):=vQ ⟨by decide,by decide,by decide⟩ _
def IX{i j:Int}(h1:-(2 ^ 64)<i) (h2:i<2 ^ 64):CO (.int i) (.int j)=some (.int (i*j)):=vQ (.inl ⟨h1,h2⟩) _
def GX{i j:Int}(h1:-(2 ^ 64)<j) (h2:j<2 ^ 64):CO (.int i) (.int j)=some (.int (i*j)):=vQ (.inr ⟨h1,h2⟩) _
def rW{i j:Int}(h:0<j):tS (.int i) (.int j)=some (.int (i % j)):=vQ h _
def vD{i j:Int}(h:0<j) (h2:j<1073741824):zL (.int i) (.int j)=some (.int (i / j)):=vQ ⟨h,h2⟩ _
def YJ:(0:Nat)<=rH:=by decide
def ZI:(1:Nat)<=rH:=by decide
def Zz:(2:Nat)<=rH:=by decide
def Zs:(3:Nat)<=rH:=by decide
def wW{n:Nat}(h:n<=16777216):n<=rH:=h
def HI{n:Nat}(h:n<16777216):n<rH:=h
def wL{n:Nat}(h:n<1000000):FF [.int (n:Int)]=some (qc 0 n):=by
 have e:FF [.int (n:Int)]=some (qc 0 (n:Int).toNat):=vQ ⟨by lia,by lia⟩ _
 rw[e,df]
def vW(n:Nat):qc 0 n=(bJ n).map λi:Nat=>D.int i:=by
 unfold qc;exact mCq λi _=>by rw[gC]
def Zh(l n:Nat) (m:MS) (ds:List D):rO l n m ds=if ds.length=l then (m (ds.map (λd=>some (.sh d))++aw (n-ds.length) none)).bind λo=>match o with
  | .rt a=>some a
  | .nx _=>some (.sh .non)
  |_=>none
 else none:=rfl
def gt1{α:Type}{a b:α}{l:List α}:(a::b::l)[1]?=some b:=rfl
def Ug{α:Type}{a b v:α}{l:List α}:(a::b::l).set 1 v=a::v::l:=rfl
def gt2{α:Type}{a b c:α}{l:List α}:(a::b::c::l)[2]?=some c:=rfl
def IR{α:Type}{a b c v:α}{l:List α}:(a::b::c::l).set 2 v=a::b::v::l:=rfl
def gt3{α:Type}{a b c d:α}{l:List α}:(a::b::c::d::l)[3]?=some d:=rfl
def st3{α:Type}{a b c d v:α}{l:List α}:(a::b::c::d::l).set 3 v=a::b::c::v::l:=rfl
def gt4{α:Type}{a b c d:α}{l:List α}{n:Nat}:(a::b::c::d::l)[n+4]?=l[n]?:=rfl
def st4{α:Type}{a b c d v:α}{l:List α}{n:Nat}:(a::b::c::d::l).set (n+4) v=a::b::c::d::l.set n v:=rfl
def zq:=aa @Z.yJ (aa @Z.YJ (aa @Z.ZI (aa @Z.Zz (aa @Z.Zs (aa @Z.ZQ (aa @Z.ZJ (aa @Z.ZN (aa @Z.aaI (aa @Z.aaN (aa @Z.Y5 (aa @Z.rC_ (aa @Z.aaL (aa @Z.aa8 (aa @Z.Zc (aa @Z.WS (aa @Z.Zy (aa @Z.Xd (aa @Z.aba (aa @Z.YW (aa @Z.UY (aa @Z.YB (aa @Z.XF (aa @Z.XZ (aa @Z.Ud (aa @Z.Y6 (aa @Z.Y1 (aa @Z.Zx (aa @Z.XI (aa @Z.Xw (aa @Z.OR (aa @Z.aaZ (aa @Z.aaY (aa @Z.aaw (aa @Z.X8 (aa @Z.XU (aa @Z.W2 (aa @Z.Uw (aa @Z.Sr (aa @Z.Rf (aa @Z.YL (aa @Z.YM (aa @Z.Xk (aa @Z.YD (aa @Z.aaW (aa @Z.YN (aa @Z.Y4 (aa @Z.WH (aa @Z.Jv (aa @Z.OE (aa @Z.SH (aa @Z.W5 (aa @Z.WM (aa @Z.Zp (aa @Z.Ux (aa @Z.Yp (aa @Z.XX (aa @Z.XO (aa @Z.Zo (aa @Z.aaS (aa @Z.P6 (aa @Z.LP (aa @Z.Qi (aa @Z.P3 (aa @Z.XS (aa @Z.Vj (aa @Z.U8 (aa @Z.Tq (aa @Z.abf (aa @Z.XC (aa @Z.Xh (aa @Z.aaJ (aa @Z.Q7 (aa @Z.W7 (aa @Z.Yl (aa @Z.Z4 (aa @Z.Vi (aa @Z.WN (aa @Z.Yv (aa @Z.Z9 (aa @Z.Rr (aa @Z.VG (aa @Z.Sb (aa @Z.Ss (aa @Z.TL (aa @Z.Q1 (aa @Z.UC (aa @Z.QI (aa @Z.TU (aa @Z.UT (aa @Z.Xr (aa @Z.Xo (aa @Z.Xb (aa @Z.p40 (aa @Z.p57 (aa @Z.DW (aa @Z.Ir (aa @Z.vL (aa @Z.TK (aa @Z.ND (aa @Z.UA (aa @Z.U0 (aa @Z.Uo (aa @Z.PK (aa @Z.R5 (aa @Z.Tn (aa @Z.Ph (aa @Z.IC (aa @Z.QV (aa @Z.U9 (aa @Z.Uq (aa @Z.Qw (aa @Z.TR (aa @Z.To (aa @Z.P4 (aa @Z.qm (aa @Z.sJ (aa @Z.CP (aa @Z.Zh (aa @Z.rd (aa @Z.OT (aa @List.getElem?_cons_zero.{0} (aa @Z.gt1 (aa @Z.gt2 (aa @Z.gt3 (aa @Z.gt4 (aa @List.set_cons_zero.{0} (aa @Z.Ug (aa @Z.IR (aa @Z.st3 (aa @Z.st4 (aa @Option.join_some.{0} (aa @Option.map_some.{0, 0} (aa @Option.map_none.{0, 0} (aa @Option.bind_some.{0, 0} (aa @List.length_cons.{0} (aa @List.length_nil.{0} (aa @List.map_cons.{0, 0} (aa @List.map_nil.{0, 0} (aa @List.nil_append.{0} (aa @List.cons_append.{0} (aa @List.length_map.{0, 0} (aa @Bool.not_true (aa @Bool.not_false (aa @Bool.false_eq_true (aa @decide_true (aa @decide_false (aa @Nat.zero_add (aa @List.replicate_zero.{0} @List.append_nil.{0}))))))))))))))))))))))))))))))))))))))))))))))))))))))))))))))))))))))))))))))))))))))))))))))))))))))))))))))))))))))))))))))))))))))))))))))))))))
def Vk{K:Ζ}{f:MF}(h:∀ns:Ϝ,ns.length<=63->f [.scr ns]=some (.sh (.bl true))):∀vs H Q E,MZ K vs H Q E->rK K f vs H Q E:=by
 rintro vs H Q E ⟨a,ns,rfl,hS,hl,q⟩;refine⟨H,[.scr ns],_,.refl _,.cons (.scr hS) .nil,h ns hl,λl n v F _ _ _ _ r _ _=>?_⟩
 cases r.sh_inv.2;exact q n
end Z
namespace Mr
open PySem PySem.Spec PyProof.Rows L2
section
variable {X:Cx}{tg:Expr}
def MN{α:Type}(P:α->Prop):List α->Prop
 | []=>True
 |a::l=>P a/\MN P l
theorem MN.mem{α:Type}{P:α->Prop}:∀{l:List α},MN P l->∀a∈l,P a
 | [],_,a,h=>by cases h
 |b::l,hp,a,h=>(ah.mp h).elim (λe=>e ▸ hp.1) (MN.mem hp.2 a)
def tJ.of{scope:km}{cl:List (Str×Addr)}{x:Str}{N:List Str}{fr:Θ}(h1:N.Nodup) (h2:N[0]?=some x) (n:N.length=fr.length+1)
  (r:MN (λp=>X.env.cells.lookup p.1=some p.2) cl) (l:MN (λp=>(p.2 = .cell∨p.2 = .free)->∃c,cl.lookup p.1=some c) (mh scope X.env).names)
  (s:MN (λp=>X.N[p.1]?=some p.2/\X.env.scope.names.lookup p.2=some .cell/\(mh scope X.env).names.lookup p.2=some .cell) (fr.zip (N.drop 1))):tJ X scope cl x N fr where
 names:=h1
 own:=h2
 len:=n
 sub:=λy c e=>r.mem (y,c) (PySem.mem_of_lookup e)
 has:=λy e=>by
  rcases e with e|e
  .exact l.mem _ (PySem.mem_of_lookup e) (.inl rfl)
  .exact l.mem _ (PySem.mem_of_lookup e) (.inr rfl)
 get:=λk j y t u=>by
  have z:(j,y)∈fr.zip (N.drop 1):=by
   refine mGq (i:=k) ?_;rw[bN];exact⟨t,by rw[eY,iu];exact u⟩
  exact s.mem _ z
end
end Mr
namespace Mr
open PySem PySem.W PySem.Spec PyProof.Rows L2
abbrev g2(K:Ζ):TG:=Lg K 2 (yA (sq 0) (yA (sq 1) Md))
end Mr
namespace Xe
open PySem PySem.Spec PySem.W PyProof.Rows L2 Mr
section
variable {X:Cx}
def YR(o:Obj) (d:Addr) (kvs:List (pE×V)):It :=
  ⟨λi H=>H d=some (.frz o (.dK kvs))/\∃p,kvs[i]?=some p,
   λi H x l=>l=H/\∃p,kvs[i]?=some p/\x=kV p.1,
   λi H=>H d=some (.frz o (.dK kvs))/\kvs.length<=i⟩
def OF{P:jC}{w:jF}{K:Frag}{tg:Expr}(o:Obj) (d n:Addr) (kvs:List (pE×V)) (vs:List (pE×Value)) (ep:Nat) (hne:d≠n)
  (R:∀h:Heap,h.get? d=some o->h.DictAt (qR P w) d vs ep) (kv:KV kvs vs):My P w K tg (YR o d kvs) [n] n (λi h=>h.IsKeyIter n d i vs.length ep) where
 mem:=by simp
 obj:=λi h st b r=>by
  have e:b=n:=by simpa using r
  subst e;obtain⟨B,e,c,dd⟩:=st;exact⟨B,e,λv z=>by rw[dd]at z;cases z⟩
 keep:=λi h h' st k=>by
  obtain⟨B,e,c,dd⟩:=st;exact⟨B,k n (by simp) _ e,c,dd⟩
 item:=by
  intro X hP hw C S i U s σ H E I hf st G;subst hP hw C;obtain⟨hd,p,Y⟩:=G;have J:s.heap.get? d=some o:=(show qW X.prog X.w H s.heap d (.frz o (.dK kvs)) from I.hok d _ hd).1
  obtain⟨u,hx,ru⟩:=Wu kv Y;obtain⟨L,f1,f2,M,O,Q⟩:=hf n (by simp)
  refine wpAny_pyNext_dict_item st (R _ J) hx λkey h' x y sb=>?_
  have I1:L2.Inv X U σ H { s with heap:=h' }:=I.turned (t':=s.toks) (λb o r e=>(sb.2 b r).trans e) L f1 M O Q
  have rk:qk (kV p.1) key:=by
   rcases qV x with ⟨j,t,e,rfl⟩|⟨z,t,e,rfl⟩
   .rw [e];exact⟨t,rfl⟩
   .rw [e];exact⟨t,rfl⟩
  obtain⟨B,e,c,dd⟩:=id y;exact⟨key,rfl,RJ (s:={ s with heap:=h' }) e c dd (by decide) ⟨_,H,I1,rk,⟨rfl,p,Y,rfl⟩,y,λb r=>(hf b r).1⟩⟩
 done:=by
  intro X hP hw C S i U s σ H E I hf st G;subst hP hw C;obtain⟨hd,hl⟩:=G;have J:s.heap.get? d=some o:=(show qW X.prog X.w H s.heap d (.frz o (.dK kvs)) from I.hok d _ hd).1
  have l:=Paired.length kv;obtain⟨L,f1,f2,M,O,Q⟩:=hf n (by simp)
  exact wpAny_pyNext_dict_end (I.ok.hd S) st (R _ J) (bp (by lia)) λh' eb=>⟨rfl,I.turned (t':=s.toks) (λb o r e=>eb b o r e) L f1 M O Q⟩
 self:=λ_ _ _ _ _ st h=>wpAny_pyIter_keyiter st h
def Wg(te:TE):TI:=λσ H R=>te σ H λx l=>∃d kvs,x = .ref d/\l d=some (.dK kvs)/\∀o,R (YR o d kvs) (qP l d (.frz o (.dK kvs)))
def T4{M o:Expr}{te:TE}(O:PE X o te):PI X M o (Wg te):=by
 intro G s σ H R I h;refine sV (O G s σ H _ I h) λv l C=>?_
 obtain⟨x,J,z,P,d,r,ex,ha,q⟩:=C;subst ex;obtain rfl:=(show v=aj d from P)
 obtain⟨Q,L,t,kv,dd⟩:=(show qW X.prog X.w J l.heap d (.dK r) from z.hok d _ ha)
 obtain⟨B,ob,S,n,sA⟩:=dd.dictAt;have E:∀h:Heap,h.get? d=some ob->h.DictAt (qR X.prog X.w) d t B:=λh e=>⟨ob,S,e,sA⟩
 have y:d<l.heap.objs.size:=ag n;refine wpAny_pyIter_dict L (E _ n) ?_;have kp:∀b u,l.heap.get? b=some u->(l.heap.push { cls:=.type "dict_keyiterator", data:=.fields #[.ref d,.int 0 0,.int t.length 0,.int B 0] }).get? b=some u:=λb u e=>ae _ e
 have U:L2.Inv X G σ (qP J d (.frz ob (.dK r))) { l with heap:=l.heap.push { cls:=.type "dict_keyiterator", data:=.fields #[.ref d,.int 0 0,.int t.length 0,.int B 0] } } :=
  (z.kept (t':=l.toks) kp).write (x:=d) (e:=d) (o:=.frz ob (.dK r)) (t':=l.toks) (by rw[ha];trivial) (.inl rfl) (λb u _ e=>e) ⟨_,kp _ _ n⟩ ⟨kp _ _ n,Q,L,t,kv,(E _ (kp _ _ n)).dictOf⟩
 refine⟨l.heap.objs.size,[l.heap.objs.size],_,_,_,rfl,U,OF ob d _ r t B (ao y) E kv,?_,λb Y=>?_,q ob⟩
 .exact ⟨_,aC _ rfl,rfl,rfl⟩
 .have e:b=l.heap.objs.size:=by simpa using Y
  subst e;exact z.fpOk (ab _) (by rw[oP (aO y)];exact z.hok.fresh (ab _))
end
end Xe
namespace Z
open PySem L2 Mr
def UH(c:MT) (body:MS) (n:Nat) (S:AS):tO c body (n+1) S=(c S).bind λx=>if x.1=true then (body x.2).bind λo=>match o with
   | .nx l=>tO c body n l
   | .ct l=>tO c body n l
   | .bk l=>some (.nx l)
   | .rt a=>some (.rt a)
  else some (.nx x.2):=rfl
end Z
namespace Z
open PySem L2 Mr Xe
inductive Res where
 |ok (a:AV)|ex (c:Str) (fs:List (Str×Int))
abbrev MFx:=List D->Option Res
inductive X5 where
 |ok (o:Oq)|ex (c:Str) (fs:List (Str×Int))
abbrev MX:=AS->Option X5
def kD:pE->D
 | .inl i=>.int i
 | .inr x=>.str x
def UG{K:Ζ}{H:Hp}(k:pE):qB K H (kD k) (kV k):=by
 cases k with
 |inl i=>exact .int
 |inr x=>exact .str
section
variable {K:Ζ}{te tf:TE}{k:MK}{tb:TS}{body:MS}{x y:Nat}
def qe.fix{H₀ l Hf H:Hp}{S:AS}{σ:St}{C:List Δ}(R:qe K H₀ l Hf S σ H C) {p:Addr}{o:HO}(h1:p∉C.flatten) (h2:Hf p=none) (E:H₀ p=none):qe K H₀ l (qP Hf p o) S σ (qP H p o) C:=by
 have s:pO Hf (qP Hf p o):=vf h2;refine⟨R.len,R.lenF,λi J e=>?_,R.emp,R.nd,R.fresh,λb u z=>?_,λb u z=>?_,λb L G=>?_,R.sf.trans s⟩
 .obtain ⟨v,F,M,I,r⟩:=R.rep i J e;have B:∀q∈F,q≠p:=λq n z=>h1 (by rw[←z];exact mFq.mpr ⟨F,mGq I,n⟩)
  exact⟨v,F,M,I,r.keep s (λq n=>oP (B q n)) λq n=>by rw[oP (B q n)];exact(r.owned q n).2⟩
 .by_cases t:b=p
  .subst t;rw[oX]at z ⊢;exact z
  .rw [oP t]at z ⊢;exact R.sub b u z
 .have t:b≠p:=λq=>by rw[q,E]at z;cases z
  rw[oP t];exact R.fr b u z
 .have t:b≠p:=λq=>G (by rw[q];exact E)
  rw[oP t];exact R.lim b L G
end
def ZA(f:AV->Option X5):Res->Option X5
 | .ok r=>f r
 | .ex c fs=>some (.ex c fs)
def HK(x y:D):Option D:=match y with
 | .non=>(match x with|.non=>some (.bl true)|.int _=>some (.bl false)|.str _=>some (.bl false)|.bl _=>some (.bl false)|.list _=>some (.bl false)|.tup _=>some (.bl false)|_=>none)
 |_=>none
section
variable {K:Ζ}
def Lv:GV K (λx y H Q=>y = .non/\Q (.bl (decide (x = .non))) H) HK:=by
 intro x y H Q r s d l n e q;unfold HK at e;cases n <;> first|(cases e;done)|skip
 cases l <;> first|(cases e;done)|(cases e;exact⟨rfl,q _ (by simpa using qB.bl)⟩)
end
abbrev Qx:=LG Rw λi j=>.int (i / j)
def SM(K:Ζ) (te:TE) (m:ME):Prop:=∀{H₀ l Hf:Hp}{S:AS}{σ:St}{H:Hp}{t:List Δ}{d:D}{S':AS},qe K H₀ l Hf S σ H t->m S=some (d,S')->∀Q:VK,
 (∀n s r v,pO Hf n->qe K H₀ l n S' σ s r->qB K n d v->Q v s)->te σ H Q
def Yk:AV->Option D
 | .sh d=>some d
 |_=>none
def SX{a:AV}{d:D}(h:Yk a=some d):a = .sh d:=by
 unfold Yk at h;split at h <;> cases h
 rfl
def zj(i:Nat) (b:ME):ME:=λS=>(rM S i).bind λ_=>(b S).bind λy=>(intOf y.1).bind λz=>(rM y.2 i).bind λl=>uR (0<=z/\z<l.length/\l.length<=rH) ((l[z.toNat]?.bind Yk).map λd=>(d,y.2.set i (some (.ow (l.eraseIdx z.toNat)))))
def FY(i:Nat):ME:=λS=>(rM S i).bind λl=>(l[l.length-1]?.bind Yk).map λd=>(d,S.set i (some (.ow l.dropLast)))
def ZZ(kvs:List (pE×D)) (k:pE):List (pE×D):=kvs.filter λkv=>decide (kv.1≠k)
def abp(i:Nat) (b:ME):ME:=λS=>(xH S i).bind λ_=>(b S).bind λy=>(wy y.1).bind λkey=>(xH y.2 i).bind λkvs=>(getD kvs key).map λd=>(d,y.2.set i (some (.owd (ZZ kvs key))))
section
variable {K:Ζ}
def Vo:GV K (rI Rw λi j=>.int (i / j)) Qx:=IV λ_ _ _=>.int
def qa.erase{Hf H:Hp}{as:List AV}{vs:List V}{t:List Δ}(r:qa K Hf H as vs t) (k:Nat):qa K Hf H (as.eraseIdx k) (vs.eraseIdx k) (t.eraseIdx k):=by
 obtain⟨h1,h2,u⟩:=r;refine⟨by rw[eD,eD,h1],by rw[eD,eD,h2],λi b w G s l n=>?_⟩
 rw[List.getElem?_eraseIdx]at s l n;split at s
 .rename_i q;rw[qd q]at l n;exact u i b w G s l n
 .rename_i q;rw[qh q]at l n;exact u (i+1) b w G s l n
def Mw{l:List Δ}{k:Nat}(h:l[k]?=some []):(l.eraseIdx k).flatten=l.flatten:=by
 induction l generalizing k with
 |nil=>cases h
 |cons g r n =>
  cases k with
  |zero =>
   simp at h;subst h;rfl
  |succ k =>
   rw[bS,fCq,fCq,n (by simpa using h)]
def qe.lose{H₀ l Hf H:Hp}{S:AS}{σ:St}{t:List Δ}(R:qe K H₀ l Hf S σ H t) {i k:Nat}{n:List AV}{d:D}(h:S[i]?=some (some (.ow n))) (hk:n[k]?=some (.sh d)) :
  ∃p vs y F',σ[i]?=some (some (.ref p))/\H p=some (.lst vs)/\n.length=vs.length/\vs[k]?=some y/\qB K Hf d y/\qe K H₀ l Hf (S.set i (some (.ow (n.eraseIdx k)))) σ (qP H p (.lst (vs.eraseIdx k))) (t.set i F'):=by
 obtain⟨p,vs,u,x,E,h1,h2,r,z,I,J⟩:=R.ow h;have lk:k<n.length:=(gSq.mp hk).1;obtain⟨y,B⟩:∃y,vs[k]?=some y:=⟨_,gEg (by rw[←r.1];exact lk)⟩
 obtain⟨G,C⟩:∃G,u[k]?=some G:=⟨_,gEg (by rw[←r.2.1];exact lk)⟩
 obtain⟨s,L⟩:=(r.2.2 k _ _ _ hk B C).sh_inv;subst s;have hf:=Mw C;refine⟨p,vs,y,p::(u.eraseIdx k).flatten,x,h1,r.1,B,L,R.turn x E (by simp) (pY.news oX h2 ((r.keepUpd z).erase k)) ?_ ?_⟩
 .rw [hf];exact az.mpr ⟨z,I⟩
 .rw [hf];exact J
def Fw{i:Nat}{tb:TE}{b:ME}(G:SR K tb b):SM K (TF K "list" Rp (yV i) (sW tb wk)) (zj i b):=by
 intro H₀ r Hf S σ H Fs d S' R e Q q;obtain⟨a0,I,e⟩:=oBq.mp e;obtain⟨y,J,e⟩:=oBq.mp e;obtain⟨z,s,e⟩:=oBq.mp e;obtain⟨l,L,e⟩:=oBq.mp e;rcases pM e with ⟨⟨M,O,P⟩,e⟩|e
 .obtain ⟨d',t,e⟩:=oMq.mp e;cases e;obtain⟨a,t,u⟩:=oBq.mp t;have u:=SX u;subst u;obtain⟨p,U,Gs,C,_,h1,_⟩:=R.ow (ql I);refine⟨.ref p,C,.inl ⟨rfl,U,rN.of h1⟩,G R (d:=y.1) (S':=y.2) J _ λX H1 Fs1 v Y R1 E=>?_⟩
  obtain⟨p',x,w,F',n,hp,hl,hw,B,R2⟩:=R1.lose (ql L) t;rw[C]at n;cases n;have hv:v = .int z:=by
   have:y.1 = .int z:=by
    revert s
    unfold intOf;split <;> intro s <;> cases s
    assumption
   rw[this]at E;cases E;rfl
  subst hv;have hz:(l.length:Int)<=16777216:=by
   have:l.length<=16777216:=P;lia
  refine⟨p,x,z,z.toNat,w,rfl,rfl,hp,by lia,by lia,?_,hw,q _ _ _ _ Y.sf R2 B⟩
  rw[←hl];unfold nS;have n1:¬ z<0:=by lia
  have n2:(decide (0<=z) && decide (z<(l.length:Int)))=true:=by
   rw[decide_eq_true M,decide_eq_true O];rfl
  simp only[n1,if_false];exact qd n2
 .cases e
def WE{i:Nat}:SM K (TF K "list" WZ (yV i) wk) (FY i):=by
 intro H₀ l B S σ H C d E R e Q q;obtain⟨x,y,e⟩:=oBq.mp e;obtain⟨G,n,e⟩:=oMq.mp e;cases e;obtain⟨a,n,r⟩:=oBq.mp n;have r:=SX r;subst r;obtain⟨p,t,w,I,z,u,hl,hw,s,R2⟩:=R.lose (ql y) n;refine⟨.ref p,z,.inl ⟨rfl,t,rN.of u⟩,p,t,w,rfl,rfl,u,by rw[←hl];exact hw,?_⟩
 rw[Bw,hl,Bw]at R2;exact q _ _ _ _ (.refl _) R2 s
def Hh(i:Nat) (m:ME):MS:=λS=>(m S).map λx=>.nx (x.2.set i (some (.sh x.1)))
def Vt{i:Nat}{te:TE}{m:ME}(h:SM K te m):SS K (Gv te (sq i)) (Hh i m):=by
 intro H₀ l y S σ H z o R e D hd;obtain⟨x,n,e⟩:=oMq.mp e;cases e;refine h R (d:=x.1) (S':=x.2) n _ λr B Fs1 v s t u=>?_
 exact hd _ _ _ _ s (t.setD i u)
def RX(i:Nat) (m:ME):MS:=λS=>(rM S i).bind λ_=>(m S).bind λx=>(rM x.2 i).bind λl=>uR (l.length<rH) (some (.nx (x.2.set i (some (.ow (l++[.sh x.1]))))))
def UV{i:Nat}{te:TE}{m:ME}(hk:SM K te m):SS K (BP (TF K "list" AJ (yV i) (sW te wk))) (RX i m):=by
 intro H₀ s Hf S σ H Fs o R e D h;obtain⟨a0,L,e⟩:=oBq.mp e;obtain⟨x,M,e⟩:=oBq.mp e;obtain⟨O,P,e⟩:=oBq.mp e;rcases pM e with ⟨hl,e⟩|e
 .cases e;obtain⟨p,Q,Gs,t,_,h1,_⟩:=R.ow (ql L);refine⟨.ref p,t,.inl ⟨rfl,Q,rN.of h1⟩,hk R (d:=x.1) (S':=x.2) M _ λU H1 Fs1 v X I Y=>?_⟩
  obtain⟨p',u,y,l,z,B,C,n,r,E,G⟩:=I.ow (ql P);rw[t]at l;cases l;refine⟨p,u,v,rfl,rfl,B,by rw[wq,←n.1];exact hl,h _ _ _ _ X (I.turn t z (by simp) (F':=p::(y++[[]]).flatten) (pY.news oX C ((n.keepUpd r).snoc (.sh Y))) ?_ λq J=>?_)⟩
  .rw [fAq,aS,aNq];exact az.mpr ⟨r,E⟩
  .rw [fAq,aS,aNq]at J;exact G q J
 .cases e
def aa7(i:Nat) (b:ME) (m:ME):MS:=λS=>(m S).bind λx=>(xH x.2 i).bind λ_=>(b x.2).bind λy=>(xH y.2 i).bind λkvs=>(wy y.1).bind λkey =>
 uR (kvs.length<rH) (some (.nx (y.2.set i (some (.owd (wI kvs key x.1))))))
end
def WC(d:D):Yk (.sh d)=some d:=rfl
def Su(S:AS) (i:Nat) (b:ME):zj i b S=(rM S i).bind λ_=>(b S).bind λy=>(intOf y.1).bind λz=>(rM y.2 i).bind λl=>uR (0<=z/\z<l.length/\l.length<=rH) ((l[z.toNat]?.bind Yk).map λd=>(d,y.2.set i (some (.ow (l.eraseIdx z.toNat))))):=rfl
def WT(S:AS) (i:Nat):FY i S=(rM S i).bind λl=>(l[l.length-1]?.bind Yk).map λd=>(d,S.set i (some (.ow l.dropLast))):=rfl
def Ya(S:AS) (i:Nat) (m:ME):Hh i m S=(m S).map λx=>.nx (x.2.set i (some (.sh x.1))):=rfl
def W6(S:AS) (i:Nat) (m:ME):RX i m S=(rM S i).bind λ_=>(m S).bind λx=>(rM x.2 i).bind λl=>uR (l.length<rH) (some (.nx (x.2.set i (some (.ow (l++[.sh x.1])))))):=rfl
def zq6:=aa @WC (aa @Su (aa @WT (aa @Ya @W6)))
section
variable {K:Ζ}{H₀ Hf₀ Hf H:Hp}{S:AS}{σ:St}{Fs:List Δ}{te tb:TE}{k:MK}{b:ME}
def qe.poke(R:qe K H₀ Hf₀ Hf S σ H Fs) {p:Addr}{o:HO}(pn:Hf p=none) (n:H₀ p=none) (pf:p∉Fs.flatten):qe K H₀ Hf₀ Hf S σ (qP H p o) Fs:=by
 refine⟨R.len,R.lenF,λj a r=>?_,R.emp,R.nd,R.fresh,λb u e=>?_,λb u e=>?_,R.lim,R.sf⟩
 .obtain ⟨w,G,f1,f2,q⟩:=R.rep j a r;refine⟨w,G,f1,f2,q.keep (.refl _) (λc l=>oP λe=>pf ?_) λc l=>(q.owned c l).2⟩
  subst e;exact qu f2 l
 .rw [oP λz=>by rw[z,pn]at e;cases e]
  exact R.sub b u e
 .rw [oP λz=>by rw[z,n]at e;cases e]
  exact R.fr b u e
def yM.stays{l r:Hp}{n:List Δ}(t:yM Hf H Fs l r n) {p:Addr}(pn:Hf p=none) (s:H p≠none) (pf:p∉Fs.flatten):l p=none/\p∉n.flatten:=by
 refine⟨?_,λm=>pf (t.own p m)⟩
 by_cases h:l p=none
 .exact h
 .exact ((t.gr p pn h).elim (λe=>absurd e s) λm=>absurd m pf)
def HA(b:ME) (k:MK):MK:=λS=>(b S).bind λy=>(wg k y.2).bind λx=>(wy y.1).map λkey=>(.owd [(key,oN x.1)],x.2)
def Jq(P:SR K tb b) (hk:SK K te k):SK K (Wl [(tb,te)]) (HA b k):=by
 intro H₀ Hf₀ Hf S σ H Fs av S' R e Q q;obtain⟨y,U,e⟩:=oBq.mp e;obtain⟨x,E,e⟩:=oBq.mp e;obtain⟨key,X,e⟩:=oMq.mp e;cases e;have s:SK K te (wg k):=SK.frz hk;intro p r;obtain⟨t0,Y,n1,G,n3⟩:=R.new (o:=.dK []) r;have I:=xS.one R r;refine P Y (d:=y.1) (S':=y.2) U _ λHf1 H1 Fs1 w t R1 r1=>?_
 have J:qP H p (HO.dK []) p=some (.dK []):=oX;have L:H1 p=some (.dK []):=t.sh p _ J;obtain⟨a1,a2⟩:=t.stays n1 (by rw[J];simp) n3
 refine s R1 (a:=x.1) (S':=x.2) E _ λB M Fs2 v F C R2 O o2=>?_
 have p2:M p=some (.dK []):=C.sh p _ L;obtain⟨b1,b2⟩:=C.stays a1 (by rw[L];simp) a2
 obtain⟨x1,n⟩:∃d,x.1 = .sh d:=by
  obtain⟨w,_,e⟩:=oMq.mp E;rw[←e];exact⟨_,rfl⟩
 rw[n]at O;have rv:=O.sh_inv.2;have hw:=yp X r1;subst hw;refine⟨p2,[(key,v)],rfl,by simp,?_⟩
 have l:=(t0.trans t).trans C;have hs:pO H (qP M p (HO.dK (C8 [] [(key,v)]))):=λc u e=>by
  rw[oP λz=>by rw[z,r]at e;cases e]
  exact l.sh c u e
 refine q B _ Fs2 (.ref p) [p] ⟨l.sf,hs,l.own,l.gr⟩ (R2.poke b1 G b2) (.owd oX b1 ⟨rfl,λi d u h1 h2=>?_⟩) ⟨by simp,λc h=>by rw[mSq.mp h];exact G,λc h=>by rw[mSq.mp h];exact b2,λc h=>by rw[mSq.mp h];exact .inl r⟩
 match i,h1,h2 with
 |0,h1,h2 =>
  cases h1;cases h2;rw[n,qm];exact rv
 |i+1,h1,_=>simp at h1
def Hk{i:Nat}:SM K (ZX K "list" WZ (yV i)) (FY i):=WE
def An:List (pE×D)->Option Ϝ
 | []=>some []
 | (.inl i,_)::r=>(An r).map (i :: ·)
 |_=>none
theorem KC:∀{kvs:List (pE×D)}{ns:Ϝ},An kvs=some ns->kvs.map (·.1)=ns.map ar
 | [],ns,h=>by cases h;rfl
 | (.inl i,d)::r,ns,h=>by
  obtain⟨l,h1,h2⟩:=oMq.mp (show (An r).map (i :: ·)=some ns from h)
  subst h2;rw[ax,ax,KC h1]
 | (.inr _,_)::_,_,h=>by cases h
def C0(a:ME):MK:=λS=>(a S).bind λx=>match x.1 with
 | .dict kvs=>(An kvs).bind λns=>uR (ns.length<64) (some (.ow ((qj ns).map λn=>.sh (.int n)),x.2))
 |_=>none
def FM(y:SR K te b):SK K (JL (λxs H Q=>∃(a:Addr) (kvs:List (pE×V)) (ns:Ϝ),xs=[.ref a]/\ns.length<64/\H a=some (.dK kvs)/\kvs.map (·.1)=ns.map ar/\∀p,H p=none->Q (.ref p) (qP H p (.lst ((qj ns).map V.int)))) (sW te wk)) (C0 b):=by
 intro H₀ Hf₀ Hf S σ H Fs z r R e Q q;obtain⟨x,B,e⟩:=oBq.mp e;obtain⟨C,E⟩:=x;cases C with
 |dict kvs =>
  obtain⟨ns,G,e⟩:=oBq.mp (show (An kvs).bind (λns=>uR (ns.length<64) (some (AV.ow ((qj ns).map λn=>.sh (.int n)),E)))=some (z,r) from e)
  obtain⟨l,e⟩:=HH e;cases e;refine y R (d:=.dict kvs) (S':=r) B _ λI X Fs1 w s t J=>?_
  obtain⟨L,M,rfl,h1,h2⟩:=J.dict_inv;refine⟨L,M,ns,rfl,l,h1,by rw[←h2.1];exact KC G,λp u=>?_⟩
  obtain⟨O,P,U,Y,n3⟩:=t.new (o:=.lst ((qj ns).map V.int)) u;rw[Al]at q;exact q _ _ _ (.ref p) [p] (s.trans O) P (pY.new oX U (uN _)) ((xS.one t u).back s)
 |_=>cases e
end
def UN(S:AS) (b:ME) (k:MK):HA b k S=(b S).bind λy=>(wg k y.2).bind λx=>(wy y.1).map λkey=>(.owd [(key,oN x.1)],x.2):=rfl
def VU:D->AS->Option (AV×AS)
 | .dict kvs,S=>(An kvs).bind λns=>uR (ns.length<64) (some (.ow ((qj ns).map λn=>.sh (.int n)),S))
 |_,_=>none
def NT(S:AS) (a:ME):C0 a S=(a S).bind λx=>VU x.1 x.2:=by
 unfold C0;congr 1;funext x;obtain⟨l,n⟩:=x;cases l <;> rfl
def Q8(kvs:List (pE×D)) (S:AS):VU (.dict kvs) S=(An kvs).bind λns=>uR (ns.length<64) (some (.ow ((qj ns).map λn=>.sh (.int n)),S)):=rfl
theorem Df{α:Type}(f:α->Int) (g:α->D):∀l:List α,An (l.map λx=>(ar (f x),g x))=some (l.map f)
 | []=>rfl
 |x::l=>by
  show (An (l.map λx=>(ar (f x),g x))).map (f x :: ·)=_
  rw[Df f g l];rfl
def zq9:=aa @UN (aa @NT @Q8)
section
variable {K:Ζ}{H₀ Hf₀ Hf Hf' H H':Hp}{S S':AS}{σ σ':St}{Fs Fs':List Δ}
theorem IH.same(s:pO H H'):∀{path:Θ}{v w:V},IH H v path w->IH H' v path w
 | [],v,w,h=>h
 |j::js,v,w,⟨p,vs,u,h1,h2,h3,h4⟩=>⟨p,vs,u,h1,s _ _ h2,h3,IH.same s h4⟩
theorem IH.one:∀{path:Θ}{v w l:V},IH H v path w->IH H v path l->w=l
 | [],v,w,l,h,s=>h.symm.trans s
 |j::js,v,w,l,hz,hy=>by
  obtain⟨p,B,u,h1,h2,t,x⟩:=hz;obtain⟨C,y,E,n,g2,r,z⟩:=hy;rw[h1]at n;cases n;rw[h2]at g2;cases g2;rw[t]at r;cases r;exact x.one z
theorem IH.snoc:∀{path:Θ}{v:V}{p:Addr}{vs:List V}{n:Nat}{u:V},IH H v path (.ref p)->H p=some (.lst vs)->vs[n]?=some u->IH H v (path++[n]) u
 | [],v,p,vs,n,u,h,h1,h2=>⟨p,vs,u,h,h1,h2,rfl⟩
 |j::js,v,p,vs,n,u,⟨p',vs',u',g1,g2,g3,g4⟩,h1,h2=>⟨p',vs',u',g1,g2,g3,g4.snoc h1 h2⟩
theorem IH.kept:∀{path:Θ}{l:AV}{v w:V}{F:Δ}{as:List AV},pY K Hf H l v F->qF l path=some as->IH H v path w->(∀q∈F,H' q=H q)->IH H' v path w
 | [],l,v,w,F,as,_,_,h,_=>h
 |j::js,l,v,w,F,as,r,e,hz,hk=>by
  obtain⟨p,E,u,h1,h2,s,G⟩:=hz;cases l with
  |ow n =>
   obtain⟨O,I,P,t,x,y,Q,z⟩:=r.ow_inv;rw[h1]at t;cases t;rw[h2]at y;cases y;obtain⟨a,B,e⟩:=oBq.mp (show (n[j]?).bind (λa=>qF a js)=some as from e)
   have J:j<n.length:=(gSq.mp B).1;have C:=gEg (z.2.1 ▸ J);have L:=z.2.2 j a u _ B s C;refine⟨p,E,u,h1,by rw[hk p (by rw[x];simp)];exact h2,s,G.kept L e λq M=>hk q ?_⟩
   rw[x];exact mCo _ (qu C M)
  |_=>cases e
def frm(H₀ H:Hp) (F:Δ):Hp:=λb=>if b∈F then H b else H₀ b
def IG{F:Δ}{b:Addr}(h:b∈F):frm H₀ H F b=H b:=qd h
def AW{F:Δ}{b:Addr}(h:b∉F):frm H₀ H F b=H₀ b:=qh h
def qe.frame(R:qe K H₀ Hf₀ Hf S σ H Fs) {i:Nat}{F:Δ}(r:Fs[i]?=some F):qe K (frm H₀ H F) Hf₀ Hf (S.set i none) σ H (Fs.set i []):=by
 have l:=R.kill i;have t:∀q∈F,q∈Fs.flatten:=λq x=>qu r x
 refine⟨l.len,l.lenF,l.rep,l.emp,l.nd,λp s=>?_,l.sub,λb u e=>?_,λb h1 h2=>?_,l.sf⟩
 .have hn:p∉F:=λz=>uX R.nd r z s
  rw[AW hn];exact l.fresh p s
 .by_cases n:b∈F
  .rw [IG n]at e;exact e
  .rw [AW n]at e;exact R.fr b u e
 .by_cases n:b∈F
  .exact (R.mem (t b n)).2
  .rw [AW n]at h2;exact R.lim b h1 h2
def HR{α:Type}{l:List α}{i:Nat}{a:α}(h:l[i]?=some a):l.set i a=l:=by
 obtain⟨hk,n⟩:=gSq.mp h;rw[←n];exact fy hk
def qe.unframe(R:qe K H₀ Hf₀ Hf S σ H Fs) {i:Nat}{t:AV}{v:V}{F:Δ}(x:Fs[i]?=some F) (r:pY K Hf H t v F) (nd:F.Nodup) (s:∀q∈F,H₀ q=none)
  (l:qe K (frm H₀ H F) Hf₀ Hf' S' σ' H' Fs') (y:S'[i]?=some none) (I:σ'[i]?=some (some v)) (sf:pO Hf Hf') :
  (∀q∈F,H' q=H q)/\pY K Hf' H' t v F/\qe K H₀ Hf₀ Hf' (S'.set i (some t)) σ' H' (Fs'.set i F):=by
 have hk:∀q∈F,H' q=H q:=λq n=>by
  have hn:=(R.mem (qu x n)).1;cases C:H q with
  |none=>exact absurd C hn
  |some u=>exact l.fr q u (by rw[IG n];exact C)
 have hf:∀q∈F,Hf' q=none:=λq n=>by
  have B:=R.mem (qu x n);refine l.lim q ?_ (by rw[IG n];exact B.1)
  cases J:Hf₀ q with
  |none=>rfl
  |some u=>rw[R.sf q u J]at B;exact absurd B.2 (by simp)
 have E:=r.keep sf hk hf;refine⟨hk,E,?_⟩;have L:qe K H₀ Hf₀ Hf' (S'.set i none) σ' H' (Fs'.set i []):=by
  rw[HR y,HR (l.emp i y)];refine⟨l.len,l.lenF,l.rep,l.emp,l.nd,λp M=>?_,l.sub,λb u e=>?_,λb h1 h2=>?_,l.sf⟩
  .have:=l.fresh p M
   by_cases G:p∈F
   .exact s p G
   .rwa [AW G]at this
  .refine l.fr b u ?_;rw[AW λz=>by rw[s b z]at e;cases e]
   exact e
  .refine l.lim b h1 ?_;rw[AW λz=>h2 (s b z)]
   exact h2
 refine L.again (F:=F) I E nd λq n=>⟨s q n,λm=>?_⟩
 rw[HR (l.emp i y)]at m;have:=l.fresh q m;rw[IG n]at this;exact(R.mem (qu x n)).1 this
end
abbrev MP:=AS->Option (List Nat×AS)
def QC(i:Nat):MP:=λS=>(rM S i).map λ_=>([],S)
def ZK(i:Nat) (pf:MP) (b:ME):MP:=λS=>(pf S).bind λx=>(b x.2).bind λy=>(intOf y.1).bind λj=>(rM y.2 i).bind λl=>(qF (.ow l) x.1).bind λas=>(Jx as.length j).map λn=>(x.1++[n],y.2)
def Zn(K:Ζ) (i:Nat) (te:TE) (pf:MP):Prop:=∀{H₀ l Hf:Hp}{S:AS}{σ:St}{H:Hp}{t:List Δ}{path:Θ}{S':AS},qe K H₀ l Hf S σ H t->pf S=some (path,S')->∀Q:VK,
 (∀n s r v w,yM Hf H t n s r->qe K H₀ l n S' σ s r->σ[i]?=some (some v)->IH s v path w->Q w s)->te σ H Q
section
variable {K:Ζ}
def Oa(i:Nat):Zn K i (yV i) (QC i):=by
 intro H₀ l t S σ H u path x R e Q q;obtain⟨r,s,e⟩:=oMq.mp e;cases e;obtain⟨p,y,z,n,_⟩:=R.ow (ql s);exact⟨_,n,q _ _ _ _ _ .refl R n rfl⟩
def CD{H₀ l Hf H:Hp}{S:AS}{σ:St}{t:List Δ}{i:Nat}{n as:List AV}{path:Θ}{v w:V}(R:qe K H₀ l Hf S σ H t) (e:S[i]?=some (some (.ow n))) (u:σ[i]?=some (some v)) (x:qF (.ow n) path=some as) (h:IH H v path w) :
  ∃p vs,w = .ref p/\H p=some (.lst vs)/\vs.length=as.length:=by
 obtain⟨B,F,s,C,r,nd,_⟩:=R.move e;rw[u]at s;cases s;obtain⟨p,vs,E,y,g2,G,z,_⟩:=r.path nd x;exact⟨p,vs,h.one y,g2,z.1.symm⟩
def Te{i:Nat}{te tb:TE}{pf:MP}{b:ME}(J:Zn K i te pf) (L:SR K tb b):Zn K i (Tw (UX K) te tb) (ZK i pf b):=by
 intro H₀ l Hf S σ H Fs path S' R e Q q;obtain⟨x,M,e⟩:=oBq.mp e;obtain⟨y,O,e⟩:=oBq.mp e;obtain⟨j,r,e⟩:=oBq.mp e;obtain⟨P,U,e⟩:=oBq.mp e;obtain⟨as,X,e⟩:=oBq.mp e;obtain⟨n,s,e⟩:=oMq.mp e;cases e;refine J R (path:=x.1) (S':=x.2) M _ λY H1 Fs1 v w t1 R1 B a1=>L R1 (d:=y.1) (S':=y.2) O _ λHf2 H2 Fs2 u C R2 E=>?_
 have hy:y.1 = .int j:=by
  cases hx:y.1 <;> rw[hx]at r <;> first|(cases r;rfl)|cases r
 rw[hy]at E;cases E;have G:=a1.same C.sh;obtain⟨p,t,rfl,h1,h2⟩:=CD R2 (ql U) B X G;have hix:=s;obtain⟨_,hn,_⟩:=NU s;have z:n<t.length:=by rw[h2];exact hn
 obtain⟨u,I⟩:∃u,t[n]?=some u:=⟨_,gEg z⟩;refine⟨p,t,j,u,rfl,rfl,rN.of h1,?_,q _ _ _ v _ (t1.trans C) R2 B (G.snoc h1 I)⟩;unfold atI;rw[h2,s];exact I
end
section
variable {K:Ζ}
def qe.grow{H₀ l Hf H:Hp}{S:AS}{σ:St}{I:List Δ}{i:Nat}{s as:List AV}{path:Θ}{v:V}{p:Addr}(R:qe K H₀ l Hf S σ H I) (e:S[i]?=some (some (.ow s))) (J:σ[i]?=some (some v)) (Y:qF (.ow s) path=some as) (h:IH H v path (.ref p)) :
  ∃vs,H p=some (.lst vs)/\as.length=vs.length/\∀(bs:List AV) (ws:List V) (n:List Δ),qa K Hf H bs ws n->n.flatten.Nodup->(∀q∈n.flatten,H₀ q=none/\q∉I.flatten) ->
   ∃B,qe K H₀ l Hf (S.set i (some (putAt (.ow s) path (as++bs)))) σ (qP H p (.lst (vs++ws))) B:=by
 obtain⟨v',F,L,x,r,nd,M,_⟩:=R.move e;rw[J]at L;cases L;obtain⟨p',vs,C,g1,g2,g3,O,P,Q,E,U,g8⟩:=r.path nd Y;have G:V.ref p=V.ref p':=h.one g1;cases G;refine⟨vs,g2,O.1,λbs ws n rb nG u=>?_⟩
 have X:p∉n.flatten:=λm=>(u p m).2 (qu x P)
 have t:(C++n).flatten=C.flatten++n.flatten:=fAq;obtain⟨F',k1,k2,k3⟩:=g8 (as++bs) (vs++ws) (C++n) ((O.keepUpd Q).append (rb.keepUpd X)) (by
  rw[t];refine az.mpr ⟨λm=>(mAq.mp m).elim Q X,nAq.mpr ⟨E,nG,λa ha b hb z=>(u b hb).2 (qu x (U b (z ▸ ha)))⟩⟩) (λq y=>by
  rw[t]at y;exact(mAq.mp y).imp id λm z=>(u q m).2 (qu x z))
 refine⟨_,R.turnAny J x P k1 k2 λq y=>?_⟩
 rcases k3 q y with z|z
 .exact M q z
 .rw [t]at z;rcases mAq.mp z with z|z
  .exact M q (U q z)
  .exact ⟨(u q z).1,λm=>(u q z).2 (qS m)⟩
def abO(i:Nat) (pf:MP) (k:MK):MS:=λS=>(pf S).bind λx=>(rM x.2 i).bind λn=>(qF (.ow n) x.1).bind λ_=>(k x.2).bind λy=>(rM y.2 i).bind λl=>(qF (.ow l) x.1).bind λas=>uR (as.length<rH) (some (.nx (y.2.set i (some (putAt (.ow l) x.1 (as++[y.1]))))))
def abt(i:Nat) (pf:MP) (l:ML):MS:=λS=>(pf S).bind λx=>(rM x.2 i).bind λr=>(qF (.ow r) x.1).bind λ_=>(l x.2).bind λy=>(rM y.2 i).bind λn=>(qF (.ow n) x.1).bind λas=>uR (as.length+y.1.length<=rH) (some (.nx (y.2.set i (some (putAt (.ow n) x.1 (as++y.1.map .sh))))))
def Als(x i:Nat) (path:Θ) (S:AS) (σ:St) (H:Hp):Prop:=∃v p l as,S[i]?=some (some (.ow l))/\qF (.ow l) path=some as/\σ[x]?=some (some (.ref p))/\σ[i]?=some (some v)/\IH H v path (.ref p)
def QZ(K:Ζ) (x i:Nat) (t:TS) (m:Θ->MS):Prop:=∀{path:Θ}{H₀ l Hf:Hp}{S:AS}{σ:St}{H:Hp}{n:List Δ}{o:Oq},qe K H₀ l Hf S σ H n->Als x i path S σ H->m path S=some o->∀D:A5,GR K H₀ l Hf D o->t D σ H
def VE(x i:Nat) (pf:MP) (m:Θ->MS):MS:=λS=>(pf S).bind λy=>(rM y.2 i).bind λl=>(qF (.ow l) y.1).bind λ_=>uR (x≠i/\x<y.2.length) (m y.1 (y.2.set x none))
def WB{x i:Nat}{te:TE}{pf:MP}{t:TS}{m:Θ->MS}(G:Zn K i te pf) (I:QZ K x i t m):SS K (Ra (Gv te (sq x)) t) (VE x i pf m):=by
 intro H₀ n P S σ H Q o R e D h;obtain⟨y,J,e⟩:=oBq.mp e;obtain⟨r,z,e⟩:=oBq.mp e;obtain⟨L,B,e⟩:=oBq.mp e;rcases pM e with ⟨⟨l,s⟩,e⟩|e
 .refine G R (path:=y.1) (S':=y.2) J _ λM U Fs1 v w O u C E=>?_
  obtain⟨p,X,rfl,h1,h2⟩:=CD u (ql z) C B E;have R2:=(u.kill x).any (V.ref p);refine I R2 ⟨v,p,r,L,?_,B,?_,?_,E⟩ e D (h.mono O.sf)
  .rw [aD l];exact ql z
  .exact aM (by rw[←u.len];exact s)
  .rw [aD l];exact C
 .cases e
def V7{x i:Nat}{t:TS}{m:MS}(h:SS K t m):QZ K x i t (λ_=>m):=λR _ e D o=>h R e D o
def Wz{x i:Nat}{t u:TS}{a:Θ->MS}{b:MS}(ha:QZ K x i t a) (n:SS K u b):QZ K x i (Ra t u) (λpath=>oQ (a path) b):=by
 intro path H₀ l G S σ H I o R A e D h;obtain⟨y,r,e⟩:=oBq.mp e;refine ha R A r _ ?_;cases y with
 |nx J=>exact λz B L C s E=>n E e D (h.mono s)
 |rt a=>cases e;exact h
 |bk a=>cases e;exact h
 |ct a=>cases e;exact h
def Kn(i:Nat) (c:MT) (a b:Θ->MS):Θ->MS:=λpath S=>(c S).bind λy=>(rM y.2 i).bind λl=>(qF (.ow l) path).bind λ_=>if y.1=true then a path y.2 else b path y.2
def Q6{x i:Nat}{c:TT}{m:MT}{t u:TS}{a b:Θ->MS}(E:GS K c m) (ha:QZ K x i t a) (G:QZ K x i u b):QZ K x i (Uz c t u) (Kn i m a b):=by
 intro path H₀ n X S σ H Y o R A e D h;obtain⟨y,I,e⟩:=oBq.mp e;obtain⟨r,J,e⟩:=oBq.mp e;obtain⟨L,M,e⟩:=oBq.mp e;obtain⟨v,p,_,_,_,_,O,P,s⟩:=A;refine E R (b:=y.1) (S':=y.2) I _ λQ U Fs1 z B=>?_
 have C:Als x i path y.2 σ U:=⟨v,p,r,L,ql J,M,O,P,s.same z.sh⟩;split at e
 .rename_i l;rw[l];exact JE (ha B C e D (h.mono z.sf))
 .rename_i l;rw[dA]at l;rw[l];exact KI (G B C e D (h.mono z.sf))
def Oe(i:Nat) (k:MK):Θ->MS:=λpath S=>(k S).bind λy=>(rM y.2 i).bind λl=>(qF (.ow l) path).bind λas=>uR (as.length<rH) (some (.nx (y.2.set i (some (putAt (.ow l) path (as++[y.1]))))))
def Xf{x i:Nat}{te:TE}{k:MK}(hk:SK K te k):QZ K x i (BP (TF K "list" AJ (yV x) (sW te wk))) (Oe i k):=by
 intro path H₀ n Hf S σ H Fs o R A e D h;obtain⟨y,C,e⟩:=oBq.mp e;obtain⟨E,G,e⟩:=oBq.mp e;obtain⟨as,I,e⟩:=oBq.mp e;rcases pM e with ⟨hl,e⟩|e
 .cases e;obtain⟨v,p,a0,n0,J,L,M,z,l⟩:=A;obtain⟨p',O,P,h1,h2⟩:=CD R J z L l;cases P;refine⟨.ref p,M,.inl ⟨rfl,O,rN.of h1⟩,hk R (a:=y.1) (S':=y.2) C _ λQ H2 Fs2 u F B R2 U r=>?_⟩
  obtain⟨s,X,g2,Y⟩:=R2.grow (ql G) z I (l.same B.sh);obtain⟨Fs',R3⟩:=Y [y.1] [u] [F] (qa.nil.snoc U) (by rw[aS];exact r.nd) (λq t=>by rw[aS]at t;exact⟨r.fr q t,r.out q t⟩)
  exact⟨p,s,u,rfl,rfl,X,by rw[wq,←g2];exact hl,h _ _ _ _ B.sf R3⟩
 .cases e
def abB(i:Nat) (l:ML):Θ->MS:=λpath S=>(l S).bind λy=>(rM y.2 i).bind λn=>(qF (.ow n) path).bind λas=>uR (as.length+y.1.length<=rH) (some (.nx (y.2.set i (some (putAt (.ow n) path (as++y.1.map .sh))))))
def HJ(i:Nat) (n:ME):Θ->MS:=λpath S=>(rM S i).bind λl=>(qF (.ow l) path).bind λas=>(n (S.set i none)).bind λy=>uR (y.2[i]?=some none/\as.length<rH) (some (.nx (y.2.set i (some (putAt (.ow l) path (as++[.sh y.1]))))))
def U1{x i:Nat}{te:TE}{I:ME}(hk:SM K te I):QZ K x i (BP (TF K "list" AJ (yV x) (sW te wk))) (HJ i I):=by
 intro path H₀ z Hf S σ H Fs o R A e D h;obtain⟨l,P,e⟩:=oBq.mp e;obtain⟨as,B,e⟩:=oBq.mp e;obtain⟨y,Q,e⟩:=oBq.mp e;rcases pM e with ⟨⟨hn,hl⟩,e⟩|e
 .cases e;obtain⟨v,p,a0,n0,_,_,U,t,n⟩:=A;have s:=ql P;obtain⟨p',X,Y,h1,h2⟩:=CD R s t B n;cases Y;obtain⟨v',F,J,L,r,nd,oo,_⟩:=R.move s;rw[t]at J;cases J;refine⟨.ref p,U,.inl ⟨rfl,X,rN.of h1⟩,hk (R.frame L) (d:=y.1) (S':=y.2) Q _ λHf2 H2 Fs2 u M R2 r2=>?_⟩
  obtain⟨k1,k2,R3⟩:=R.unframe L r nd (λq C=>(oo q C).1) R2 hn t M
  have E:i<y.2.length:=(gSq.mp hn).1;have e5:(y.2.set i (some (.ow l)))[i]?=some (some (.ow l)):=aM E;obtain⟨G,g1,g2,g3⟩:=R3.grow e5 t B (n.kept r B k1);obtain⟨Fs',O⟩:=g3 [.sh y.1] [u] [[]] (qa.nil.snoc (.sh r2)) (by simp) (λq C=>by simp at C)
  rw[fP]at O;exact⟨p,G,u,rfl,rfl,g1,by rw[wq,←g2];exact hl,h _ _ _ _ M O⟩
 .cases e
def Yr(K:Ζ) (J:Θ) (t:TS) (m:MS):Prop:=∀{H₀ l Hf:Hp}{S:AS}{σ:St}{H:Hp}{x:List Δ}{S':AS},qe K H₀ l Hf S σ H x->m S=some (.nx S')->∀D:A5,(∀r n u s,pO Hf r->qe K H₀ l r S' n u s->(∀j∈J,n[j]?=σ[j]?)->D.nx n u)->t D σ H
def QS{J:Θ}{t:TS}(h:∀D σ H,D.nx σ H->t D σ H):Yr K J t qJ:=by
 intro H₀ l n S σ H r s R e D q;cases e;exact h _ _ _ (q _ _ _ _ (.refl _) R λ_ _=>rfl)
def MV{J:Θ}{y:Nat}{te:TE}{k:MK}(hk:SK K te k) (s:y∉J):Yr K J (Gv te (sq y)) (pN y k):=by
 intro H₀ l I S σ H L M R e D q;obtain⟨x,t,e⟩:=oMq.mp e;cases e;refine hk R (a:=x.1) (S':=x.2) t _ λu O Fs1 v F B C E n=>?_
 exact q _ _ _ _ B.sf (C.set y E n.nd λq r=>⟨n.fr q r,n.out q r⟩) λj G=>aD (show y≠j from λz=>s (by rw[z];exact G))
def Qu{J:Θ}{y:Nat}{te:TE}{m:ME}(hk:SM K te m) (n:y∉J):Yr K J (Gv te (sq y)) (Hh y m):=by
 intro H₀ l E S σ H G I R e D q;obtain⟨x,r,e⟩:=oMq.mp e;cases e;refine hk R (d:=x.1) (S':=x.2) r _ λs L Fs1 v t u B=>?_
 exact q _ _ _ _ t (u.setD y B) λj C=>aD (show y≠j from λz=>n (by rw[z];exact C))
def WQ{J:Θ}{c:TT}{m:MT}{t u:TS}{a b:MS}(G:GS K c m) (ha:Yr K J t a) (I:Yr K J u b):Yr K J (Uz c t u) (zC m a b):=by
 intro H₀ n P S σ H Q U R e D q;obtain⟨x,L,e⟩:=oBq.mp e;refine G R (b:=x.1) (S':=x.2) L _ λM X Fs1 C E=>?_
 split at e
 .rename_i l;rw[l];exact JE (ha E e D λr y O z s B j=>q _ _ _ _ (C.sf.trans s) B j)
 .rename_i l;rw[dA]at l;rw[l];exact KI (I E e D λr y O z s B j=>q _ _ _ _ (C.sf.trans s) B j)
def Iy(i:Nat) (a:MS) (m:Θ->MS):Θ->MS:=λpath S=>(rM S i).bind λl=>(a (S.set i none)).bind λo=>match o with
 | .nx n=>uR (n[i]?=some none) (m path (n.set i (some (.ow l))))
 |_=>none
def Lm{x i:Nat}{t u:TS}{a:MS}{m:Θ->MS}(ha:Yr K [x,i] t a) (Q:QZ K x i u m):QZ K x i (Ra t u) (Iy i a m):=by
 intro path H₀ z Hf S σ H Fs o R A e D h;obtain⟨l,U,e⟩:=oBq.mp e;obtain⟨X,Y,e⟩:=oBq.mp e;cases X with
 |nx B =>
  rcases pM (show uR (B[i]?=some none) (m path (B.set i (some (.ow l))))=some o from e) with ⟨hn,e⟩|e
  .obtain ⟨v,p,a0,n0,n,I,s2,C,E⟩:=A;have J:=ql U;rw[J]at n;cases n;obtain⟨v',F,L,M,r,nd,ow,_⟩:=R.move J;rw[C]at L;cases L;refine ha (R.frame M) Y _ λHf' y H' Fs' s R' O=>?_
   have j1:y[x]?=σ[x]?:=O x (by simp)
   have P:y[i]?=σ[i]?:=O i (by simp)
   obtain⟨k1,k2,R3⟩:=R.unframe M r nd (λq hq=>(ow q hq).1) R' hn (P.trans C) s
   have G:i<B.length:=(gSq.mp hn).1;exact Q R3 ⟨v,p,l,n0,aM G,I,j1.trans s2,P.trans C,E.kept r I k1⟩ e D (h.mono s)
  .cases e
 |_=>cases e
end
def ZG(S:AS) (i:Nat):QC i S=(rM S i).map λ_=>([],S):=rfl
def aaF(S:AS) (i:Nat) (pf:MP) (b:ME):ZK i pf b S=(pf S).bind λx=>(b x.2).bind λy=>(intOf y.1).bind λj=>(rM y.2 i).bind λl=>(qF (.ow l) x.1).bind λas=>(Jx as.length j).map λn=>(x.1++[n],y.2):=rfl
def Z8(S:AS) (x i:Nat) (pf:MP) (m:Θ->MS):VE x i pf m S=(pf S).bind λy=>(rM y.2 i).bind λl=>(qF (.ow l) y.1).bind λ_=>uR (x≠i/\x<y.2.length) (m y.1 (y.2.set x none)):=rfl
def ZC(S:AS) (i:Nat) (c:MT) (a b:Θ->MS) (path:Θ):Kn i c a b path S=(c S).bind λy=>(rM y.2 i).bind λl=>(qF (.ow l) path).bind λ_=>if y.1=true then a path y.2 else b path y.2:=rfl
def Xt(S:AS) (i:Nat) (k:MK) (path:Θ):Oe i k path S=(k S).bind λy=>(rM y.2 i).bind λl=>(qF (.ow l) path).bind λas=>uR (as.length<rH) (some (.nx (y.2.set i (some (putAt (.ow l) path (as++[y.1])))))):=rfl
def Ut(S:AS) (i:Nat) (n:ME) (path:Θ):HJ i n path S=(rM S i).bind λl=>(qF (.ow l) path).bind λas=>(n (S.set i none)).bind λy=>uR (y.2[i]?=some none/\as.length<rH) (some (.nx (y.2.set i (some (putAt (.ow l) path (as++[.sh y.1])))))):=rfl
def YY(i:Nat) (l:List AV) (m:Θ->MS) (path:Θ):Oq->Option Oq
 | .nx n=>uR (n[i]?=some none) (m path (n.set i (some (.ow l))))
 |_=>none
def YG(S:AS) (i:Nat) (a:MS) (m:Θ->MS) (path:Θ):Iy i a m path S=(rM S i).bind λl=>(a (S.set i none)).bind (YY i l m path):=by
 unfold Iy;congr 1
def VC(i:Nat) (l:List AV) (m:Θ->MS) (path:Θ) (n:AS):YY i l m path (.nx n)=uR (n[i]?=some none) (m path (n.set i (some (.ow l)))):=rfl
def Ln(l:List AV):qF (.ow l) []=some l:=rfl
def Kk(l:List AV) (j:Nat) (n:Θ):qF (.ow l) (j::n)=(l[j]?).bind λa=>qF a n:=rfl
def L9{l:List AV}{j:Nat}{n:Θ}{as:List AV}{a:AV}(h:l[j]?=some a):putAt (.ow l) (j::n) as = .ow (l.set j (putAt a n as)):=by
 show (match l[j]? with|some a=>_|none=>_)=_
 rw[h]
def zqd:=aa @ZG (aa @aaF (aa @Z8 (aa @ZC (aa @Xt (aa @Ut (aa @YG (aa @VC @Ln)))))))
section
variable {K:Ζ}
def Ik(m:ME):MS:=λS=>(m S).map λx=>.nx x.2
def Qp{te:TE}{m:ME}(h:SM K te m):SS K (BP te) (Ik m):=by
 intro H₀ l u S σ H y o R e D hd;obtain⟨x,n,e⟩:=oMq.mp e;cases e;exact h R (d:=x.1) (S':=x.2) n _ λr z Fs1 v s t B=>hd _ _ _ _ s t
def aca(i:Nat):MS:=λS=>(rM S i).map λl=>.nx (S.set i (some (.ow l.reverse)))
end
def UL(S:AS) (m:ME):Ik m S=(m S).map λx=>.nx x.2:=rfl
def zqe:=@UL
section
variable {K:Ζ}
def qB.fd_inv{H:Hp}{ds:List (pE×D)}{v:V}(h:qB K H (.fd ds) v):∃p o kvs,v = .ref p/\H p=some (.frz o (.dK kvs))/\uw K H ds kvs:=by
 cases h with
 |fd h l e=>exact⟨_,_,_,rfl,h,l,e⟩
def Vh:D->Option (List (pE×D))
 | .fd kvs=>some kvs
 |_=>none
def TZ{d:D}{kvs:List (pE×D)}(h:Vh d=some kvs):d = .fd kvs:=by
 cases d <;> first|(cases h;rfl)|cases h
def LZ(a b:ME):ME:=λS=>(a S).bind λx=>(b x.2).bind λy=>(Vh x.1).bind λkvs=>(wy y.1).bind λkey=>(getD kvs key).map λd=>(d,y.2)
def SI{n tb:TE}{a b:ME}(ha:SR K n a) (t:SR K tb b):SR K (Tj n tb) (LZ a b):=by
 intro H₀ l X S σ H Y d S' R e Q q;obtain⟨x,u,e⟩:=oBq.mp e;obtain⟨y,z,e⟩:=oBq.mp e;obtain⟨B,C,e⟩:=oBq.mp e;obtain⟨key,E,e⟩:=oBq.mp e;obtain⟨d',G,e⟩:=oMq.mp e;cases e;refine ha R (d:=x.1) (S':=x.2) u _ λI H1 Fs1 v1 J L r=>t L (d:=y.1) (S':=y.2) z _ λM H2 Fs2 v2 s R2 O=>?_
 rw[TZ C]at r;obtain⟨p,o,P,rfl,h1,h2⟩:=(r.mono s.sh).fd_inv;have g:=BR (key:=key) h2;rw[G]at g;obtain⟨v,U,g2⟩:=g;exact⟨p,v,rfl,by rw[yp E O,←U];exact .inl ⟨P,key,.inr ⟨o,h1⟩,rfl,rfl⟩,q _ _ _ _ (J.trans s) R2 g2⟩
def SZ{ob:Obj}{d:Addr}{kvs:List (pE×V)}{u:Nat}{tb:TS}{D:A5}{σ:St}{H:Hp}(l:Nat->St->Hp->Prop) (B:l 0 σ H) (hl:∀i σ H,l i σ H->H d=some (.frz ob (.dK kvs)))
  (C:∀i p σ H,kvs[i]?=some p->l i σ H->tb { D with nx:=l (i+1),ct:=l (i+1),bk:=D.nx } (σ.set u (some (kV p.1))) H) (hd:∀σ H,l kvs.length σ H->D.nx σ H) :
  ∃W:Nat->Nat->St->Hp->Prop,(∃m,W 0 m σ H)/\∀i m σ H,W i m σ H ->
   ((YR ob d kvs).stop i H/\D.nx σ H)∨((YR ob d kvs).go i H/\∃N:St->Hp->Prop,(∀r n,N r n->∃z,z<m/\W (i+1) z r n)/\∀x n,(YR ob d kvs).yld i H x n->sq u x σ n λt E=>tb { D with nx:=N,ct:=N,bk:=D.nx } t E):=by
 refine⟨λi m σ H=>m=kvs.length-i/\i<=kvs.length/\l i σ H,⟨kvs.length,by simp,aE _,B⟩,?_⟩
 rintro i m σ H ⟨rfl,J,p⟩;have q:=hl i σ H p
 by_cases s:i<kvs.length
 .refine .inr ⟨⟨q,kvs[i],by simp[s]⟩,l (i+1),λr n G=>⟨kvs.length-(i+1),by lia,rfl,s,G⟩,λv n y=>?_⟩
  obtain⟨rfl,x,I,rfl⟩:=y;exact C i x σ n I p
 .have e:i=kvs.length:=by lia
  subst e;exact .inl ⟨⟨q,ab _⟩,hd σ H p⟩
def Qh(x i:Nat) (body:MS):MS:=λS=>(xH S i).bind λkvs=>uR (x≠i) (ur x body (kvs.map λp=>kD p.1) (S.set i (some (.sh (.fd kvs)))))
def Vd{x i:Nat}{tb:TS}{body:MS}(hb:SS K tb body):SS K (Po (Wg (yV i)) (sq x) tb) (Qh x i body):=by
 intro H₀ t I S σ H Fs o R e D h;obtain⟨y,e1,e⟩:=oBq.mp e;rcases pM e with ⟨hne,e⟩|e
 .have J:=Bz e1;obtain⟨p,s,s1,s2,h1,h2,Y,h4,h5⟩:=R.owd J;refine⟨_,s1,p,s,rfl,h1,λob=>?_⟩
  obtain⟨v,F,t1,t2,r,nd,oo,R1⟩:=R.move J;rw[s2]at t2;cases t2;have R2:=qe.fix R1 (p:=p) (o:=.frz ob (.dK s)) h5 h2 h4;have s3:pO I (qP I p (.frz ob (.dK s))):=vf h2;have L:uw K (qP I p (.frz ob (.dK s))) y s:=⟨Y.1,λi d v a b=>(Y.2 i d v a b).mono s3⟩
  have R3:qe K H₀ t (qP I p (.frz ob (.dK s))) (S.set i (some (.sh (.fd y)))) σ (qP H p (.frz ob (.dK s))) (Fs.set i []) :=
   R2.again (F:=[]) s1 (.sh (.fd oX L.1 L.2)) aT λq hq=>by cases hq
  have E:y.length=s.length:=by have:=congrArg aZ Y.1;simpa using this
  refine SZ (λn z H'=>∃u M B,qe K H₀ t u M z H' B/\pO (qP I p (.frz ob (.dK s))) u/\ur x body ((y.map λp=>kD p.1).drop n) M=some o) ⟨_,_,_,R3,.refl _,e⟩
   (λn z H' ⟨u,M,B,O,G,_⟩=>O.sub _ _ (G _ _ oX)) ?_ ?_
  .rintro n w z H' hw ⟨u,M,B,O,G,P⟩;have hn:n<y.length:=by rw[E];exact(gSq.mp hw).1
   have hk:(y.map λp=>kD p.1)[n]?=some (kD w.1):=by
    have:=congrArg (λl=>l[n]?) Y.1
    simp only[gMq,hw,dg]at this;rw[gMq];cases hd:y[n]? with
    |none=>rw[hd]at this;cases this
    |some dd =>
     rw[hd]at this;rw[dg,show dd.1=w.1 from aN.inj this]
   have hlt:n<(y.map λp=>kD p.1).length:=by rw[lMq];exact hn
   rw[aA hlt,(gSq.mp hk).2]at P;obtain⟨o2,e3,e4⟩:=oBq.mp P;refine hb (O.setD x (UG w.1)) e3 _ ?_;cases o2 with
   |nx S2=>exact λC Q H2 Fs2 U X=>⟨C,S2,Fs2,X,G.trans U,e4⟩
   |ct S2=>exact λC Q H2 Fs2 U X=>⟨C,S2,Fs2,X,G.trans U,e4⟩
   |bk S2=>cases e4;exact λC Q H2 Fs2 U X=>h _ _ _ _ ((s3.trans G).trans U) X
   |rt a=>cases e4;exact h
  .rintro z H' ⟨u,M,B,O,G,P⟩;rw[←E,show y.length=(y.map λp=>kD p.1).length from (lMq _).symm,eI]at P
   cases P;exact h _ _ _ _ (s3.trans G) O
 .cases e
end
def Oh(kvs:List (pE×D)):Vh (.fd kvs)=some kvs:=rfl
def N9(S:AS) (a b:ME):LZ a b S=(a S).bind λx=>(b x.2).bind λy=>(Vh x.1).bind λkvs=>(wy y.1).bind λkey=>(getD kvs key).map λd=>(d,y.2):=rfl
def Yg(S:AS) (x i:Nat) (body:MS):Qh x i body S=(xH S i).bind λkvs=>uR (x≠i) (ur x body (kvs.map λp=>kD p.1) (S.set i (some (.sh (.fd kvs))))):=rfl
def zqf:=aa @Oh (aa @N9 @Yg)
end Z
namespace HT
open PySem PyProof.Rows
open PySem.SeqAt
open PySem.AutoSeq1 (wpAny_loadPart')
open PySem.MeetsSeq PySem.MeetsSeq2 PySem.MeetsSeq3
def qf:Λ->Λ->Bool
 |_,[]=>false
 | [],_::_=>true
 |x::xs,y::ys=>if x=y then qf xs ys else qD x y
theorem vT:∀xs:Λ,qf xs xs=false
 | []=>rfl
 |x::xs=>by rw[qf,qd rfl];exact vT xs
theorem vp:∀xs ys:Λ,qf xs ys=true->qf ys xs=false
 |xs,[],h=>by cases xs <;> cases h
 | [],y::ys,_=>rfl
 |x::xs,y::ys,h=>by
  rw[qf]at h ⊢
  by_cases e:x=y
  .rw [qd e]at h;rw[qd e.symm];exact vp xs ys h
  .rw [qh e]at h;rw[qh (λq=>e q.symm)]
   exact Mr.Ao _ _ h
theorem uh:∀xs ys:Λ,qf xs ys=false->qf ys xs=false->xs=ys
 | [],[],_,_=>rfl
 | [],y::ys,h,_=>by cases h
 |x::xs,[],_,h=>by cases h
 |x::xs,y::ys,h1,h2=>by
  rw[qf]at h1 h2
  by_cases e:x=y
  .rw [qd e]at h1;rw[qd e.symm]at h2;rw[e,uh xs ys h1 h2]
  .rw [qh e]at h1;rw[qh (λq=>e q.symm)]at h2
   exact absurd (Mr.Cp _ _ h1 h2) e
theorem tj:∀xs ys n:Λ,qf ys xs=false->qf n ys=false->qf n xs=false
 | [],ys,n,_,_=>by cases n <;> rfl
 |x::xs,[],n,h1,_=>by cases h1
 |x::xs,y::ys,[],_,h2=>by cases h2
 |x::xs,y::ys,z::n,h1,h2=>by
  rw[qf]at h1 h2 ⊢
  by_cases r:y=x
  .rw [qd r]at h1
   by_cases l:z=y
   .rw [qd l]at h2;rw[qd (l.trans r)];exact tj xs ys n h1 h2
   .rw [qh l]at h2;rw[qh (by rw[←r];exact l),←r]
    exact h2
  .rw [qh r]at h1
   by_cases l:z=y
   .rw [qh (by rw[l];exact r),l]
    exact h1
   .rw [qh l]at h2
    by_cases s:z=x
    .rw [s]at h2;exact absurd (Mr.Cp _ _ h1 h2) r
    .rw [qh s];exact Mr.yK _ _ _ h1 h2
end HT
namespace Mr
open PySem PySem.Spec PyProof.Rows L2
def Tz(x y:Λ):Bool:=!HT.qf y x
def zH(ms:List Λ):List Λ:=ms.mergeSort Tz
def CU(ms:List Λ):(zH ms).Perm ms:=fX _ _
def PN(x y z:Λ) (h1:Tz x y=true) (h2:Tz y z=true):Tz x z=true:=by
 unfold Tz at *;rw[fh]at *;exact HT.tj _ _ _ h1 h2
def PX(x y:Λ):(Tz x y || Tz y x)=true:=by
 unfold Tz;cases h:HT.qf y x with
 |false=>rfl
 |true=>rw[HT.vp _ _ h];rfl
def Ax(ms:List Λ):(zH ms).Pairwise (λx y=>HT.qf y x=false):=by
 have:=fe (le:=Tz) (λa b c=>PN a b c) (λa b=>PX a b) ms
 exact this.imp λh=>by unfold Tz at h;rwa [fh]at h
def D5{xs ms:List Λ}(l:xs.Perm ms) (h:xs.Pairwise (λx y=>HT.qf y x=false)):xs=zH ms :=
 cM.eq_of_pairwise (λa b _ _ n r=>HT.uh a b r n) h (Ax ms) (l.trans (CU ms).symm)
def ltM(r:Addr->Λ) (x y:jB):Bool:=match x.1,y.1 with
 | .ref p,.ref q=>HT.qf (r p) (r q)
 |_,_=>false
end Mr
namespace Z
open PySem L2 Mr Xe
def UW(f:D->D->Option D) (m b:ME):ME:=λS=>(m S).bind λx=>(b x.2).bind λy=>(f x.1 y.1).bind λd=>if d.scal then some (d,y.2) else none
def VB(i:Nat) (g:Int->Int->Int) (b:ME):MS:=λS=>(oq i S).bind λx=>(intOf x.1).bind λa=>(b x.2).bind λy=>(intOf y.1).map λc=>.nx (y.2.set i (some (.sh (.int (g a c)))))
def Lw(i:Nat) (pf:MP) (n:ME):MS:=λS=>(pf S).bind λx=>(rM x.2 i).bind λl=>(qF (.ow l) x.1).bind λas=>(n (x.2.set i none)).bind λy=>uR (y.2[i]?=some none/\as.length<rH) (some (.nx (y.2.set i (some (putAt (.ow l) x.1 (as++[.sh y.1]))))))
def abD(g:MF) (f:MFx) (a:MA):MX:=λS=>(a S).bind λx=>(f (x.1.map oN)).bind (ZA λr=>(g [oN r]).map λz=>.ok (.rt z))
section
variable {K:Ζ}
def J0{d:D}{z:Int}(h:intOf d=some z):d = .int z:=by
 cases d <;> first|(cases h;rfl)|cases h
def Zq{r:R2}{f:D->D->Option D}{n tb:TE}{m b:ME}(hr:GV K r f) (ha:SM K n m) (u:SR K tb b):SM K (Tw r n tb) (UW f m b):=by
 intro H₀ l U S σ H X d Y R e Q q;obtain⟨x,B,e⟩:=oBq.mp e;obtain⟨y,C,e⟩:=oBq.mp e;obtain⟨z,E,e⟩:=oBq.mp e;split at e
 .rename_i G;cases e;refine ha R (d:=x.1) (S':=x.2) B _ λI H1 Fs1 v1 J s L=>u s (d:=y.1) (S':=y.2) C _ λM H2 Fs2 v2 t R2 O=>?_
  exact hr ((L.mono s.sub).mono t.sh) O E λv P=>q _ _ _ v (J.trans t.sf) R2 (P.scal G)
 .cases e
def Yw{i:Nat}{g:Int->Int->Int}{te:TE}{b:ME}(u:SR K te b):SS K (Y3 i te (ipI g)) (VB i g b):=by
 intro H₀ l Q S σ H U o R e D hd;obtain⟨x,B,e⟩:=oBq.mp e;obtain⟨a,C,e⟩:=oBq.mp e;obtain⟨y,E,e⟩:=oBq.mp e;obtain⟨c,G,e⟩:=oMq.mp e;cases e;refine oj i R (d:=x.1) (S':=x.2) B (λv n=>te σ n λw r=>ipI g v w r λz I=>D.nx (σ.set i (some z)) I) λJ n Fs1 v L M s=>?_
 refine u M (d:=y.1) (S':=y.2) E _ λO r Fs2 w P R2 t=>?_
 rw[J0 C]at s;rw[J0 G]at t;cases s;cases t;exact⟨a,c,rfl,rfl,hd _ _ _ _ (L.sf.trans P.sf) (R2.setD i .int)⟩
def RN{i:Nat}{J te:TE}{pf:MP}{L:ME}(U:Zn K i J pf) (hk:SM K te L):SS K (BP (TF K "list" AJ J (sW te wk))) (Lw i pf L):=by
 intro H₀ B Hf S σ H Fs o R e D h;obtain⟨x,X,e⟩:=oBq.mp e;obtain⟨l,Y,e⟩:=oBq.mp e;obtain⟨as,C,e⟩:=oBq.mp e;obtain⟨y,e4,e⟩:=oBq.mp e;rcases pM e with ⟨⟨hn,hl⟩,e⟩|e
 .cases e;refine U R (path:=x.1) (S':=x.2) X _ λHf1 H1 Fs1 v w t1 t z n=>?_
  have s:=ql Y;obtain⟨p,vs,rfl,h1,h2⟩:=CD t s z C n;obtain⟨v',F,M,O,r,nd,oo,_⟩:=t.move s;rw[z]at M;cases M;refine⟨.inl ⟨rfl,vs,rN.of h1⟩,hk (t.frame O) (d:=y.1) (S':=y.2) e4 _ λHf2 H2 Fs2 u P R2 r2=>?_⟩
  obtain⟨k1,k2,R3⟩:=t.unframe O r nd (λq E=>(oo q E).1) R2 hn z P
  have G:i<y.2.length:=(gSq.mp hn).1;have e5:(y.2.set i (some (.ow l)))[i]?=some (some (.ow l)):=aM G;obtain⟨I,g1,g2,g3⟩:=R3.grow e5 z C (n.kept r C k1);obtain⟨Fs',Q⟩:=g3 [.sh y.1] [u] [[]] (qa.nil.snoc (.sh r2)) (by simp) (λq E=>by simp at E)
  rw[fP]at Q;exact⟨p,I,u,rfl,rfl,g1,by rw[wq,←g2];exact hl,h _ _ _ _ (t1.sf.trans P) Q⟩
 .cases e
end
def YK(S:AS) (f:D->D->Option D) (m b:ME):UW f m b S=(m S).bind λx=>(b x.2).bind λy=>(f x.1 y.1).bind λd=>if d.scal then some (d,y.2) else none:=rfl
def ZE(S:AS) (i:Nat) (g:Int->Int->Int) (b:ME):VB i g b S=(oq i S).bind λx=>(intOf x.1).bind λa=>(b x.2).bind λy=>(intOf y.1).map λc=>.nx (y.2.set i (some (.sh (.int (g a c))))):=rfl
def UM(S:AS) (i:Nat) (pf:MP) (n:ME):Lw i pf n S=(pf S).bind λx=>(rM x.2 i).bind λl=>(qF (.ow l) x.1).bind λas=>(n (x.2.set i none)).bind λy=>uR (y.2[i]?=some none/\as.length<rH) (some (.nx (y.2.set i (some (putAt (.ow l) x.1 (as++[.sh y.1])))))):=rfl
def zqg:=aa @YK (aa @ZE @UM)
def HL(l:ML):MK:=λS=>(l S).map λx=>(.sh (.tup x.1),x.2)
section
variable {K:Ζ}
def Ko{te:TE}{l:ML}(hl:SQ K te l):SK K (JL (λxs H Q=>∃p ys,xs=[.ref p]/\((rN K H p ys/\∀l,H l=none->Q (.ref l) (qP H l (.tup ys)))∨(BN K H p ys/\Q (.ref p) H))) (sW te wk)) (HL l):=by
 intro H₀ r I S σ H J L M R e Q q;obtain⟨x,t,e⟩:=oMq.mp e;cases e;refine hl R (ds:=x.1) (S':=x.2) t _ λu O Fs1 y n z B h1 C=>⟨y,n,rfl,.inl ⟨h1,λp E=>?_⟩⟩
 obtain⟨s,G⟩:=B.layF (o:=.tup n) E;exact q _ _ _ (.ref p) [] (z.trans s) G (.sh (.mk_tup oX (C.mono s.sf))) .nil
end
def Uu(S:AS) (l:ML):HL l S=(l S).map λx=>(.sh (.tup x.1),x.2):=rfl
def zqh:=@Uu
end Z
namespace HT
open PySem PyProof.Rows
open PySem.SeqAt
open PySem.AutoSeq1 (wpAny_loadPart')
open PySem.MeetsSeq PySem.MeetsSeq2 PySem.MeetsSeq3
def X3(A:Around) (s:Shared) (op:CmpOp) (y x:Value) (b:Bool):Prop:=∀(P:jC) (w:jF) (E Q:Ψ),Q (.bool b) s->jy (jA P w) A (lF op y x) Q E s
def KO(e c:Nat->Bool) (z:Bool):Θ->Bool
 | []=>z
 |j::l=>if e j then KO e c z l else c j
def JS{m i:Nat}(h:i<m):(bJ m).drop i=i::(bJ m).drop (i+1):=by
 rw[aA (by simpa using h)]
 simp
section
variable (l b:Addr) (xs ys:Ω) (n n2:Nat) (dd dd2:Option Addr) (sl sl2:Array Υ) (e c:Nat->Bool)
def Xp:Meets (Builtin.«tuple.__lt__» ⟨[.ref l,.ref b],[]⟩) (λA R s=>s.heap.get? l=some { cls:=.type "tuple", dict:=dd,data:=.seq xs n,slots:=sl }/\s.heap.get? b=some { cls:=.type "tuple", dict:=dd2,data:=.seq ys n2,slots:=sl2 }/\(∀j (h1:j<xs.size) (h2:j<ys.size),EqAt A.in1 s xs[j] ys[j] (e j))/\(∀j (h1:j<xs.size) (h2:j<ys.size),e j=false->X3 A.in1 s .Lt xs[j] ys[j] (c j))/\R (.ok (.ret (.bool (KO e c (decide (xs.size<ys.size)) (bJ (min xs.size ys.size)))))) s) :=
 .of_wp λprog w A R s h=>by
  obtain⟨H,g,d,I,os⟩:=s;obtain⟨hl,P,S,U,h⟩:=h;have f2:=AutoSeq1.sub_tuple_tuple;have O:(xs.toList.zip ys.toList).length=min xs.size ys.size:=by simp
  wp_walk using wpAny_loadPart' hl,wpAny_loadPart' P,wpAny_forIn_list _ (λsA b J=>b.1=none/\J=⟨H,g,d,I,os⟩/\∃i,sA=(xs.toList.zip ys.toList).drop i/\R (.ok (.ret (.bool (KO e c (decide (xs.size<ys.size)) ((bJ (min xs.size ys.size)).drop i))))) ⟨H,g,d,I,os⟩) _
  case turn =>
   rintro⟨y,x⟩ sA b J ⟨t,rfl,i,u,r⟩;have C:i<(xs.toList.zip ys.toList).length:=Nat.lt_of_not_le λz=>by rw[bM z]at u;cases u
   have X:i<min xs.size ys.size:=O ▸ C;have h1:i<xs.size:=by lia
   have h2:i<ys.size:=by lia
   rw[aA C]at u;injection u with G B
   have Y:y=xs[i]:=by simpa using congrArg Prod.fst G
   have hx:x=ys[i]:=by simpa using congrArg jq G
   subst Y hx;rw[JS X,KO]at r;refine jx (S i h1 h2 prog w _ _ ?_);cases q:e i with
   |true =>
    rw[q,qd rfl]at r
    wp_walk
    exact⟨rfl,rfl,i+1,B,r⟩
   |false =>
    rw[q,qh (by simp)]at r
    have L:∀(E Q:Ψ),Q (.bool (c i)) ⟨H,g,d,I,os⟩->jy (jA prog w) A.in1 (lF .Lt xs[i] ys[i]) Q E ⟨H,g,d,I,os⟩:=λE Q z=>U i h1 h2 q prog w E Q z
    wp_walk using L
    exact⟨_,rfl,r⟩
  case fin =>
   rintro⟨b1,b2⟩ J ⟨t,rfl,i,u,r⟩;simp only at t;subst t;have M:min xs.size ys.size<=i:=eF λz=>by rw[aA (O ▸ z)]at u;cases u
   rw[bM (by simpa using M)]at r
   wp_walk
   exact⟨_,rfl,by simpa [Builtin.Tuple.tupleCompareSizes,KO] using r⟩
  case h=>exact⟨rfl,rfl,0,rfl,by simpa using h⟩
end
def C2(r:Ϝ):PyData:=.tuple (r.map .int)
def Rm(r t:Ϝ):PyData.eqv (C2 r) (C2 t)=decide (r=t):=by
 rw[←same_eq_eqv _ _ (by simp[C2,SeqAt.noMix,W.noMix_ints r t])]
 simp[C2,PySem.Spec.same,W.same_ints r t]
def vX(h:Heap) (q:Addr) (r:Ϝ):Prop:=∃vs:Ξ,h.IsTuple q vs.toArray/\jR vs r
def uZ(h:Heap) (p:Addr) (c:Λ):Prop:=∃l:Δ,h.IsTuple p (l.map aj).toArray/\l.length=c.length/\∀(i:Nat) (q:Addr) (r:Ϝ),l[i]?=some q->c[i]?=some r->vX h q r
def vX.reads{h:Heap}{q:Addr}{r:Ϝ}(t:vX h q r):Reads h (.ref q) (C2 r) []:=by
 obtain⟨x,⟨o,l,s,n,hd⟩,u⟩:=t;exact Reads.tuple l s hd (by simpa using W.readsAll_of_ints u)
def vX.eq{A:Around}{s:Shared}{q l:Addr}{r r':Ϝ}(h:vX s.heap q r) (h':vX s.heap l r') (n:A.units+4<jT):EqAt A s (.ref q) (.ref l) (decide (r=r')):=by
 rw[←Rm];have d1:=W.depthAll_ints r;refine eqAt_reads (C2 r) (C2 r') A s (.ref q) (.ref l) [] [] h.reads h'.reads (by simp[C2,PyData.canLay0,W.canLayAll0_ints r]) (by simp[C2,PyData.canLay0,W.canLayAll0_ints r']) ?_
 have:(C2 r).depth<=2:=by simp only[C2,PyData.depth];lia
 lia
def vX.lt{A:Around}{s:Shared}{q l:Addr}{r r':Ϝ}(h:vX s.heap q r) (h':vX s.heap l r') (x:A.units+4<jT):X3 A s .Lt (.ref q) (.ref l) (qD r r'):=by
 obtain⟨n,h1,h2⟩:=h;obtain⟨t,u,g2⟩:=h';exact λP w E Q z=>Lo (items:=n.toArray) (items2:=t.toArray) h1 u h2 g2 (by lia) z
theorem JY(c d:Λ):∀(k i:Nat),min c.length d.length-i=k->i<=c.length->i<=d.length->KO (λj=>decide (c.getD j []=d.getD j [])) (λj=>qD (c.getD j []) (d.getD j [])) (decide (c.length<d.length)) ((bJ (min c.length d.length)).drop i)=qf (c.drop i) (d.drop i)
 |0,i,hk,h1,h2=>by
  rw[bM (by simp;lia),KO]
  by_cases q:i=c.length
  .rw [bM (l:=c) (by lia)]
   by_cases n:i<d.length
   .rw [aA n];exact decide_eq_true (by lia)
   .rw [bM (l:=d) (by lia)]
    exact decide_eq_false (by lia)
  .have n:i=d.length:=by lia
   rw[bM (l:=d) (by lia),aA (show i<c.length by lia)]
   exact decide_eq_false (by lia)
 |k+1,i,hk,h1,h2=>by
  have r:i<c.length:=by lia
  have s:i<d.length:=by lia
  rw[JS (by lia),KO,aA r,aA s,qf]
  have t:c.getD i []=c[i]:=by rw[gDq,gEg r];rfl
  have u:d.getD i []=d[i]:=by rw[gDq,gEg s];rfl
  rw[t,u,JY c d k (i+1) (by lia) (by lia) (by lia)]
  generalize c[i]=x;generalize d[i]=y
  by_cases q:x=y <;> simp[q]
def Ho{l:Δ}{j:Nat}(h:j<(l.map aj).toArray.size):∃q,l[j]?=some q/\(l.map aj).toArray[j] = .ref q:=by
 have n:j<l.length:=by simpa using h
 exact⟨l[j],gEg n,by simp⟩
def DY{h:Heap}{l:Δ}{c:Λ}(hl:l.length=c.length) (hr:∀(i:Nat) (q:Addr) (r:Ϝ),l[i]?=some q->c[i]?=some r->vX h q r) {j:Nat}{q:Addr}(n:l[j]?=some q):vX h q (c.getD j []):=by
 have s:j<c.length:=by rw[←hl];exact(gSq.mp n).1
 refine hr j q _ n ?_;rw[gDq,gEg s];rfl
theorem uZ.lt{A:Around}{s:Shared}{p u:Addr}{c d:Λ}(h:uZ s.heap p c) (h':uZ s.heap u d) (hu:A.units+8<jT):X3 A s .Lt (.ref p) (.ref u) (qf c d):=by
 obtain⟨qs,⟨⟨cls,dd,R,sl⟩,S,U,n,hd⟩,l1,X⟩:=h;obtain⟨y,⟨⟨Y,B,C,G⟩,l,r,n',t⟩,l2,r2⟩:=h';simp only at U hd r t;subst U hd r t;intro P w E Q z;have key:=JY c d _ 0 rfl (aE _) (aE _);rw[gb,gb,gb]at key;have hi:A.in1.units+4<jT:=by show A.units+1+4<jT;lia
 refine mS (op:=.Lt) ⟨_,S,rfl⟩ ⟨_,l,rfl⟩ F.slot_tuple_lt F.entry_tuple_lt (F.args_tuple_lt_2 _ _) (Xp p u (qs.map aj).toArray (y.map aj).toArray n n' dd B sl G (λj=>decide (c.getD j []=d.getD j [])) λj=>qD (c.getD j []) (d.getD j [])) ⟨S,l,λj H I=>?_,λj H I _=>?_,⟨(λx=>nomatch x),?_⟩⟩ (by lia)
 .obtain ⟨q,J,L⟩:=Ho H;obtain⟨q',M,O⟩:=Ho I;rw[L,O];exact(DY l1 X J).eq (DY l2 r2 M) hi
 .obtain ⟨q,J,L⟩:=Ho H;obtain⟨q',M,O⟩:=Ho I;rw[L,O];exact(DY l1 X J).lt (DY l2 r2 M) hi
 .simp only [au,lMq,l1,l2];rw[key];exact z
def vX.keep{h h':Heap}{q:Addr}{r:Ϝ}(k:∀b o,h.get? b=some o->h'.get? b=some o) (t:vX h q r):vX h' q r:=by
 obtain⟨l,⟨o,n,sA⟩,s⟩:=t;exact⟨l,⟨o,k _ _ n,sA⟩,s⟩
theorem uZ.keep{h h':Heap}{p:Addr}{c:Λ}(k:∀b o,h.get? b=some o->h'.get? b=some o) (t:uZ h p c):uZ h' p c:=by
 obtain⟨l,⟨o,n,sA⟩,l1,s⟩:=t;exact⟨l,⟨o,k _ _ n,sA⟩,l1,λi q r u x=>(s i q r u x).keep k⟩
section
variable {P0:jC}{w0:jF}{A:Around}{R:mI->Shared->Prop}{I:Addr}{fp wr:Δ}{n:Nat}{P:Nat->Value->Prop}{St:Nat->Heap->Prop}
def Xc(P0:jC) (w0:jF) (A:Around) (P:Nat->Value->Prop) (t:Nat->Nat->Bool) (G:Heap->Prop):Prop:=∀(i j:Nat) (l r:Value) (s:Shared) (Q E:Ψ),G s.heap->P i l->P j r->Q (.bool (t i j)) s->jy (jA P0 w0) A (lF .Lt l r) Q E s
def PV(W:Walks P0 w0 A.in1 I fp wr n P St) (C:Nat->Nat->Bool) {G:Heap->Prop}(S:Addr) (Q:∀h h':Heap,G h->(∀b o,b∉wr->b≠S->h.get? b=some o->h'.get? b=some o)->G h') (hc:Xc P0 w0 A.in1 P C G) (hS:S∉fp) :
  ∀(k j:Nat) (s:Shared) (v0:Value) (c:Nat),n-(j+1)=k->j+1<=n->G s.heap->St (j+1) s.heap->P (kL C j) v0->s.heap.get? S=some { cls:=.type "list", dict:=none,data:=.seq #[v0,v0] c,slots:=#[] } ->
  (∀v h' tk,P (kL C (n-1)) v->(∀b o,b∉wr->b≠S->s.heap.get? b=some o->h'.get? b=some o)->R (.ok (.ret v)) { s with heap:=h',toks:=tk })->kF (jA P0 w0) A (.builtin "min.loop" ⟨[.ref I,.none,.ref S],[]⟩) R s:=by
 have hw:S∉wr:=λz=>hS (W.sub _ z);have nm:(toString "min" ++ toString ".loop" : String) = "min.loop" := by decide
 intro k;induction k with
 |zero =>
  intro j s v0 c hk hj U st r E H;have X:j+1=n:=by lia
  refine jL F.entry_min_loop ?_;rw[Around.under_plainId F.plain_min_loop _];show jy _ A.in1 (mq (.ref S) >>= _) _ _ s;refine jx (jX E rfl ?_);show jy _ A.in1 (tryCatch (ke (.ref I)) _ >>= _) _ _ s;refine jx (jU (W.done s _ _ (X ▸ st) λh1 Y x=>?_));have l:=x S _ hw E
  show jy _ A.in1 (mL S (λ_=>#[]) >>= _) _ _ _;refine jx ?_
  refine kB l rfl (jx (ku (jz (H v0 _ Y (by rw[←X];exact r) λb o t u z=>?_))))
  exact(bF _ _ (Ne.symm u)).trans (x b o t z)
 |succ k ih =>
  intro j s v0 c hk hj U st r E H;have lt:j+1<n:=by lia
  refine jL F.entry_min_loop ?_;rw[Around.under_plainId F.plain_min_loop _];show jy _ A.in1 (mq (.ref S) >>= _) _ _ s;refine jx (jX E rfl ?_);show jy _ A.in1 (tryCatch (ke (.ref I)) _ >>= _) _ _ s;refine jx (jU (W.item (j+1) s _ _ lt st λv h1 Y hP Ug x=>?_));have l:=x S _ hw E
  have J:G h1:=Q _ _ U λb o t _ z=>x b o t z
  show jy _ A.in1 (tryCatch (nU [v,v] (lF .Lt v v0 >>= _)) _ >>= _) _ _ _;refine jx (jU (jK (jx (hc (j+1) (kL C j) v v0 _ _ _ J hP r ?_))));refine jx (jK (jY ?_));refine jx (ku (jz ?_));cases q:C (j+1) (kL C j) with
  |true =>
   simp only[if_true];refine jx ?_;refine kB l rfl (jx (ku ?_));rw[nm];refine jz ⟨jP F.plain_min_loop _,ih (j+1) _ v _ (by lia) lt (Q _ _ J λb o _ u z=>(bF _ _ (Ne.symm u)).trans z) (W.frame _ _ _ Ug λb hb o z=>(bF _ _ (λy:S=b=>hS (by rw[y];exact hb))).trans z) (by simp only[kL,q,if_true];exact hP) (fA _ l rfl) λL h2 M B O=>H L h2 M B λb o t u z=>O b o t u ((bF _ _ (Ne.symm u)).trans (x b o t z))⟩
  |false =>
   simp only[bU,if_false];refine jx (ku ?_);rw[nm];exact jz ⟨jP F.plain_min_loop _,ih (j+1) _ v0 c (by lia) lt J Ug (by simp only[kL,q,bU,if_false];exact r) l λL h2 M B O=>H L h2 M B λb o t u z=>O b o t u (x b o t z)⟩
def Lp(W:Walks P0 w0 A.in1 I fp wr n P St) (u:Nat->Nat->Bool) {G:Heap->Prop}(S:Addr) (x:∀h h':Heap,G h->(∀b o,b∉wr->b≠S->h.get? b=some o->h'.get? b=some o)->G h') (H:Xc P0 w0 A.in1 P u G) (hS:S∉fp) (hn:0<n) {s:Shared}{c:Nat}(J:G s.heap) (st:St 0 s.heap)
  (E:s.heap.get? S=some { cls:=.type "list", dict:=none,data:=.seq #[] c,slots:=#[] }) (L:∀v h' tk,P (kL u (n-1)) v->(∀b o,b∉wr->b≠S->s.heap.get? b=some o->h'.get? b=some o)->R (.ok (.ret v)) { s with heap:=h',toks:=tk }) :
  kF (jA P0 w0) A (.builtin "min.loop" ⟨[.ref I,.none,.ref S],[]⟩) R s:=by
 have hw:S∉wr:=λz=>hS (W.sub _ z);have nm:(toString "min" ++ toString ".loop" : String) = "min.loop" := by decide
 refine jL F.entry_min_loop ?_;rw[Around.under_plainId F.plain_min_loop _];show jy _ A.in1 (mq (.ref S) >>= _) _ _ s;refine jx (jX E rfl ?_);show jy _ A.in1 (tryCatch (ke (.ref I)) _ >>= _) _ _ s;refine jx (jU (W.item 0 s _ _ hn st λv h1 Y hP Ug B=>?_));have l:=B S _ hw E
 have M:G h1:=x _ _ J λb o r _ z=>B b o r z
 show jy _ A.in1 (mL S (λ_=>#[v,v]) >>= _) _ _ _;refine jx ?_;refine kB l rfl ?_;rw[nm]
 exact jz ⟨jP F.plain_min_loop _,PV W u S x H hS _ 0 _ v _ rfl hn (x _ _ M λb o _ t z=>(bF _ _ (Ne.symm t)).trans z) (W.frame _ _ _ Ug λb O o z=>(bF _ _ (λy:S=b=>hS (by rw[y];exact O))).trans z) hP (fA _ l rfl) λQ h2 U C X=>L Q h2 U C λb o r t z=>X b o r t ((bF _ _ (Ne.symm t)).trans (B b o r z))⟩
end
section
variable {P0:jC}{w0:jF}{A:Around}{E:Ψ}{s:Shared}
def OM{x:Value}{Q:Ψ}(h:jy (jA P0 w0) A.in1 (pyIter x) (λu l=>∃(I:Addr) (fp r:Δ) (n:Nat) (P:Nat->Value->Prop) (St:Nat->Heap->Prop) (t:Nat->Nat->Bool) (G:Heap->Prop),u = .ref I/\Walks P0 w0 A.in1 I fp r n P St/\St 0 l.heap/\(∀b∈fp,b<l.heap.objs.size)/\0<n/\G l.heap/\(∀h h':Heap,G h->(∀b o,b∉r->b≠l.heap.objs.size->h.get? b=some o->h'.get? b=some o)->G h')/\Xc P0 w0 A.in1 P t G /\
   ∀v h' tk,P (kL t (n-1)) v->(∀b o,b∉r->l.heap.get? b=some o->h'.get? b=some o)->Q v { l with heap:=h',toks:=tk }) E s):jy (jA P0 w0) A (call (.builtin "min") [x]) Q E s:=by
 have nm:(toString "min" ++ toString ".loop" : String) = "min.loop" := by decide
 refine call_function_tree F.kind_min F.plain_min F.entry_min (F.args_min1 _) ?_;show jy _ A.in1 (Builtin.Builtins.bindParams "min" ["key","default"] 0 ⟨[],[]⟩ >>= _) _ _ s;refine jx (wpAny_of_eq (show Builtin.Builtins.bindParams "min" ["key","default"] 0 ⟨[],[]⟩=pure [none,none] from rfl) ?_);refine jx (jz ?_)
 refine jx (jO h (λu l z=>?_) λ_ _ e=>e);obtain⟨I,fp,r,n,P,St,t,G,rfl,W,st,hf,hn,g,y,B,C⟩:=z
 refine jx (wpAny_newObj_type ?_);have hS:l.heap.objs.size∉fp:=λm=>cL _ (hf _ m);rw[nm]
 refine jz ⟨jP F.plain_min_loop _,Lp W t l.heap.objs.size y B hS hn (y _ _ g λb o _ _ z=>ae _ z) (W.frame _ _ _ st λb _ o z=>ae _ z) (aC _ rfl) λv h1 tk hP H=>?_⟩
 exact C v h1 tk hP λb o J z=>H b o J (ao (ag z)) (ae _ z)
end
end HT
namespace Mr
open PySem L2
open PySem.Spec PyProof.Rows
def Ac(K:Ζ) (H:Hp) (p:Addr) (c:Λ):Prop:=∃l:Δ,BN K H p (l.map V.ref)/\l.length=c.length/\∀(i:Nat) (q:Addr) (r:Ϝ),l[i]?=some q->c[i]?=some r->BN K H q (r.map V.int)
section
variable {X:Cx}
def D1{u:Φ}{σ:St}{H:Hp}{s:Shared}{p:Addr}{c:Λ}(I:Inv X u σ H s) (h:Ac X.K H p c):HT.uZ s.heap p c:=by
 obtain⟨x,h1,h2,y⟩:=h;obtain⟨l,n,t,_⟩:=I.tuple h1;have z:=uj n;subst z;refine⟨x,t,h2,λi q r B C=>?_⟩
 obtain⟨l,n,t,_⟩:=I.tuple (y i q r B C);exact⟨l,t,xi n⟩
def Zg(cs:List Λ) (i:Nat):Prop:=∀(j:Nat) (c d:Λ),cs[j]?=some c->cs[i]?=some d->HT.qf c d=false
theorem J9{cs:List Λ}:∀k,k<cs.length->kL (λi j=>HT.qf (cs.getD i []) (cs.getD j [])) k<=k/\∀j,j<=k->HT.qf (cs.getD j []) (cs.getD (kL (λi j=>HT.qf (cs.getD i []) (cs.getD j [])) k) [])=false
 |0,_=>⟨ab _,λj n=>by
  have:j=0:=by lia
  subst this;exact HT.vT _⟩
 |k+1,hk=>by
  obtain⟨h1,h2⟩:=J9 (cs:=cs) k (by lia)
  simp only[kL]
  by_cases c:HT.qf (cs.getD (k+1) []) (cs.getD (kL (λi j=>HT.qf (cs.getD i []) (cs.getD j [])) k) [])=true
  .rw [qd c];refine⟨ab _,λj n=>?_⟩
   by_cases l:j<=k
   .exact HT.tj _ _ _ (HT.vp _ _ c) (h2 j l)
   .have:j=k+1:=by lia
    subst this;exact HT.vT _
  .rw [qh c];refine⟨by lia,λj n=>?_⟩
   by_cases l:j<=k
   .exact h2 j l
   .have:j=k+1:=by lia
    subst this;exact iB.mpr c
def O7(P:X.calm=true) (hu:X.A.units+64<jT):yw X (.builtin "min") (λxs H Q=>∃(a:Addr) (ps:Δ) (cs:List Λ),xs=[.ref a]/\rN X.K H a (ps.map V.ref)/\0<ps.length/\ps.length=cs.length/\(∀(i:Nat) (p:Addr) (c:Λ),ps[i]?=some p->cs[i]?=some c->Ac X.K H p c)/\∀i p,ps[i]?=some p->Zg cs i->Q (.ref p) H):=by
 intro og s σ H xs us Q I r h;obtain⟨a,ps,cs,rfl,hS,t,hl,R,q⟩:=h;obtain⟨u,rfl,S⟩:=xo r;cases S;obtain⟨U,Y,pl,hz⟩:=I.list hS;have ei:=uj Y;subst ei;have C:=pl.isList;have x:a<s.heap.objs.size:=by obtain⟨o,e,_⟩:=C;exact ag e
 have l:∀i p,ps[i]?=some p->HT.uZ s.heap p (cs.getD i []):=λi p J=>by
  have G:i<cs.length:=by rw[←hl];exact(gSq.mp J).1
  exact D1 I (R i p _ J (by rw[gDq,gEg G];rfl))
 refine HT.OM (lx C ?_);have n:∀b o,s.heap.get? b=some o->b≠s.heap.objs.size/\b≠s.heap.objs.size+1:=λb o e=>⟨ao (ag e),ao (bQ (ag e))⟩
 refine⟨_,_,_,_,_,_,λi j=>HT.qf (cs.getD i []) (cs.getD j []),λh=>∀b o,s.heap.get? b=some o->h.get? b=some o,rfl,Walks.list (A:=X.A.in1) (I.ok.hd P) _ a (ao x) (ps.map aj).toArray,⟨⟨_,aC _ rfl,rfl,rfl⟩,C.push _⟩,λb y=>?_,by simpa using t,λb o e=>ae _ e,λh h' g k b o e=>k b o ?_ ?_ (g b o e),λi j vi vj s' Q E g G L z=>?_,λv h' tk hP hk=>?_⟩
 .show b<(s.heap.push _).objs.size;rw[fZ];rcases ah.mp y with rfl|y
  .exact eG _
  .rw [mSq.mp y];exact bQ x
 .intro m;exact(n b o e).1 (mSq.mp m)
 .show b≠(s.heap.push _).objs.size;rw[fZ];exact(n b o e).2
 .have M:∀{i:Nat}{v:Value},(ps.map aj).toArray[i]?=some v->∃p,ps[i]?=some p/\v = .ref p:=λ{i v} h=>by
   rw[fB,gMq]at h;obtain⟨p,h1,rfl⟩:=oMq.mp h;exact⟨p,h1,rfl⟩
  obtain⟨p,h1,rfl⟩:=M G;obtain⟨p',h2,rfl⟩:=M L;exact((l i p h1).keep g).lt ((l j p' h2).keep g) (by show X.A.units+1+8<jT;lia) X.prog X.w E Q z
 .have hn:(ps.map aj).toArray.size=ps.length:=by simp
  rw[hn]at hP;have y:=J9 (cs:=cs) (ps.length-1) (by lia)
  have B:(ps.map aj).toArray[kL (λi j=>HT.qf (cs.getD i []) (cs.getD j [])) (ps.length-1)]?=some v:=hP
  rw[fB,gMq]at B;obtain⟨p,h1,rfl⟩:=oMq.mp B;refine⟨.ref p,H,I.kept λb o e=>hk b o (λm=>(n b o e).1 (mSq.mp m)) (ae _ e),rfl,q _ p h1 λj c d O e2=>?_⟩
  have L:j<cs.length:=(gSq.mp O).1;have:=y.2 j (by lia)
  rw[gDq,O,gDq,e2]at this;exact this
end
end Mr
namespace Z
open PySem L2 Mr Xe
abbrev dC(c:Λ):D:=.tup (c.map λr=>.tup (r.map .int))
def xK:List D->Option Λ
 | []=>some []
 | .tup es::ds=>(qT es).bind λr=>(xK ds).map (r :: ·)
 |_=>none
def G6:D->Option Λ
 | .tup ds=>xK ds
 |_=>none
def BJ:List D->Option (List Λ)
 | []=>some []
 |d::ds=>(G6 d).bind λc=>(BJ ds).map (c :: ·)
theorem yU:∀{ds:List D}{c:Λ},xK ds=some c->ds=c.map λr=>.tup (r.map .int)
 | [],c,h=>by cases h;rfl
 |d::ds,c,h=>by
  cases d with
  |tup l =>
   obtain⟨r,h1,h⟩:=oBq.mp h;obtain⟨n,h2,rfl⟩:=oMq.mp h;rw[yU h2,uo h1];rfl
  |_=>cases h
def Fx{d:D}{c:Λ}(h:G6 d=some c):d=dC c:=by
 cases d with
 |tup l=>rw[yU (ds:=l) h]
 |_=>cases h
theorem Ds:∀{ds:List D}{cs:List Λ},BJ ds=some cs->ds=cs.map dC
 | [],cs,h=>by cases h;rfl
 |d::ds,cs,h=>by
  obtain⟨c,h1,h⟩:=oBq.mp h;obtain⟨l,h2,rfl⟩:=oMq.mp h;rw[Ds h2,Fx h1];rfl
theorem vR:∀c:Λ,xK (c.map λr=>.tup (r.map .int))=some c
 | []=>rfl
 |r::c=>by
  show (qT (r.map .int)).bind _=_;rw[rd,cA,vR c];rfl
def IM(c:Λ):G6 (dC c)=some c:=vR c
theorem BB:∀cs:List Λ,BJ (cs.map dC)=some cs
 | []=>rfl
 |c::cs=>by
  show (G6 (dC c)).bind _=_;rw[IM,cA,BB cs];rfl
def C3:List Λ->Option Λ
 | []=>none
 |c::cs=>some (cs.foldl (λm c=>if HT.qf c m then c else m) c)
theorem FU:∀(cs:List Λ) (m:Λ),(cs.foldl (λm c=>if HT.qf c m then c else m) m=m∨cs.foldl (λm c=>if HT.qf c m then c else m) m∈cs)/\HT.qf m (cs.foldl (λm c=>if HT.qf c m then c else m) m)=false/\∀c∈cs,HT.qf c (cs.foldl (λm c=>if HT.qf c m then c else m) m)=false
 | [],m=>⟨.inl rfl,HT.vT _,λc h=>by cases h⟩
 |c::cs,m=>by
  rw[bA]
  by_cases q:HT.qf c m=true
  .rw [qd q];obtain⟨h1,h2,l⟩:=FU cs c;refine⟨.inr ?_,HT.tj _ _ _ h2 (HT.vp _ _ q),λd hd=>?_⟩
   .rcases h1 with h1|h1
    .rw [h1];simp
    .exact mCo _ h1
   .rcases ah.mp hd with rfl|hd
    .exact h2
    .exact l d hd
  .rw [qh q];obtain⟨h1,h2,l⟩:=FU cs m;refine⟨?_,h2,λd hd=>?_⟩
   .rcases h1 with h1|h1
    .exact .inl h1
    .exact .inr (mCo _ h1)
   .rcases ah.mp hd with rfl|hd
    .exact HT.tj _ _ _ h2 (iB.mpr q)
    .exact l d hd
def Fp{cs:List Λ}{m:Λ}(h:C3 cs=some m):m∈cs/\∀c∈cs,HT.qf c m=false:=by
 cases cs with
 |nil=>cases h
 |cons c cs =>
  cases h;obtain⟨h1,h2,l⟩:=FU cs c;refine⟨?_,λd hd=>?_⟩
  .rcases h1 with h1|h1
   .rw [h1];simp
   .exact mCo _ h1
  .rcases ah.mp hd with rfl|hd
   .exact h2
   .exact l d hd
def Qm(l:ML):MK:=λS=>(l S).bind λx=>(BJ x.1).bind λcs=>(C3 cs).map λm=>(.sh (dC m),x.2)
section
variable {K:Ζ}{te:TE}
def Fo{H:Hp}{c:Λ}{v:V}(r:qB K H (dC c) v):∃p,v = .ref p/\Ac K H p c:=by
 obtain⟨p,n,rfl,h1,h2⟩:=r.tup_inv;have key:∀{c:Λ}{n:List V},pU K H (c.map λr=>.tup (r.map .int)) n->∃l:Δ,n=l.map V.ref/\l.length=c.length/\∀(i:Nat) (q:Addr) (r:Ϝ),l[i]?=some q->c[i]?=some r->H q=some (.tup (r.map V.int)):=λ{c}=>by
  induction c with
  |nil =>
   intro n h;exact⟨[],h.nil_inv,rfl,λi q r e=>by cases e⟩
  |cons r c u =>
   intro n h;obtain⟨v,C,rfl,x,g2⟩:=h.cons_inv;obtain⟨q,E,rfl,t,y⟩:=x.tup_inv;rw[qo y]at t;obtain⟨l,rfl,l1,s⟩:=u g2;refine⟨q::l,rfl,by simp[l1],λi z B a b=>?_⟩
   cases i with
   |zero=>cases a;cases b;exact t
   |succ i=>exact s i z B (by simpa using a) (by simpa using b)
 obtain⟨l,rfl,l1,s⟩:=key h2;exact⟨p,rfl,l,BN.of h1,l1,λi q r a b=>BN.of (s i q r a b)⟩
theorem FK{H:Hp}:∀{cs:List Λ}{vs:List V},pU K H (cs.map dC) vs->∃ps:Δ,vs=ps.map V.ref/\ps.length=cs.length/\∀(i:Nat) (p:Addr) (c:Λ),ps[i]?=some p->cs[i]?=some c->qB K H (dC c) (.ref p)
 | [],vs,h=>⟨[],h.nil_inv,rfl,λi q r e=>by cases e⟩
 |c::cs,vs,h=>by
  obtain⟨v,u,rfl,l,g2⟩:=h.cons_inv;obtain⟨p,rfl,_⟩:=Fo l;obtain⟨ps,rfl,l1,n⟩:=FK g2;refine⟨p::ps,rfl,by simp[l1],λi s t a b=>?_⟩
  cases i with
  |zero=>cases a;cases b;exact l
  |succ i=>exact n i s t (by simpa using a) (by simpa using b)
def Um{l:ML}(hl:SQ K te l):SK K (JL (λxs H Q=>∃(a:Addr) (ps:Δ) (cs:List Λ),xs=[.ref a]/\rN K H a (ps.map V.ref)/\0<ps.length/\ps.length=cs.length/\(∀(i:Nat) (p:Addr) (c:Λ),ps[i]?=some p->cs[i]?=some c->Ac K H p c)/\∀i p,ps[i]?=some p->Zg cs i->Q (.ref p) H) (sW te wk)) (Qm l):=by
 intro H₀ s Hf S σ H Fs av S' R e Q q;obtain⟨x,I,e⟩:=oBq.mp e;obtain⟨cs,J,e⟩:=oBq.mp e;obtain⟨m,L,e⟩:=oMq.mp e;cases e;refine hl R (ds:=x.1) (S':=x.2) I _ λM H1 Fs1 O P U u h1 y=>?_
 rw[Ds J]at y;obtain⟨ps,rfl,l1,z⟩:=FK y;obtain⟨n,r⟩:=Fp L;have pos:0<ps.length:=by rw[l1];exact dX n
 refine⟨O,ps,cs,rfl,h1,pos,l1,λi p c a b=>?_,λi p B t=>?_⟩
 .obtain ⟨p',e,h⟩:=Fo ((z i p c a b).mono u.sub);cases e;exact h
 .have C:i<cs.length:=by rw[←l1];exact(gSq.mp B).1
  have E:cs[i]?=some cs[i]:=gEg C;obtain⟨j,X,Y⟩:=bV.mp n;have em:cs[i]=m:=HT.uh _ _ (r _ (gRq C)) (t j m _ (by rw[gEg X,Y]) E)
  have G:=z i p _ B E;rw[em]at G;exact q _ _ _ (.ref p) [] U u (.sh G) .nil
end
def WL(S:AS) (l:ML):Qm l S=(l S).bind λx=>(BJ x.1).bind λcs=>(C3 cs).map λm=>(.sh (dC m),x.2):=rfl
def zqj:=@WL
def VY:=aa zq (aa zq6 (aa zq9 (aa zqd (aa zqe (aa zqf (aa zqg (aa zqh (zqj))))))))
end Z
local macro_rules | `(tactic| simp_arith [$ls,*]) => `(tactic| simp -implicitDefEqProofs only [Z.VY,dt,dE,cQ,cT,bW,↓reduceIte,reduceCtorEq,$ls,*])
namespace Z
open PySem L2 Mr Xe
def EF(S:AS):AS:=S.map λx=>x.map λa=>.sh (oN a)
section
variable {K:Ζ}{H₀ Hf₀ Hf H:Hp}{S:AS}{σ:St}{Fs:List Δ}
def qe.pin(R:qe K H₀ Hf₀ Hf S σ H Fs):qe K H H H (EF S) σ H (aw S.length []):=by
 have lt:∀{i:Nat}{x:Option AV},(EF S)[i]?=some x->(aw S.length ([]:Δ))[i]?=some []:=λ{i x} e=>by
  have:=(gSq.mp e).1;unfold EF at this;rw[lMq]at this;rw[cF,qd this]
 refine⟨by unfold EF;rw[lMq];exact R.len,by unfold EF;rw[bx,lMq],λi y e=>?_,λi e=>lt e,by rw[uQ];exact aT,λp l=>(by rw[uQ]at l;cases l),.refl _,.refl _,λb h g=>absurd h g,.refl _⟩
 have n:=lt e;unfold EF at e;rw[gMq]at e;obtain⟨x,s,e⟩:=oMq.mp e;obtain⟨a,ha,t⟩:=oMq.mp e;subst ha;subst t;obtain⟨v,F,u,z,r⟩:=R.rep i a s;exact⟨v,[],u,n,.sh (r.rep R.sub)⟩
end
def Sq:EF []=[]:=rfl
def O3(x:Option AV) (S:AS):EF (x::S)=(x.map λa=>.sh (oN a))::EF S:=rfl
end Z
namespace Ms
open PySem PyProof.Rows Mr
def aa1(F:Ϝ) (k:Int):Ϝ:=if k∈F then F else F++[k]
def dd(ns:Ϝ):Ϝ:=ns.foldl aa1 []
def SA(h:Heap) (a:Addr) (es:Array (Int×Value)) (ep:Nat) (t:SetTable):Prop:=∃o,h.get? a=some o/\o.ExactSet/\o.data = .set es ep t
end Ms
namespace Mo
open PySem PyProof.Rows Mr
def Ox:entryFor table "zip.__getattribute__" = some Builtin.«object.__getattribute__»:=entryFor_alias (id' := "object.__getattribute__") (by kernel_rfl) (by decide +kernel) (by decide +kernel) (by kernel_rfl)
def Ta:kO (.type "zip") "__getattr__" = pure none:=by rw[kT,kz];kernel_rfl
def LV:kO (.type "zip") "keys" = pure none:=by rw[kT,kz];kernel_rfl
section
variable {prog:jC}{w:jF}{A:Around}{E:Ψ}{s:Shared}
def Jk(z:Addr) (fs:Ω) (u:Tok):Meets (Builtin.«object.__getattribute__» ⟨[.ref z,.str "keys" u],[]⟩) (λA R s=>s.heap.get? z=some { cls:=.type "zip", dict:=none,data:=.fields fs,slots:=#[] }/\raisesAttr (.ref z) "keys" A R s) :=
 Meets.of_wp λprog w A R s l=>by
  obtain⟨r,g,d,t,os⟩:=s;obtain⟨x,l⟩:=l;have y:(⟨r,g,d,t,os⟩:Shared).TypeIs (.ref z) "zip" := ⟨_,x,rfl⟩;have B:=LV;have n:(["__module__","__name__","__qualname__","__doc__","__annotations__"]:List Str).contains "keys" = false:=by decide +kernel
  unfold Builtin.«object.__getattribute__»
  repeat (any_goals (first|assumption|wp_step))
  exact wpAny_raiseAttrError l.1 l.2 (attrMsg_fits (by decide +kernel) (by size_fits))
end
section
variable {prog:jC}{w:jF}{A:Around}{E:Ψ}{s:Shared}
def Vu{z:Addr}{fs:Ω}{u:Tok}{Q:Ψ}(r:s.heap.get? z=some { cls:=.type "zip", dict:=none,data:=.fields fs,slots:=#[] }) (x:A.handled=none)
  (h:∀h' tk e,jk s.heap h' e "AttributeError" -> E (.ref e) { s with heap:=h',toks:=tk }):jy (jA prog w) A (nT (.ref z) (.str "keys" u) false) Q E s:=by
 obtain⟨y,g,d,tk,os⟩:=s;have t:∀l,(⟨y,g,d,l,os⟩:Shared).TypeIs (.ref z) "zip" := λ_=>⟨_,r,rfl⟩
 have f1:=kW;have B:=F.slot_zip_getattribute.lookup;have C:=F.slot_zip_getattribute.bind (.ref z);have G:=Ta;unfold nT
 repeat (any_goals (first|assumption|exact t _|((with_reducible show jy _ _ (call (jm "zip.__getattribute__") _ _) _ _ _);refine kP F.slot_zip_getattribute (t _) Ox (F.args_zip_getattribute_2 _ _) (Jk z fs _) ⟨r,x,λh' l e n=>?_⟩)|wp_step))
 obtain⟨H,I,J⟩:=n.there;show jy _ _ (kX _ _ _ _ _ _ _) _ _ _;unfold kX
 repeat (any_goals (first|assumption|wp_step))
 exact h _ _ _ n.of
def Vg{z:Addr}{fs:Ω}{Q:Υ->Shared->Prop}(t:s.heap.get? z=some { cls:=.type "zip", dict:=none,data:=.fields fs,slots:=#[] }) (u:A.handled=none)
  (h:∀h' tk,(∀b o,s.heap.get? b=some o->h'.get? b=some o)->Q none { s with heap:=h',toks:=tk }):jy (jA prog w) A (getAttr? (.ref z) "keys") Q E s:=by
 unfold getAttr? getAttrBy?;obtain⟨x,g,d,tk,os⟩:=s;have f1:=kW
 repeat (any_goals (first|assumption|(with_reducible refine Vu (fs:=fs) ?_ ?_ ?_)|wp_step))
 intro h' l e q;obtain⟨o,k,n,r,_⟩:=q.there;refine jx (mF (T := "AttributeError") (b:=true) ⟨_,n,r⟩ f1 ?_);exact jz (h h' l q.keeps)
end
abbrev Wv(h:Heap) (z TI TO T:Addr) (b:Bool):Prop:=h.get? z=some { cls:=.type "zip", dict:=none,data:=.fields #[mH T,.bool b,.bool false,.ref TI,.ref TO],slots:=#[] }
section
variable {prog:jC}{w:jF}{A:Around}{E:Ψ}{s:Shared}
def J7{a:Addr}{o:Obj}{Q:Option Obj->Shared->Prop}(l:s.heap.get? a=some o) (h:Q (some o) s):jy (jA prog w) A (loadIfAlive a) Q E s:=λΓ p n=>by
 unfold loadIfAlive;rw[Sem.wp_loadIfAlive,l];exact h
def JH{z TI TO T:Addr}{b:Bool}{o:Obj}{Q:Bool->Shared->Prop}(l:Wv s.heap z TI TO T b) (t:s.heap.get? T=some o)
  (h:∀h',Wv h' z TI TO T true->cg z s.heap h'->Q false { s with heap:=h' }):jy (jA prog w) A (Builtin.SmallTypes.ownedTupleIsFree (.ref z)) Q E s:=by
 unfold Builtin.SmallTypes.ownedTupleIsFree;refine jx (lD l rfl (x:=mH T) rfl ?_);refine jx (J7 (a:=T) t ?_);refine jx (lD l rfl (x:=.bool b) rfl ?_);cases b with
 |true=>exact jx (jz (jz (h s.heap l ⟨rfl,λ_ _=>rfl⟩)))
 |false =>
  refine jx ?_;exact wpAny_setField_rec l (by simp) λh1 n r=>jz (h h1 n r)
def Wf{z TI TO l n l1 l2 T:Addr}{b:Bool}{o:Obj}{k:Nat}{xs ys:Ω}{x y:Value}{Q:Ψ}(D:kr z TI TO l n l1 l2) (G:Wv s.heap z TI TO T b) (U:s.heap.get? T=some o)
  (H:ky s.heap TI (.ref l) (.ref n)) (h1:s.heap.IsListIter l l1 k) (h2:s.heap.IsListIter n l2 k) (I:s.heap.IsList l1 xs) (J:s.heap.IsList l2 ys) (X:xs[k]?=some x) (Y:ys[k]?=some y)
  (hQ:∀h',Wv h' z TI TO T true->h'.IsListIter l l1 (k+1)->h'.IsListIter n l2 (k+1)->ky h' s.heap.objs.size x y->h'.objs.size=s.heap.objs.size+1->(∀c o,c≠z->c≠l->c≠n->s.heap.get? c=some o->h'.get? c=some o)->Q (.ref s.heap.objs.size) { s with heap:=h' }) :
  jy (jA prog w) A (Builtin.«zip.__next__» ⟨[.ref z],[]⟩) (λfin s'=>∃v,fin = .done (.ret v)/\Q v s') E s:=by
 show jy _ _ (field (.ref z) 2 >>= _) _ _ _;refine jx (lD G rfl (x:=.bool false) rfl ?_);show jy _ _ (field (.ref z) 3 >>= _) _ _ _;refine jx (lD G rfl (x:=.ref TI) rfl ?_);refine jx (jX H rfl ?_);show jy _ _ (Builtin.SmallTypes.ownedTupleIsFree (.ref z) >>= _) _ _ _;refine jx (JH G U λg1 L t=>?_)
 simp only[bU,if_false];refine jx ?_;rw[gd];simp only[iW,jc];refine jx (jx (jK ?_));show jy _ _ (Builtin.SmallTypes.nextOf (.ref l) >>= _) _ _ _;refine jx (mQ (h1.extBut t.extBut D.i1z) (I.extBut t.extBut D.l1z) X λg2 q2 u=>jz ?_)
 refine jz ?_;refine jx (jx (jK ?_));show jy _ _ (Builtin.SmallTypes.nextOf (.ref n) >>= _) _ _ _;refine jx (mQ ((h2.extBut t.extBut D.i2z).extBut u.extBut D.i12.symm) ((J.extBut t.extBut D.l2z).extBut u.extBut D.l2i1) Y λB q3 C=>jz ?_)
 refine jz (jz ?_);refine jx (mW ?_ (by show 2<=jD;rw[jN];decide))
 have r:B.objs.size=s.heap.objs.size:=by rw[C.1,u.1,t.1]
 have M:Wv B z TI TO T true:=C.extBut _ _ D.i2z.symm (u.extBut _ _ D.i1z.symm L);have O:B.IsListIter l l1 (k+1):=q2.extBut C.extBut D.i12;have kp:∀c o,c≠z->c≠l->c≠n->s.heap.get? c=some o->B.get? c=some o:=λc o P R S e=>C.extBut _ _ S (u.extBut _ _ R (t.extBut _ _ P e))
 refine jz ⟨_,rfl,?_⟩;show Q (.ref B.objs.size) _;rw[r];exact hQ _ (ae _ M) (O.at λo e=>ae _ e) (q3.at λo e=>ae _ e) (by rw[←r];exact aC _ rfl) (by rw[fZ,r]) λc o P R S e=>ae _ (kp c o P R S e)
end
section
variable {prog:jC}{w:jF}{A:Around}{E:Ψ}{s:Shared}
def ZW{z TI TO l y l1 l2 T:Addr}{b:Bool}{o:Obj}{k:Nat}{xs:Ω}{Q:Fin->Shared->Prop}(hh:A.handled=none) (D:kr z TI TO l y l1 l2) (n:Wv s.heap z TI TO T b) (B:s.heap.get? T=some o)
  (r:ky s.heap TI (.ref l) (.ref y)) (h1:s.heap.IsListIter l l1 k) (t:s.heap.IsList l1 xs) (C:xs[k]?=none)
  (G:∀h' e,(∀c o,c≠z->c≠l->s.heap.get? c=some o->h'.get? c=some o)->(∃o,h'.get? e=some o/\o.cls = .type "StopIteration")->E (.ref e) { s with heap:=h' }) :
  jy (jA prog w) A (Builtin.«zip.__next__» ⟨[.ref z],[]⟩) Q E s:=by
 show jy _ _ (field (.ref z) 2 >>= _) _ _ _;refine jx (lD n rfl (x:=.bool false) rfl ?_);show jy _ _ (field (.ref z) 3 >>= _) _ _ _;refine jx (lD n rfl (x:=.ref TI) rfl ?_);refine jx (jX r rfl ?_);show jy _ _ (Builtin.SmallTypes.ownedTupleIsFree (.ref z) >>= _) _ _ _;refine jx (JH n B λO H u=>?_)
 simp only[bU,if_false];refine jx ?_;rw[gd];simp only[iW,jc];refine jx (jx (jK ?_));show jy _ _ (Builtin.SmallTypes.nextOf (.ref l) >>= _) _ _ _;refine jx (wpAny_nextOf_list_end hh (h1.extBut u.extBut D.i1z) (t.extBut u.extBut D.l1z) C λg2 e I J=>?_)
 exact G g2 e (λc o L M q=>I _ _ M (u.extBut _ _ L q)) J
structure P8 (h:Heap) (z TI TO i1 i2 l1 l2 d:Addr) (k:Nat) (xs ys:Ω):Prop where
 f:IsZip h z TI TO .none∨∃T b o,Wv h z TI TO T b/\h.get? T=some o/\T≠z/\T≠TO/\T≠i1/\T≠i2/\T≠d
 ti:ky h TI (.ref i1) (.ref i2)
 to:∃a b,ky h TO a b
 h1:h.IsListIter i1 l1 k
 h2:h.IsListIter i2 l2 k
 l1:h.IsList l1 xs
 l2:h.IsList l2 ys
def P8.ty{z TI TO l n l1 l2 d:Addr}{k:Nat}{xs ys:Ω}(S:P8 s.heap z TI TO l n l1 l2 d k xs ys):s.TypeIs (.ref z) "zip" := by
 rcases S.f with h|⟨_,_,_,h,_⟩
 .exact ⟨_,h,rfl⟩
 .exact ⟨_,h,rfl⟩
def ZL{z TI TO r t l1 l2 d:Addr}{k:Nat}{xs ys:Ω}{x y:Value}{Q:Υ->Shared->Prop}(D:kr z TI TO r t l1 l2) (hd:d<s.heap.objs.size) (S:P8 s.heap z TI TO r t l1 l2 d k xs ys) (M:xs[k]?=some x) (O:ys[k]?=some y)
  (P:∀h' T,P8 h' z TI TO r t l1 l2 d (k+1) xs ys->ky h' T x y->(∀c o,c≠z->c≠TO->c≠r->c≠t->s.heap.get? c=some o->h'.get? c=some o)->Q (some (.ref T)) { s with heap:=h' }) :
  jy (jA prog w) A (ke (.ref z)) Q E s:=by
 obtain⟨a,b,n⟩:=S.to;have R:l1≠z/\l1≠TO/\l1≠r/\l1≠t:=⟨D.l1z,D.l1TO,D.l1i1,D.l1i2⟩;have zl:z<s.heap.objs.size:=by
  rcases S.f with h|⟨_,_,_,h,_⟩
  .exact ag h
  .exact ag h
 have B:r<s.heap.objs.size:=by obtain⟨_,q,_⟩:=S.h1;exact ag q
 have C:t<s.heap.objs.size:=by obtain⟨_,q,_⟩:=S.h2;exact ag q
 have G:TO<s.heap.objs.size:=ag n;rcases S.f with H|⟨T,f1,o,H,U,X,n2,Y,n4,n5⟩
 .refine lO D H S.ti n S.h1 S.h2 S.l1 S.l2 M O λh' I a2 J L u a6 l=>P h' _ ⟨.inr ⟨_,_,_,I,u,aO zl,aO G,aO B,aO C,aO hd⟩,l _ _ D.TIz D.TITO D.TIi1 D.TIi2 S.ti,⟨_,_,a2⟩,J,L,S.l1.at λo q=>l _ _ D.l1z D.l1TO D.l1i1 D.l1i2 q,S.l2.at λo q=>l _ _ D.l2z D.l2TO D.l2i1 D.l2i2 q⟩ u l
 .have hT:=S.ty;unfold ke;refine jx (lH (lq (name:=Str.ofString "__next__") hT F.slot_zip_next (kN F.slot_zip_next hT F.entry_zip_next (Wf D H U S.ti S.h1 S.h2 S.l1 S.l2 M O λh' I J L u a6 l=>jz (P h' _ ?_ u λc o c1 _ c3 c4 q=>l c o c1 c3 c4 q)) (F.args_zip_next_1 _))))
  exact⟨.inr ⟨T,true,o,I,l _ _ X Y n4 U,X,n2,Y,n4,n5⟩,l _ _ D.TIz D.TIi1 D.TIi2 S.ti,⟨a,b,l _ _ D.TOz D.TOi1 D.TOi2 n⟩,J,L,S.l1.at λo q=>l _ _ D.l1z D.l1i1 D.l1i2 q,S.l2.at λo q=>l _ _ D.l2z D.l2i1 D.l2i2 q⟩
def V2{z TI TO l n l1 l2 d:Addr}{k:Nat}{xs ys:Ω}{Q:Υ->Shared->Prop}(hh:A.handled=none) (D:kr z TI TO l n l1 l2) (S:P8 s.heap z TI TO l n l1 l2 d k xs ys) (u:xs[k]?=none)
  (x:∀h',(∀c o,c≠z->c≠TO->c≠l->c≠n->s.heap.get? c=some o->h'.get? c=some o)->Q none { s with heap:=h' }) :
  jy (jA prog w) A (ke (.ref z)) Q E s:=by
 obtain⟨a,b,r⟩:=S.to;rcases S.f with t|⟨T,f1,o,t,B,_⟩
 .exact nt hh D t S.ti r S.h1 S.h2 S.l1 S.l2 (.inl u) x
 .have y:=S.ty;unfold ke;refine jx (lH (lq (name:=Str.ofString "__next__") y F.slot_zip_next (kN F.slot_zip_next y F.entry_zip_next (ZW hh D t B S.ti S.h1 S.l1 u λh' e hk C=>?_) (F.args_zip_next_1 _))))
  obtain⟨G,H,I⟩:=C;refine jx (mF (T := "StopIteration") (b:=true) ⟨G,H,I⟩ isSubtype_stop ?_);exact jz (x _ λc o J _ L _ q=>hk c o J L q)
def AO:entryFor table "dict.update.loop" = some Builtin.«dict.update.loop»:=entryFor_of_tree (by kernel_rfl)
def uP:plainId "dict.update.loop" = true:=by decide +kernel
end
section
variable {K:Type} [DecidableEq K]
def fz(ks:List K) (ws:Ξ) (j:Nat):List (K×Value):=((ks.zip ws).take j).foldl (λm p=>lX m p.1 p.2) []
def Om{ks:List K}{ws:Ξ}{j:Nat}{k:K}{v:Value}(h1:ks[j]?=some k) (h2:ws[j]?=some v):fz ks ws (j+1)=lX (fz ks ws j) k v:=by
 unfold fz;have:(ks.zip ws)[j]?=some (k,v):=bN.mpr ⟨h1,h2⟩;rw[eA,this,gf,fi];rfl
def Mx(m:List (K×Value)) (k:K) (v:Value):(lX m k v).length<=m.length+1:=by
 unfold lX;split
 .rw [lMq];lia
 .rw [lAq];exact ab _
theorem fold_len:∀(l:List (K×Value)) (m:List (K×Value)),(l.foldl (λm p=>lX m p.1 p.2) m).length<=m.length+l.length
 | [],m=>ab _
 |p::l,m=>by
  have:=fold_len l (lX m p.1 p.2);have:=Mx m p.1 p.2;rw[bA,lCq];lia
def SD(ks:List K) (ws:Ξ) (j:Nat):(fz ks ws j).length<=j:=by
 have:=fold_len ((ks.zip ws).take j) [];have h2:((ks.zip ws).take j).length<=j:=by rw[lTq];lia
 unfold fz;rw[bI]at this;lia
end
section
variable {prog:jC}{w:jF}{A:Around}{E:Ψ}{s:Shared}{K:Type} [DecidableEq K] {knd:KeyKind prog w K}{R:mI->Shared->Prop}{z TI TO i1 i2 l1 l2 d:Addr}{us ws:Ξ}{ks:List K}
def P8.keep{h h':Heap}{k:Nat}{xs ys:Ω}(S:P8 h z TI TO i1 i2 l1 l2 d k xs ys) (nd:∀c∈[z,TI,TO,i1,i2,l1,l2],c≠d) (kp:gN d h h'):P8 h' z TI TO i1 i2 l1 l2 d k xs ys:=by
 have q:=λc t o=>kp c o (nd c t)
 obtain⟨a,b,l⟩:=S.to;refine⟨?_,q TI (by simp) _ S.ti,⟨a,b,q TO (by simp) _ l⟩,S.h1.at λo e=>q i1 (by simp) o e,S.h2.at λo e=>q i2 (by simp) o e,S.l1.at λo e=>q l1 (by simp) o e,S.l2.at λo e=>q l2 (by simp) o e⟩
 rcases S.f with n|⟨T,f1,o,n,u,x,y,B,C,r⟩
 .exact .inl (q z (by simp) _ n)
 .exact .inr ⟨T,f1,o,q z (by simp) _ n,kp _ _ r u,x,y,B,C,r⟩
def VF(hh:A.handled=none) (D:kr z TI TO i1 i2 l1 l2) (nd:∀c∈[z,TI,TO,i1,i2,l1,l2],c≠d) (hk:∀(j:Nat) (u:Value),us[j]?=some u->∃k,ks[j]?=some k/\knd.is k u=true) (Q:us.length=ws.length) (hsz:us.length<=jD) :
  ∀(m j:Nat) (i:Int) (s:Shared),us.length-j=m->j<=us.length->P8 s.heap z TI TO i1 i2 l1 l2 d j us.toArray ws.toArray->s.heap.DictOf knd d (fz ks ws j) ->
   (∀h' tk,h'.DictOf knd d (fz ks ws us.length)->(∀b o,b≠z->b≠TO->b≠i1->b≠i2->b≠d->s.heap.get? b=some o->h'.get? b=some o)->R (.ok (.ret .none)) { s with heap:=h',toks:=tk }) ->
   kF (jA prog w) A (.builtin "dict.update.loop" ⟨[.ref d,.ref z,.int i 0,.none],[]⟩) R s:=by
 have vl:us.toArray.size=us.length:=au ..;intro m
 induction m with
 |zero =>
  intro j i s hm hj S dd t;have B:j=us.length:=by lia
  refine jL AO ?_;rw[Around.under_plainId uP _];show jy _ A.in1 (ke (.ref z) >>= _) _ _ s;refine jx (V2 hh D S (by simp;lia) λh' kp=>?_)
  show jy _ A.in1 (Builtin.Dict.addKeywords d [] >>= _) _ _ _;refine jx (jz (jz (t h' s.toks ?_ λb o b1 b2 b3 b4 _ e=>kp b o b1 b2 b3 b4 e)))
  subst B;obtain⟨o,C,G,l,r⟩:=dd;exact⟨o,C,G,kp d o (nd z (by simp)).symm (nd TO (by simp)).symm (nd i1 (by simp)).symm (nd i2 (by simp)).symm l,r⟩
 |succ m ih =>
  intro j i s hm hj S dd t;obtain⟨u,U⟩:∃u,us[j]?=some u:=⟨_,gEg (by lia)⟩
  obtain⟨v,X⟩:∃v,ws[j]?=some v:=⟨_,gEg (by lia)⟩
  obtain⟨k,H,I⟩:=hk j u U;refine jL AO ?_;rw[Around.under_plainId uP _];show jy _ A.in1 (ke (.ref z) >>= _) _ _ s;have J:d<s.heap.objs.size:=by obtain⟨_,_,_,l,_⟩:=dd;exact ag l
  refine jx (ZL D J S (x:=u) (y:=v) (by simpa using U) (by simpa using X) λh' T S' Y kp=>?_)
  have L:h'.DictOf knd d (fz ks ws j):=by
   obtain⟨o,C,G,l,r⟩:=dd;exact⟨o,C,G,kp d o (nd z (by simp)).symm (nd TO (by simp)).symm (nd i1 (by simp)).symm (nd i2 (by simp)).symm l,r⟩
  refine jx (jK ?_);have tT:Shared.TypeIs { s with heap:=h' } (.ref T) "tuple" := ⟨_,Y,rfl⟩
  refine jx (jU ?_);unfold Builtin.Dict.pairItems;refine jx (ki tT ?_);rw[qd (by decide)]
  refine jx (jX Y rfl ?_);refine jz ?_;refine jK ?_;refine nN (hsz:=by have:=SD ks ws j;lia) I L λh2 n sb=>?_
  rw[←Om H X]at n;refine jz ⟨jP uP _,ih (j+1) (i+1) _ (by lia) (by lia) (S'.keep nd sb.extBut) n λh3 M O P=>?_⟩
  exact t h3 M O λb o b1 b2 b3 b4 b5 e=>P b o b1 b2 b3 b4 b5 (sb.extBut b o b5 (kp b o b1 b2 b3 b4 e))
end
section
variable {prog:jC}{w:jF}{A:Around}{E:Ψ}{s:Shared}{K:Type} [DecidableEq K] {knd:KeyKind prog w K}{z TI TO i1 i2 l1 l2:Addr}{us ws:Ξ}{ks:List K}
def T5{Q:Ψ}(hh:A.handled=none) (D:kr z TI TO i1 i2 l1 l2) (x:IsZip s.heap z TI TO .none) (y:ky s.heap TI (.ref i1) (.ref i2)) (n:∃a b,ky s.heap TO a b) (h1:s.heap.IsListIter i1 l1 0) (h2:s.heap.IsListIter i2 l2 0) (B:s.heap.IsList l1 us.toArray) (C:s.heap.IsList l2 ws.toArray)
  (hk:∀(j:Nat) (u:Value),us[j]?=some u->∃k,ks[j]?=some k/\knd.is k u=true) (G:us.length=ws.length) (hsz:us.length<=jD)
  (h:∀h' tk,h'.DictOf knd s.heap.objs.size (fz ks ws us.length)->(∀b o,b≠z->b≠TO->b≠i1->b≠i2->s.heap.get? b=some o->h'.get? b=some o)->Q (.ref s.heap.objs.size) { s with heap:=h',toks:=tk }) :
  jy (jA prog w) A (call (.type "dict") [.ref z]) Q E s:=by
 refine nh (Q₁:=λobj t=>obj = .ref s.heap.objs.size/\t={ s with heap:=s.heap.push { cls:=.type "dict", data:=.dict #[] } }) F.kt_called_dict (F.kt_typeCall_dict_1 _) F.entry_dict_init (kt_code_dict_new _ ⟨rfl,rfl⟩) ?_
 rintro obj t ⟨rfl,rfl⟩;have l:(s.heap.push { cls:=.type "dict", data:=.dict #[] }).DictOf knd s.heap.objs.size []:=iF.new s.heap;refine⟨l.typeIs,F.args_dict_init_2 _ _,?_⟩;have up:∀b o,s.heap.get? b=some o->(s.heap.push { cls:=.type "dict", data:=.dict #[] }).get? b=some o:=λb o e=>ae _ e
 have R:Shared.TypeIs { s with heap:=s.heap.push { cls:=.type "dict", data:=.dict #[] } } (.ref z) "zip" := ⟨_,up _ _ x,rfl⟩
 unfold Builtin.«dict.__init__»;refine jx ?_;unfold Builtin.Dict.selfAndRest;refine jx (mU l.typeIs ?_);show jy _ _ (pure (s.heap.objs.size,[aj z])) _ _ _;refine jz ?_;show jy _ _ (Builtin.Dict.updateFrom "dict.__init__" s.heap.objs.size (.ref z) [] .none) _ _ _;unfold Builtin.Dict.updateFrom;refine jx (ki R ?_);rw[qd (by decide)]
 refine jx (Vg (up _ _ x) (by simp[hh]) λO S H=>?_)
 rw[qd (by rfl)]
 refine jx (mw ?_);have kp:∀b o,s.heap.get? b=some o->O.get? b=some o:=λb o e=>H b o (up b o e)
 refine jx (lK (kp _ _ x) ?_);obtain⟨ta,tb,n⟩:=n;have lt:∀c∈[z,TI,TO,i1,i2,l1,l2],c≠s.heap.objs.size:=λc P=>by
  refine ao ?_;simp only[ah,bB,or_false]at P;rcases P with rfl|rfl|rfl|rfl|rfl|rfl|rfl
  .exact ag x
  .exact ag y
  .exact ag n
  .obtain ⟨_,q,_⟩:=h1;exact ag q
  .obtain ⟨_,q,_⟩:=h2;exact ag q
  .obtain ⟨_,q,_⟩:=B;exact ag q
  .obtain ⟨_,q,_⟩:=C;exact ag q
 have I:O.DictOf knd s.heap.objs.size (fz ks ws 0):=by
  obtain⟨o,U,X,Y,r⟩:=l;exact⟨o,U,X,H _ _ Y,r⟩
 refine jz ⟨jP uP _,VF (by simp[hh]) D lt hk G hsz us.length 0 0 _ (fO _) (aE _) ⟨.inl (kp _ _ x),kp _ _ y,⟨_,_,kp _ _ n⟩,h1.at λo e=>kp _ o e,h2.at λo e=>kp _ o e,B.at λo e=>kp _ o e,C.at λo e=>kp _ o e⟩ I λh4 J L M=>⟨rfl,h h4 J L λb o b1 b2 b3 b4 e=>M b o b1 b2 b3 b4 (ao (ag e)) (kp b o e)⟩⟩
end
end Mo
namespace Mr
open PySem PySem.W PySem.Spec PyProof.Rows L2 Mo
def fv(ns ms:Ϝ):List (pE×V):=(ns.zip ms).foldl (λm p=>xy m (.inl p.1) (.int p.2)) []
theorem Hr:∀(ns ms:Ϝ) (ws:Ξ) (m:List (pE×V)) (l:List (pE×Value)),pS (ms.map V.int) ws->KV m l->KV ((ns.zip ms).foldl (λm p=>xy m (.inl p.1) (.int p.2)) m) (((ns.map ar).zip ws).foldl (λ(m:List (pE×Value)) p=>lX m p.1 p.2) l)
 | [],ms,ws,m,l,_,h=>by simpa using h
 |n::ns,[],ws,m,l,s,h=>by
  cases s;simpa using h
 |n::ns,k::ms,ws,m,l,s,h=>by
  cases s with
  |cons r t =>
   rw[ax,cW,cW,bA,bA];exact Hr ns ms _ _ _ t (h.put _ r)
def Sv(ns ms:Ϝ):(fv ns ms).length<=ns.length:=by
 have key:∀(l:List (Int×Int)) (m:List (pE×V)),(l.foldl (λm p=>xy m (.inl p.1) (.int p.2)) m).length<=m.length+l.length:=by
  intro l
  induction l with
  |nil=>exact λm=>ab _
  |cons p l n =>
   intro m;have:=n (xy m (.inl p.1) (.int p.2));have:=xE m (ar p.1) (V.int p.2);rw[bA,lCq];lia
 have:=key (ns.zip ms) [];rw[bI,dZ]at this;unfold fv;lia
section
variable {X:Cx}
def rDZ(K:Ζ) (xs:List V) (H:Hp) (Q:VK):Prop:=∃a b ns ms,xs=[.ref a,.ref b]/\rN K H a (ns.map V.int)/\rN K H b (ms.map V.int)/\ns.length=ms.length/\∀l,H l=none->Q (.ref l) (qP H l (.dK (fv ns ms)))
def ZS{e f:Expr}{ta:TA}{p0 p r pos:Pos}(hc:X.calm=true) (gl:Gl X "dict") (ml:X.mg "dict" = none) (hg:Gl X "zip") (hm:X.mg "zip" = none) (ha:PA X [e,f] ta)
  (he:jH [.Call (.Name "zip" p) [e,f] [] pos] X.env=(false,eval (.Call (.Name "zip" p) [e,f] [] pos) X.env)::jH [] X.env:=by rfl) (hs:jH [e,f] X.env=[(false,eval e X.env),(false,eval f X.env)]:=by rfl) (C:jH [f] X.env=[(false,eval f X.env)]:=by rfl) :
  PE X (.Call (.Name "dict" p0) [.Call (.Name "zip" p) [e,f] [] pos] [] r) (JL (rDZ X.K) ta):=by
 intro og s σ H Q I h;refine ka (vt I gl ml boot_dict ?_ (by decide) (by decide))
 refine bb ?_ he (by rfl)
 rw[he];show jy _ _ (spliced ((false,eval (.Call (.Name "zip" p) [e,f] [] pos) X.env)::kx r (jH [] X.env))) _ _ s;refine Calls.spliced_cons ?_;refine Call_ (vt I hg hm boot_zip (bb (sV (ha pos og s σ H _ I h) λus l L=>?_) (by rw[hs,C]) (by rw[C];rfl)))
 obtain⟨vs,H1,B,r1,q1⟩:=L;obtain⟨a,b,n,J,e1,M,O,hl,q⟩:=q1;subst e1;obtain⟨u,v,rfl,P,rv⟩:=Ni r1;cases P;cases rv;obtain⟨E,v1,R,z1⟩:=B.list M;obtain⟨y,v2,S,z2⟩:=B.list O;have n1:=v1.length;have n2:=v2.length;rw[lMq]at n1 n2 z1;have al:a<l.heap.objs.size:=let ⟨_,U,_⟩:=R.isList;ag U
 have bl:b<l.heap.objs.size:=let ⟨_,U,_⟩:=S.isList;ag U
 refine call_zip_2 R.isList S.isList λg hz Y hTO h1 h2 hsz hk=>Calls.spliced_nil ?_
 have zD:=VS l.heap.objs.size;have D:kr (l.heap.objs.size+4) (l.heap.objs.size+2) (l.heap.objs.size+3) l.heap.objs.size (l.heap.objs.size+1) a b:=zipApart_new al bl;refine T5 (s:={ l with heap:=g }) (knd:=qR X.prog X.w) (ks:=n.map ar) (B.ok.hd hc) D hz Y ⟨_,_,hTO⟩ h1 h2 (R.isList.at λo e=>hk _ o e) (S.isList.at λo e=>hk _ o e) (λj u hu=>?_) (by lia) (by lia) λh' tk dd kp=>?_
 .have hj:j<n.length:=by have:=(gSq.mp hu).1;lia
  obtain⟨u',G,P⟩:=v1.get (i:=j) (x:=.int n[j]) (by rw[gMq,gEg hj];rfl)
  rw[hu]at G;cases G;obtain⟨t,rfl⟩:=P;exact⟨.inl n[j],by rw[gMq,gEg hj];rfl,C4 _ t⟩
 .have z:({ l with heap:=g }:Shared).heap.objs.size=l.heap.objs.size+5:=hsz
  rw[z]at dd;have kv:KV (fv n J) (fz (n.map ar) y E.length):=by
   have:=Hr n J y [] [] v2 .nil;unfold fz;rw[cK (by rw[dZ,lMq];lia)]
   exact this
  refine⟨.ref (l.heap.objs.size+5),qP H1 (l.heap.objs.size+5) (.dK (fv n J)),B.laid (t':=tk) (λb o e=>?_) (cO _ _) (Ip (by have:=Sv n J;lia) (beq_eq_false_iff_ne.mpr (aO (cB 5 B.big))) kv dd),by rw[z];rfl,q _ (B.hok.fresh (cO _ _))⟩
  have lt:b<l.heap.objs.size:=ag e;exact kp b o (ao (cB 4 lt)) (ao (cB 3 lt)) (ao lt) (ao (cB 1 lt)) (hk b o e)
end
end Mr
namespace Z
open PySem L2 Mr
def dz(ns ms:Ϝ):List (pE×D):=(ns.zip ms).foldl (λm p=>wI m (.inl p.1) (.int p.2)) []
def Vw:List D->Option (List (pE×D))
 | [.list as,.list bs]=>(qT as).bind λns=>(qT bs).bind λms=>if ns.length=ms.length then some (dz ns ms) else none
 |_=>none
def kDZ(m:ML):MK:=λS=>(m S).bind λx=>(Vw x.1).map λkvs=>(.owd kvs,x.2)
def aaG(m:ML) (S:AS):kDZ m S=(m S).bind λx=>(Vw x.1).map λkvs=>(.owd kvs,x.2):=rfl
def Pp{ns ms:Ϝ}(h:ns.length=ms.length):Vw [.list (ns.map D.int),.list (ms.map D.int)]=some (dz ns ms):=by
 show ((qT (ns.map D.int)).bind λns=>(qT (ms.map D.int)).bind λms=>if ns.length=ms.length then some (dz ns ms) else none)=_
 rw[rd,rd];simp[h]
section
variable {K:Ζ}{ta:TA}{m:ML}
def Sd{Hf:Hp}(ns ms:Ϝ):uw K Hf (dz ns ms) (fv ns ms):=by
 have key:∀(l:List (Int×Int)) (d:List (pE×D)) (k:List (pE×V)),uw K Hf d k->uw K Hf (l.foldl (λm p=>wI m (.inl p.1) (.int p.2)) d) (l.foldl (λm p=>xy m (.inl p.1) (.int p.2)) k):=by
  intro l
  induction l with
  |nil=>exact λd k h=>h
  |cons p l n=>exact λd k h=>n _ _ (KS h .int)
 exact key _ _ _ ⟨rfl,λi d v h=>by simp at h⟩
def ZP(G:Tu K ta m):SK K (JL (rDZ K) ta) (kDZ m):=by
 intro H₀ t Hf S σ H Fs av S' R e Q q;obtain⟨x,I,e⟩:=oBq.mp e;obtain⟨u,s,e⟩:=oMq.mp e;cases e;refine G R (ds:=x.1) (S':=x.2) I _ λJ H1 Fs1 vs B C E=>?_
 have sh:∃n r,x.1=[.list (n.map D.int),.list (r.map D.int)]/\n.length=r.length/\u=dz n r:=by
  unfold Vw at s;split at s
  .rename_i as bs y;obtain⟨n,f1,f2⟩:=oBq.mp s;obtain⟨r,L,z⟩:=oBq.mp f2;split at z
   .rename_i hl;cases z;exact⟨n,r,by rw[y,uo f1,uo L],hl,rfl⟩
   .cases z
  .cases s
 obtain⟨n,r,y,hl,rfl⟩:=sh;rw[y]at E;obtain⟨va,w1,rfl,M,O⟩:=E.cons_inv;obtain⟨vb,w2,rfl,P,U⟩:=O.cons_inv;have:=U.nil_inv;subst this;obtain⟨a,X,rfl,Y,g2⟩:=M.list_inv;obtain⟨b,us2,rfl,g3,g4⟩:=P.list_inv;have u1:=qo g2;have u2:=qo g4;subst u1;subst u2;refine⟨a,b,n,r,rfl,rN.of Y,rN.of g3,hl,λl hn=>?_⟩
 obtain⟨t4,R4,n1,n2,n3⟩:=C.new (o:=.dK (fv n r)) hn;exact q _ _ _ (.ref l) [l] (B.trans t4) R4 (.owd oX n1 (Sd n r)) ((xS.one C hn).back B)
end
end Z
namespace Mr
open PySem L2
open PySem.Spec PyProof.Rows
def QK:V->Int
 | .int i=>i
 |_=>0
def yc(H:Hp) (p:Addr) (c:Λ):Prop:=∃l:Δ,H p=some (.tup (l.map V.ref))/\l.length=c.length/\∀(i:Nat) (q:Addr) (r:Ϝ),l[i]?=some q->c[i]?=some r->H q=some (.tup (r.map V.int))
def qz(H:Hp) (p:Addr):Λ:=match H p with
 |some (.tup vs)=>vs.map λv=>match v with
  | .ref q=>match H q with
   |some (.tup ws)=>ws.map QK
   |_=>[]
  |_=>[]
 |_=>[]
def yc.eq{H:Hp}{p:Addr}{c:Λ}(h:yc H p c):qz H p=c:=by
 obtain⟨l,h1,h2,s⟩:=h;unfold qz;rw[h1];show (l.map V.ref).map _=c;rw[mPq];refine dh λi=>?_
 rw[gMq]
 by_cases n:i<l.length
 .have r:i<c.length:=by lia
  have e:=s i l[i] c[i] (gEg n) (gEg r);rw[gEg n,gEg r];show some (match H l[i] with|some (.tup t)=>t.map QK|_=>[])=some c[i]
  rw[e];show some ((c[i].map V.int).map QK)=_;rw[mPq];exact congrArg some (fU c[i])
 .rw [bp (by lia),bp (by lia)]
  rfl
def yc.same{H l:Hp}{p:Addr}{c:Λ}(h:yc H p c) (s:pO H l):yc l p c:=by
 obtain⟨n,h1,h2,t⟩:=h;exact⟨n,s _ _ h1,h2,λi q r u x=>s _ _ (t i q r u x)⟩
def Nf(H:Hp) (ps:Δ) (cs:List Λ):Prop:=cs=ps.map (qz H)/\∀p∈ps,yc H p (qz H p)
theorem Kc{prog:jC}{w:jF}{A:Around}{s:Shared}{Q:Bool->Shared->Prop}(t:A.units+4<jT) {fin:Bool}:∀(n l:Δ) (c d:Λ) (i:Nat),n.length=c.length->l.length=d.length ->
  (∀(i:Nat) (q:Addr) (r:Ϝ),n[i]?=some q->c[i]?=some r->HT.vX s.heap q r)->(∀(i:Nat) (q:Addr) (r:Ϝ),l[i]?=some q->d[i]?=some r->HT.vX s.heap q r)->fin=decide (c.length<d.length)->Q (HT.qf c d) s->W.KatLex prog w A false fin Q ((n.map aj).zip (l.map aj)) i s
 | [],l,[],d,i,_,l2,_,_,hf,k=>by
  refine W.kat_nil ?_;cases d with
  |nil=>rw[hf];simpa [HT.qf] using k
  |cons y d=>rw[hf];simpa [HT.qf] using k
 |q::n,[],r::c,[],i,_,_,_,_,hf,k=>by
  refine W.kat_nil ?_;rw[hf];simpa [HT.qf] using k
 |q::n,q'::l,r::c,r'::d,i,l1,l2,h1,h2,hf,k=>by
  have u:=h1 0 q r rfl rfl;have x:=h2 0 q' r' rfl rfl;refine W.kat_cons (u.eq x t prog w _ _ ?_);rw[HT.qf]at k;refine W.kat_go (λe=>?_) λe=>?_
  .have e:=of_decide_eq_true e;rw[qd e]at k;exact W.kat_yes (Kc t n l c d (i+1) (by simpa using l1) (by simpa using l2) (λj q r a b=>h1 (j+1) q r a b) (λj q r a b=>h2 (j+1) q r a b) (by rw[hf];simp) k)
  .have e:=of_decide_eq_false e;rw[qh e]at k;refine W.kat_no ?_;show jy _ _ (oneLt' false _ _) _ _ _;exact W.kat_one _ _ (u.lt x t prog w _ _ k)
def YQ{prog:jC}{w:jF}{A:Around}{s:Shared}{ps:Δ}{r:Addr->Λ}(R:A.units+40<jT)
  (h:∀p∈ps,HT.uZ s.heap p (r p)):MrS.CM prog w A s (mC false) (λx=>∃p,x.1 = .ref p/\p∈ps) (ltM r) where
 ask:=by
  rintro⟨_,x⟩ ⟨_,y⟩ ⟨p,l,H⟩ ⟨q,t,I⟩ E Q k;dsimp only at l t;subst l t;obtain⟨J,⟨o,L,S,n,hd⟩,l1,M⟩:=h p H;obtain⟨u,⟨U,B,O,X,C⟩,l2,P⟩:=h q I;refine W.kat_lt L hd B C ?_;exact Kc (by lia) J u (r p) (r q) 0 l1 l2 M P (by simp[l1,l2]) k
 asym:=by
  rintro⟨_,x⟩ ⟨_,y⟩ ⟨a,l,_⟩ ⟨b,t,_⟩ h;dsimp only at l t;subst l t;exact HT.vp _ _ h
 trans:=by
  rintro⟨_,x⟩ ⟨_,y⟩ ⟨_,z⟩ ⟨a,l,_⟩ ⟨b,t,_⟩ ⟨c,G,_⟩ h1 h2;dsimp only at l t G;subst l t G;exact HT.tj _ _ _ h1 h2
def V4{M:Model}{A:Around}{E:Ψ}{s:Shared}{ps:Δ}{r:Addr->Λ}{Q:jS->Shared->Prop}(h2:2<=ps.length) (h:∀p∈ps,HT.uZ s.heap p (r p)) (l:∀p∈ps,r p≠[]) (q:Q (mC false) s):jy M A (lN (ps.map aj).toArray) Q E s:=by
 have key:∀ps:Δ,(∀p∈ps,HT.uZ s.heap p (r p))->(∀p∈ps,r p≠[])->∃fs:Δ,fs.length=ps.length/\W.KatTups s.heap (ps.map aj) (fs.map aj)/\∀f∈fs,∃z,HT.vX s.heap f z:=λps=>by
  induction ps with
  |nil=>intro _ _;exact⟨[],rfl,W.KatTups.nil,λf hf=>by cases hf⟩
  |cons p ps I =>
   intro h l;obtain⟨fs,C,t,u⟩:=I (λp x=>h p (mCo _ x)) (λp x=>l p (mCo _ x))
   obtain⟨G,⟨o,y,B,n,hd⟩,l1,H⟩:=h p (ai ..);have J:=l p (ai ..);cases hr:r p with
   |nil=>exact absurd hr J
   |cons z c =>
    rw[hr]at l1 H;cases G with
    |nil=>cases l1
    |cons f G =>
     refine⟨f::fs,by rw[lCq,lCq,C],W.KatTups.cons y B hd rfl t,λg L=>?_⟩
     rcases ah.mp L with w|w
     .rw [w];exact⟨z,H 0 f z rfl rfl⟩
     .exact u g w
 obtain⟨fs,C,t,u⟩:=key ps h l;refine W.kat_kind (T:=.type "tuple") t (by rw[lMq];lia) (λv O=>?_) (by rfl) q
 obtain⟨f,hf,rfl⟩:=mMq.mp O;obtain⟨z,S,⟨o,y,B,_⟩,_⟩:=u f hf;intro A Q E U P R;exact ki (T := "tuple") ⟨o,P _ _ y,B⟩ R
end Mr
namespace Mr
open PySem L2 PySem.Calls
open PySem.Spec PyProof.Rows
section
variable {X:Cx}
def Wk{l:Φ}{σ:St}{H:Hp}{s:Shared}{p:Addr}{c:Λ}(I:Inv X l σ H s) (h:yc H p c):HT.uZ s.heap p c:=by
 obtain⟨n,h1,h2,t⟩:=h;exact D1 I ⟨n,BN.of h1,h2,λi q r u x=>BN.of (t i q r u x)⟩
def HX(hu:X.A.units+64<jT):yw X (.builtin "sorted") (λxs H Q=>∃(a:Addr) (ps:Δ) (cs:List Λ),xs=[.ref a]/\ps.length<64/\rN X.K H a (ps.map V.ref)/\Nf H ps cs/\(∀c∈cs,c≠[]) /\
  ∀(p:Addr) (y:Δ),H p=none->y.Perm ps->y.map (qz H)=zH cs->Q (.ref p) (qP H p (.lst (y.map V.ref)))):=by
 intro og s σ H xs us Q I r h;obtain⟨a,ps,O,rfl,hf,hS,⟨J,P⟩,E,q⟩:=h;obtain⟨u,rfl,R⟩:=xo r;cases R;obtain⟨S,U,hl,Y⟩:=I.list hS;have ei:=uj U;subst ei;have n:∀(z:Shared),(∀b o,s.heap.get? b=some o->z.heap.get? b=some o)->∀p∈ps,HT.uZ z.heap p (qz H p):=λz k p t=>(Wk I (P p t)).keep k
 have B:∀p∈ps,qz H p≠[]:=λp t=>E _ (by rw[J];exact mMq.mpr ⟨p,t,rfl⟩)
 refine MrS.Dg (κ:=mC false) (Pk:=λx=>∃p,x.1 = .ref p/\p∈ps) (lt:=ltM (qz H)) hl.isList (by simpa using hf) (λz k=>⟨λh2 Q q=>?_,YQ (by show X.A.units+1+1+40<jT;lia) (n z k)⟩) (λv m=>?_) λout h' n' L M o3 o4=>?_
 .exact V4 (by simpa using h2) (n z k) B q
 .obtain ⟨p,t,rfl⟩:=mMq.mp m;exact⟨p,rfl,t⟩
 .have ho:∀v∈out,∃p∈ps,v = .ref p:=λv m=>by
   obtain⟨p,t,rfl⟩:=mMq.mp (L.mem_iff.mp m);exact⟨p,t,rfl⟩
  have G:out=(out.map qU).map aj:=by
   rw[mPq];have e:=mCq (l:=out) (f:=id) (g:=aj∘qU) λv hv=>by
    obtain⟨p,_,rfl⟩:=ho v hv;rfl
   rw[←e,dn]
  have C:(out.map qU).Perm ps:=by
   have:=L.map qU;rw[mPq,show qU∘aj=id from rfl,dn]at this
   exact this
  have t:H (s.heap.objs.size+1)=none:=I.hok.fresh (bz _);generalize out.map qU=y at G C;have es:y.map (qz H)=zH O:=by
   refine D5 (by rw[J];exact C.map _) ?_
   rw[aF];rw[G,aF]at M;exact M
  refine⟨.ref (s.heap.objs.size+1),_,I.laid (t':=s.toks) o3 (bz _) (show qW X.prog X.w _ h' _ (.lst (y.map V.ref)) from ⟨?_,out,n',?_,o4⟩),rfl,q _ y t C es⟩
  .rw [lMq,C.length_eq];simpa using Y
  .rw [G];exact vn y
end
end Mr
namespace Z
open PySem L2 Mr Xe
def LH(l:ML):MK:=λS=>(l S).bind λx=>(BJ x.1).bind λcs=>uR ((∀c∈cs,c≠[])/\cs.length<64) (some (.ow ((zH cs).map λc=>.sh (dC c)),x.2))
def UK(l:ML) (S:AS):LH l S=(l S).bind λx=>(BJ x.1).bind λcs=>uR ((∀c∈cs,c≠[])/\cs.length<64) (some (.ow ((zH cs).map λc=>.sh (dC c)),x.2)):=rfl
section
variable {K:Ζ}{te:TE}{l:ML}
def M9{H:Hp}{c:Λ}{v:V}(r:qB K H (dC c) v):∃p,v = .ref p/\yc H p c:=by
 obtain⟨p,s,rfl,h1,h2⟩:=r.tup_inv;have key:∀{c:Λ}{s:List V},pU K H (c.map λr=>.tup (r.map .int)) s->∃n:Δ,s=n.map V.ref/\n.length=c.length/\∀(i:Nat) (q:Addr) (r:Ϝ),n[i]?=some q->c[i]?=some r->H q=some (.tup (r.map V.int)):=λ{c}=>by
  induction c with
  |nil =>
   intro s h;exact⟨[],h.nil_inv,rfl,λi q r e=>by cases e⟩
  |cons r c x =>
   intro s h;obtain⟨v,E,rfl,y,g2⟩:=h.cons_inv;obtain⟨q,G,rfl,u,z⟩:=y.tup_inv;rw[qo z]at u;obtain⟨n,rfl,l1,t⟩:=x g2;refine⟨q::n,rfl,by simp[l1],λi B C a b=>?_⟩
   cases i with
   |zero=>cases a;cases b;exact u
   |succ i=>exact t i B C (by simpa using a) (by simpa using b)
 obtain⟨n,rfl,l1,t⟩:=key h2;exact⟨p,rfl,n,h1,l1,t⟩
theorem JQ{H:Hp}:∀{cs:List Λ}{vs:List V},pU K H (cs.map dC) vs->∃ps,vs=ps.map V.ref/\Nf H ps cs/\∀p∈ps,qB K H (dC (qz H p)) (.ref p)
 | [],vs,h=>⟨[],h.nil_inv,⟨rfl,λp n=>by cases n⟩,λp n=>by cases n⟩
 |c::cs,vs,h=>by
  obtain⟨v,x,rfl,h1,h2⟩:=h.cons_inv;obtain⟨ps,rfl,⟨s,t⟩,u⟩:=JQ h2;obtain⟨p,rfl,g⟩:=M9 h1;refine⟨p::ps,rfl,⟨by rw[ax,g.eq,s],λq r=>?_⟩,λq r=>?_⟩
  .rcases ah.mp r with z|z
   .rw [z,g.eq];exact g
   .exact t q z
  .rcases ah.mp r with z|z
   .rw [z,g.eq];exact h1
   .exact u q z
theorem J8{H:Hp}:∀{ps:Δ},(∀p∈ps,qB K H (dC (qz H p)) (.ref p))->pU K H ((ps.map (qz H)).map dC) (ps.map V.ref)
 | [],_=>pU.nil
 |p::ps,h=>pU.cons (h p (ai ..)) (J8 λq n=>h q (mCo _ n))
def Rz(hl:SQ K te l):SK K (JL (λxs H Q=>∃(a:Addr) (ps:Δ) (cs:List Λ),xs=[.ref a]/\ps.length<64/\rN K H a (ps.map V.ref)/\Nf H ps cs/\(∀c∈cs,c≠[]) /\
  ∀(p:Addr) (t:Δ),H p=none->t.Perm ps->t.map (qz H)=zH cs->Q (.ref p) (qP H p (.lst (t.map V.ref)))) (sW te wk)) (LH l):=by
 intro H₀ z Hf S σ H Fs av S' R e Q q;obtain⟨x,X,e⟩:=oBq.mp e;obtain⟨u,Y,e⟩:=oBq.mp e;rcases pM e with ⟨⟨B,hf⟩,e⟩|e
 .cases e;refine hl R (ds:=x.1) (S':=x.2) X _ λr J Fs1 p1 vs1 L y h1 M=>?_
  rw[Ds Y]at M;obtain⟨ps,rfl,⟨O,P⟩,hR⟩:=JQ M;have n:∀p∈ps,qz J p=qz r p:=λp s=>((P p s).same y.sub).eq
  have C:Nf J ps u:=⟨by rw[O];exact mCq λp s=>(n p s).symm,λp s=>by rw[n p s];exact(P p s).same y.sub⟩
  refine⟨p1,ps,u,rfl,by rw[O,lMq]at hf;exact hf,h1,C,B,λp t s U es=>?_⟩
  obtain⟨t4,R4,n1,n2,n3⟩:=y.new (o:=.lst (t.map V.ref)) s;have E:∀b∈t,qB K r (dC (qz r b)) (.ref b):=λb G=>hR b (U.mem_iff.mp G)
  have I:t.map (qz r)=zH u:=by rw[←es];exact mCq λb G=>(n b (U.mem_iff.mp G)).symm
  have e3:(zH u).map (λm=>AV.sh (dC m))=((zH u).map dC).map AV.sh:=by rw[mPq];rfl
  rw[e3]at q;refine q _ _ _ (.ref p) [p] (L.trans t4) R4 (pY.new oX n1 ?_) ((xS.one y s).back L);rw[←I];exact J8 E
 .cases e
end
end Z
namespace Mr
open PySem L2 PySem.Calls
open PySem.Spec PyProof.Rows
def ltT(r:Addr->Ϝ) (x y:jB):Bool:=match x.1,y.1 with
 | .ref p,.ref q=>HT.qD (r p) (r q)
 |_,_=>false
def RO{prog:jC}{w:jF}{A:Around}{s:Shared}{Q:Bool->Shared->Prop}{fin:Bool}:∀{vs:Ξ}{c:Ϝ},jR vs c->∀{us:Ξ}{d:Ϝ},jR us d->∀i:Nat,fin=decide (c.length<d.length)->Q (HT.qD c d) s->W.KatLex prog w A true fin Q (vs.zip us) i s:=by
 intro vs c n
 induction n with
 |nil =>
  intro us d l i hf k;refine W.kat_nil ?_;cases l with
  |nil=>rw[hf];simpa [HT.qD] using k
  |cons b t h=>rw[hf];simpa [HT.qD] using k
 |cons a t n r =>
  intro us d l i hf k;cases l with
  |nil =>
   refine W.kat_nil ?_;rw[hf];simpa [HT.qD] using k
  |cons b u l =>
   refine W.kat_cons (wpAny_eqBool_int ?_);rw[HT.qD]at k;refine W.kat_go (λe=>?_) λe=>?_
   .have e:=eq_of_beq e;rw[qd e]at k;exact W.kat_yes (r l (i+1) (by rw[hf];simp) k)
   .have e:¬ a=b:=λz=>by rw[z]at e;simp at e
    rw[qh e]at k;refine W.kat_no ?_;cases i with
    |zero =>
     show jy _ _ (oneLt' true _ _) _ _ _;rw[←mY];exact W.kat_lt_int k
    |succ i =>
     show jy _ _ (oneLt' false _ _) _ _ _;exact W.kat_one _ _ (wpAny_lt_int k)
def YC{prog:jC}{w:jF}{A:Around}{s:Shared}{ps:Δ}{r:Addr->Ϝ}
  (h:∀p∈ps,HT.vX s.heap p (r p)):MrS.CM prog w A s (mC true) (λx=>∃p,x.1 = .ref p/\p∈ps) (ltT r) where
 ask:=by
  rintro⟨_,x⟩ ⟨_,y⟩ ⟨p,l,I⟩ ⟨q,t,J⟩ E Q k;dsimp only at l t;subst l t;obtain⟨vs,⟨o,L,O,n,hd⟩,C⟩:=h p I;obtain⟨us,⟨P,u,M,R,B⟩,G⟩:=h q J;refine W.kat_lt L hd u B ?_;exact RO C G 0 (by simp[C.length,G.length]) k
 asym:=by
  rintro⟨_,x⟩ ⟨_,y⟩ ⟨a,l,_⟩ ⟨b,t,_⟩ h;dsimp only at l t;subst l t;exact Mr.Ao _ _ h
 trans:=by
  rintro⟨_,x⟩ ⟨_,y⟩ ⟨_,z⟩ ⟨a,l,_⟩ ⟨b,t,_⟩ ⟨c,H,_⟩ h1 h2;dsimp only at l t H;subst l t H;exact Mr.yK _ _ _ h1 h2
def W8{M:Model}{A:Around}{E:Ψ}{s:Shared}{ps:Δ}{r:Addr->Ϝ}{Q:jS->Shared->Prop}(h2:2<=ps.length) (h:∀p∈ps,HT.vX s.heap p (r p)) (l:∀p∈ps,r p≠[]) (q:Q (mC true) s):jy M A (lN (ps.map aj).toArray) Q E s:=by
 have key:∀ps:Δ,(∀p∈ps,HT.vX s.heap p (r p))->(∀p∈ps,r p≠[])->∃fs:Ξ,fs.length=ps.length/\W.KatTups s.heap (ps.map aj) fs/\∀f∈fs,∃z t,f = .int z t:=λps=>by
  induction ps with
  |nil=>intro _ _;exact⟨[],rfl,W.KatTups.nil,λf hf=>by cases hf⟩
  |cons p ps H =>
   intro h l;obtain⟨fs,C,u,x⟩:=H (λp y=>h p (mCo _ y)) (λp y=>l p (mCo _ y))
   obtain⟨R,⟨o,I,J,n,hd⟩,B⟩:=h p (ai ..);have G:=l p (ai ..);generalize r p=c at B G;cases B with
   |nil=>exact absurd rfl G
   |cons z t B =>
    refine⟨.int z t::fs,by rw[lCq,lCq,C],W.KatTups.cons I J hd rfl u,λg L=>?_⟩
    rcases ah.mp L with w|w
    .rw [w];exact⟨z,t,rfl⟩
    .exact x g w
 obtain⟨fs,C,u,x⟩:=key ps h l;refine W.kat_kind (T:=.type "int") u (by lia) (λv O=>?_) (by rfl) q
 obtain⟨z,t,rfl⟩:=x v O;intro A Q E S U P;exact ki (T := "int") rfl P
def tZ(H:Hp) (p:Addr):Ϝ:=match H p with
 |some (.tup vs)=>vs.map QK
 |_=>[]
def EI(H:Hp) (ps:Δ) (rs:Λ):Prop:=rs=ps.map (tZ H)/\∀p∈ps,H p=some (.tup ((tZ H p).map V.int))
def FD{H:Hp}{p:Addr}{r:Ϝ}(h:H p=some (.tup (r.map V.int))):tZ H p=r:=by
 unfold tZ;rw[h];show (r.map V.int).map QK=r;rw[mPq];exact fU r
section
variable {X:Cx}
def aau{n:Φ}{σ:St}{H:Hp}{s:Shared}{p:Addr}{r:Ϝ}(I:Inv X n σ H s) (h:H p=some (.tup (r.map V.int))):HT.vX s.heap p r:=by
 obtain⟨l,t,u,_⟩:=I.tuple (BN.of h);exact⟨l,u,xi t⟩
def vX.keep'{h h':Heap}{p:Addr}{c:Ϝ}(k:∀b o,h.get? b=some o->h'.get? b=some o) (t:HT.vX h p c):HT.vX h' p c:=by
 obtain⟨l,⟨o,n,sA⟩,i⟩:=t;exact⟨l,⟨o,k _ _ n,sA⟩,i⟩
def zt:yw X (.builtin "sorted") (λxs H Q=>∃(a:Addr) (ps:Δ) (rs:Λ),xs=[.ref a]/\ps.length<64/\rN X.K H a (ps.map V.ref)/\EI H ps rs/\(∀r∈rs,r≠[]) /\
  ∀(p:Addr) (y:Δ),H p=none->y.Perm ps->y.map (tZ H)=Do rs->Q (.ref p) (qP H p (.lst (y.map V.ref)))):=by
 intro og s σ H xs us Q I r h;obtain⟨a,ps,O,rfl,hf,hS,⟨J,P⟩,E,q⟩:=h;obtain⟨u,rfl,R⟩:=xo r;cases R;obtain⟨S,U,hl,Y⟩:=I.list hS;have ei:=uj U;subst ei;have n:∀(z:Shared),(∀b o,s.heap.get? b=some o->z.heap.get? b=some o)->∀p∈ps,HT.vX z.heap p (tZ H p):=λz k p t=>vX.keep' k (aau I (P p t))
 have B:∀p∈ps,tZ H p≠[]:=λp t=>E _ (by rw[J];exact mMq.mpr ⟨p,t,rfl⟩)
 refine MrS.Dg (κ:=mC true) (Pk:=λx=>∃p,x.1 = .ref p/\p∈ps) (lt:=ltT (tZ H)) hl.isList (by simpa using hf) (λz k=>⟨λh2 Q q=>?_,YC (n z k)⟩) (λv m=>?_) λout h' n' L M o3 o4=>?_
 .exact W8 (by simpa using h2) (n z k) B q
 .obtain ⟨p,t,rfl⟩:=mMq.mp m;exact⟨p,rfl,t⟩
 .have ho:∀v∈out,∃p∈ps,v = .ref p:=λv m=>by
   obtain⟨p,t,rfl⟩:=mMq.mp (L.mem_iff.mp m);exact⟨p,t,rfl⟩
  have G:out=(out.map qU).map aj:=by
   rw[mPq];have e:=mCq (l:=out) (f:=id) (g:=aj∘qU) λv hv=>by
    obtain⟨p,_,rfl⟩:=ho v hv;rfl
   rw[←e,dn]
  have C:(out.map qU).Perm ps:=by
   have:=L.map qU;rw[mPq,show qU∘aj=id from rfl,dn]at this
   exact this
  have t:H (s.heap.objs.size+1)=none:=I.hok.fresh (bz _);generalize out.map qU=y at G C;have es:y.map (tZ H)=Do O:=by
   refine Bx (by rw[J];exact C.map _) ?_
   rw[aF];rw[G,aF]at M;exact M
  refine⟨.ref (s.heap.objs.size+1),_,I.laid (t':=s.toks) o3 (bz _) (show qW X.prog X.w _ h' _ (.lst (y.map V.ref)) from ⟨?_,out,n',?_,o4⟩),rfl,q _ y t C es⟩
  .rw [lMq,C.length_eq];simpa using Y
  .rw [G];exact vn y
end
end Mr
namespace Mo
open PySem PyProof.Rows Mr
def Py:kO (.type "zip") "__len__" = pure none:=by rw[kT,kz];kernel_rfl
def Mb:kO (.type "zip") "__length_hint__" = pure none:=by rw[kT,kz];kernel_rfl
section
variable {prog:jC}{w:jF}{A:Around}{E:Ψ}{s:Shared}
def RF{z:Addr}{Q:Bool->Shared->Prop}(l:s.TypeIs (.ref z) "zip") (q:Q true s):jy (jA prog w) A (Builtin.List.listLengthHint (.ref z)) Q E s:=by
 unfold Builtin.List.listLengthHint specialOf;refine jx (jx (ki l ?_));rw[Py];refine jz ?_;show jy _ _ (do
  let n ← (do let t ←typeOf (.ref z);kO t (Str.ofString "__length_hint__"))
  _) _ _ _
 refine jx (jx (ki l ?_));rw[Mb];refine jz ?_;exact jz q
def Xg{z TI TO r t l1 l2 d:Addr}{k:Nat}{xs ys:Ω}{x y:Value}{Q:Υ->Shared->Prop}(D:kr z TI TO r t l1 l2) (hd:d<s.heap.objs.size) (S:P8 s.heap z TI TO r t l1 l2 d k xs ys) (M:xs[k]?=some x) (O:ys[k]?=some y)
  (P:∀h',P8 h' z TI TO r t l1 l2 d (k+1) xs ys->ky h' s.heap.objs.size x y->(∀c o,c≠z->c≠TO->c≠r->c≠t->s.heap.get? c=some o->h'.get? c=some o)->Q (some (.ref s.heap.objs.size)) { s with heap:=h' }) :
  jy (jA prog w) A (ke (.ref z)) Q E s:=by
 obtain⟨a,b,n⟩:=S.to;have zl:z<s.heap.objs.size:=by
  rcases S.f with h|⟨_,_,_,h,_⟩
  .exact ag h
  .exact ag h
 have B:r<s.heap.objs.size:=by obtain⟨_,q,_⟩:=S.h1;exact ag q
 have C:t<s.heap.objs.size:=by obtain⟨_,q,_⟩:=S.h2;exact ag q
 have G:TO<s.heap.objs.size:=ag n;rcases S.f with H|⟨T,f1,o,H,R,U,n2,X,Y,n5⟩
 .refine lO D H S.ti n S.h1 S.h2 S.l1 S.l2 M O λh' I a2 J L u a6 l=>P h' ⟨.inr ⟨_,_,_,I,u,aO zl,aO G,aO B,aO C,aO hd⟩,l _ _ D.TIz D.TITO D.TIi1 D.TIi2 S.ti,⟨_,_,a2⟩,J,L,S.l1.at λo q=>l _ _ D.l1z D.l1TO D.l1i1 D.l1i2 q,S.l2.at λo q=>l _ _ D.l2z D.l2TO D.l2i1 D.l2i2 q⟩ u l
 .have hT:=S.ty;unfold ke;refine jx (lH (lq (name:=Str.ofString "__next__") hT F.slot_zip_next (kN F.slot_zip_next hT F.entry_zip_next (Wf D H R S.ti S.h1 S.h2 S.l1 S.l2 M O λh' I J L u a6 l=>jz (P h' ?_ u λc o c1 _ c3 c4 q=>l c o c1 c3 c4 q)) (F.args_zip_next_1 _))))
  exact⟨.inr ⟨T,true,o,I,l _ _ U X Y R,U,n2,X,Y,n5⟩,l _ _ D.TIz D.TIi1 D.TIi2 S.ti,⟨a,b,l _ _ D.TOz D.TOi1 D.TOi2 n⟩,J,L,S.l1.at λo q=>l _ _ D.l1z D.l1i1 D.l1i2 q,S.l2.at λo q=>l _ _ D.l2z D.l2i1 D.l2i2 q⟩
def GQ:entryFor table "list.extend.loop" = some Builtin.«list.extend.loop»:=entryFor_of_tree (by kernel_rfl)
def AR:plainId "list.extend.loop" = true:=by decide +kernel
structure YA (h:Heap) (S z TO i1 i2:Addr) (us ws:Ξ) (Ts:Δ):Prop where
 nd:Ts.Nodup
 lt:∀T∈Ts,T<h.objs.size
 ne:∀T∈Ts,T≠z/\T≠TO/\T≠i1/\T≠i2/\T≠S
 pr:∀(i:Nat) (T:Addr) (u v:Value),Ts[i]?=some T->us[i]?=some u->ws[i]?=some v->ky h T u v
def YA.keep{h h':Heap}{S z TO n r:Addr}{us ws:Ξ}{l:Δ}(P:YA h S z TO n r us ws l) (l1:l.length<=us.length) (l2:l.length<=ws.length) (k:∀T∈l,∀o,h.get? T=some o->h'.get? T=some o):YA h' S z TO n r us ws l:=by
 refine⟨P.nd,λT t=>?_,P.ne,λi T u v x B C=>k T (mGq x) _ (P.pr i T u v x B C)⟩
 obtain⟨i,y⟩:=ak.mp t;have G:=(gSq.mp y).1;exact ag (k T t _ (P.pr i T _ _ y (gEg (by lia)) (gEg (by lia))))
variable {R:mI->Shared->Prop}{z TI TO i1 i2 l1 l2 S:Addr}{us ws:Ξ}{res:Value}
def Ul(hh:A.handled=none) (D:kr z TI TO i1 i2 l1 l2) (nd:∀c∈[z,TI,TO,i1,i2,l1,l2],c≠S) (hlen:us.length=ws.length) (hsz:us.length<=jD) :
  ∀(m j:Nat) (s:Shared) (n:Δ) (c:Nat),us.length-j=m->j<=us.length->n.length=j->P8 s.heap z TI TO i1 i2 l1 l2 S j us.toArray ws.toArray->s.heap.get? S=some (jE "list" (n.map aj).toArray c)->YA s.heap S z TO i1 i2 us ws n ->
   (∀h' (r:Δ) c',r.length=us.length->h'.get? S=some (jE "list" (r.map aj).toArray c')->YA h' S z TO i1 i2 us ws r->(∀T∈r,T∈n∨s.heap.objs.size<=T)->(∀b o,b≠z->b≠TO->b≠i1->b≠i2->b≠S->s.heap.get? b=some o->h'.get? b=some o)->R (.ok (.ret res)) { s with heap:=h' }) ->
   kF (jA prog w) A (.builtin "list.extend.loop" ⟨[.ref S,.ref z,res],[]⟩) R s:=by
 intro m
 induction m with
 |zero =>
  intro j s n c hm hj l St hS P M;have hjn:j=us.length:=by lia
  refine jL GQ ?_;rw[Around.under_plainId AR _];show jy _ A.in1 (ke (.ref z) >>= _) _ _ s;refine jx (V2 hh D St (by simp;lia) λh' kp=>?_)
  have t:=kp S _ (nd z (by simp)).symm (nd TO (by simp)).symm (nd i1 (by simp)).symm (nd i2 (by simp)).symm hS
  refine jz (M h' n c (by lia) t ?_ (λT h=>.inl h) (λb o b1 b2 b3 b4 _ e=>kp b o b1 b2 b3 b4 e))
  .exact P.keep (by lia) (by lia) λT l o e=>kp T o (P.ne T l).1 (P.ne T l).2.1 (P.ne T l).2.2.1 (P.ne T l).2.2.2.1 e
 |succ m ih =>
  intro j s n c hm hj l St hS P M;obtain⟨u,hu⟩:∃u,us[j]?=some u:=⟨_,gEg (by lia)⟩
  obtain⟨v,hv⟩:∃v,ws[j]?=some v:=⟨_,gEg (by lia)⟩
  refine jL GQ ?_;rw[Around.under_plainId AR _];show jy _ A.in1 (ke (.ref z) >>= _) _ _ s;have B:S<s.heap.objs.size:=ag hS;refine jx (Xg D B St (x:=u) (y:=v) (by simpa using hu) (by simpa using hv) λh' S' hP kp=>?_)
  have t:=kp S _ (nd z (by simp)).symm (nd TO (by simp)).symm (nd i1 (by simp)).symm (nd i2 (by simp)).symm hS
  have P':YA h' S z TO i1 i2 us ws n:=P.keep (by lia) (by lia) λT l o e=>kp T o (P.ne T l).1 (P.ne T l).2.1 (P.ne T l).2.2.1 (P.ne T l).2.2.2.1 e
  have zl:z<s.heap.objs.size:=by
   rcases St.f with h|⟨_,_,_,h,_⟩
   .exact ag h
   .exact ag h
  have O:i1<s.heap.objs.size:=by obtain⟨_,q,_⟩:=St.h1;exact ag q
  have Q:i2<s.heap.objs.size:=by obtain⟨_,q,_⟩:=St.h2;exact ag q
  have U:TO<s.heap.objs.size:=by obtain⟨_,_,q⟩:=St.to;exact ag q
  have lT:=ag hP;refine jx (jZ t rfl ?_ (hsz:=by rw[au,lMq];lia) (hsz2:=by rw[iX,au,lMq];lia))
  have H:gN S h' (h'.update S (Obj.mapSeq λx=>x.push (.ref s.heap.objs.size))):=λb o b1 e=>by rw[bP _ _ _ _ b1];exact e
  obtain⟨X,I⟩:∃X,(h'.update S (Obj.mapSeq λx=>x.push (.ref s.heap.objs.size))).get? S=some (jE "list" ((n++[s.heap.objs.size]).map aj).toArray X):=by
   have:=jW t (λx=>x.push (.ref s.heap.objs.size))
   have eq:(n.map aj).toArray.push (.ref s.heap.objs.size)=((n++[s.heap.objs.size]).map aj).toArray:=by rw[List.push_toArray,mBq];rfl
   rw[eq]at this;exact⟨_,this⟩
  have C:(h'.update S (Obj.mapSeq λx=>x.push (.ref s.heap.objs.size))).objs.size=h'.objs.size:=bO ..
  generalize h'.update S (Obj.mapSeq λx=>x.push (.ref s.heap.objs.size))=h2 at H I C
  refine jz ⟨jP AR _,ih (j+1) { s with heap:=h2 } (n++[s.heap.objs.size]) X (by lia) (by lia) (by rw[lAq,lSq,l]) (S'.keep nd H) I ?_ λh3 Y c3 a1 a2 a3 a4 a5=>?_⟩
  .have fr:s.heap.objs.size∉n:=λm=>cL _ (P.lt _ m)
   refine⟨nAq.mpr ⟨P.nd,by simp,λa ha b hb q=>fr (by rw[mSq.mp hb]at q;exact q ▸ ha)⟩,λT l=>?_,λT l=>?_,λi T u' v' G J L=>?_⟩
   .show T<h2.objs.size;rw[C];rcases mAq.mp l with q|q
    .exact P'.lt T q
    .rw [mSq.mp q];exact lT
   .rcases mAq.mp l with q|q
    .exact P.ne T q
    .rw [mSq.mp q];exact⟨aO zl,aO U,aO O,aO Q,aO B⟩
   .by_cases q:i<n.length
    .rw [gZq q]at G;exact H _ _ (P.ne T (mGq G)).2.2.2.2 (P'.pr i T u' v' G J L)
    .have hi:i=n.length:=by
      have:=(gSq.mp G).1;rw[lAq,lSq]at this;lia
     subst hi;rw[gYq (ab _),dr]at G;cases G;rw[l]at J L;rw[hu]at J;rw[hv]at L;cases J;cases L;exact H _ _ (aO B) hP
  .have sle:s.heap.objs.size<=h2.objs.size:=by rw[C];exact bH lT
   refine M h3 Y c3 a1 a2 a3 (λT l=>?_) (λb o b1 b2 b3 b4 b5 e=>a5 b o b1 b2 b3 b4 b5 (H b o b5 (kp b o b1 b2 b3 b4 e)))
   rcases a4 T l with q|q
   .rcases mAq.mp q with q|q
    .exact .inl q
    .rw [mSq.mp q];exact .inr (ab _)
   .exact .inr (bq sle q)
end
end Mo
namespace Mr
open PySem L2 PySem.Calls
open PySem.Spec PyProof.Rows
section
variable {X:Cx}
def Inv.laidS{x:Φ}{σ:St}{H l:Hp}{s:Shared}{h':Heap}{t':Nat}(I:Inv X x σ H s) (k:∀b u,s.heap.get? b=some u->h'.get? b=some u) (sm:pO H l)
  (new:∀b o,H b=none->l b=some o->s.heap.objs.size<=b/\qW X.prog X.w l h' b o):Inv X x σ l { s with heap:=h',toks:=t' }:=by
 refine I.un ⟨λb u q _ _ _=>k b u q,λb u q _ _ _=>⟨u.slots,k b u q⟩,λb u q n _=>?_,λb u q _=>⟨u,k b u q⟩,λb r q=>sm _ _ q,λb u r q=>sm _ _ q,λ_ _ q=>sm _ _ q⟩ λb o e=>?_
 .cases e:l b with
  |none=>rfl
  |some o=>exact absurd (ag q) (Nat.not_lt_of_le (new b o n e).1)
 .cases t:H b with
  |none=>exact(new b o t e).2
  |some z =>
   have y:=sm _ _ t;rw[e]at y;cases y;exact(I.hok b o t).stay (λc v _ q=>k c v q) (λc q=>sm _ _ q) (λc r q=>sm _ _ q) λc r q=>sm _ _ q
structure Prd (h h0:Heap) (Ts:Δ) (rs:Λ):Prop where
 len:Ts.length=rs.length
 nd:Ts.Nodup
 ge:∀T∈Ts,h.objs.size<=T
 tu:∀(i:Nat) (T:Addr) (r:Ϝ),Ts[i]?=some T->rs[i]?=some r->∃its,pS (r.map V.int) its/\IsTup h0 T its.toArray
 kp:∀b o,h.get? b=some o->h0.get? b=some o
 le:h.objs.size<=h0.objs.size
def BG(l:Δ) (rs:Λ) (T:Addr):Ϝ:=((l.zip rs).lookup T).getD []
theorem Ht:∀{l:Δ}{rs:Λ}{i:Nat}{T:Addr}{r:Ϝ},l.Nodup->l[i]?=some T->rs[i]?=some r->BG l rs T=r
 | [],_,_,_,_,_,h,_=>by cases h
 |_::_,[],_,_,_,_,_,h=>by cases h
 |a::l,b::rs,0,T,r,_,h1,h2=>by
  cases h1;cases h2;simp[BG]
 |a::l,b::rs,i+1,T,r,nd,h1,h2=>by
  have h1:l[i]?=some T:=by simpa using h1
  have h2:rs[i]?=some r:=by simpa using h2
  have ne:T≠a:=λz=>(az.mp nd).1 (z ▸ mGq h1)
  have:=Ht (az.mp nd).2 h1 h2;unfold BG at this ⊢;rw[cW,eJ,beq_false_of_ne ne];exact this
def Sn{n:Δ}{rs:Λ}(nd:n.Nodup) (l:n.length=rs.length):n.map (BG n rs)=rs:=by
 refine dh λi=>?_
 rw[gMq]
 by_cases c:i<n.length
 .rw [gEg c,gEg (l ▸ c)];exact congrArg some (Ht nd (gEg c) (gEg (l ▸ c)))
 .rw [bp (eF c),bp (by lia)]
  rfl
def Prd.at{h s:Heap}{n:Δ}{rs:Λ}(P:Prd h s n rs) {T:Addr}(u:T∈n):BG n rs T∈rs/\∃l,pS ((BG n rs T).map V.int) l/\IsTup s T l.toArray:=by
 obtain⟨i,r⟩:=ak.mp u;have t:=(gSq.mp r).1;have hr:rs[i]?=some (rs[i]'(P.len ▸ t)):=gEg (P.len ▸ t);rw[Ht P.nd r hr];exact⟨mGq hr,P.tu i T _ r hr⟩
end
end Mr
namespace Mr
open PySem PySem.Spec PyProof.Rows L2
def EI.same{H n:Hp}{ps:Δ}{rs:Λ}(h:EI H ps rs) (s:pO H n):EI n ps rs:=by
 have e:∀p∈ps,tZ n p=tZ H p:=λp l=>FD (s _ _ (h.2 p l))
 exact⟨by rw[h.1];exact mCq λp l=>(e p l).symm,λp l=>by rw[e p l];exact s _ _ (h.2 p l)⟩
end Mr
namespace Z
open PySem L2 Mr
abbrev uT(r:Ϝ):D:=.tup (r.map .int)
abbrev aP(m:Λ):AV:=.ow (m.map λr=>.sh (uT r))
def Up:List D->Option Λ
 | [.list as,.list bs]=>(qT as).bind λns=>(qT bs).bind λms=>if ns.length=ms.length then some (aR (λx y=>[x,y]) ns ms) else none
 |_=>none
def Pw{ns ms:Ϝ}(h:ns.length=ms.length):Up [.list (ns.map D.int),.list (ms.map D.int)]=some (aR (λx y=>[x,y]) ns ms):=by
 show ((qT (ns.map D.int)).bind λns=>(qT (ms.map D.int)).bind λms=>if ns.length=ms.length then some (aR (λx y=>[x,y]) ns ms) else none)=_
 rw[rd,rd];simp[h]
def kvI:List (pE×D)->Option (List (Int×Int))
 | []=>some []
 | (.inl k,.int v)::r=>(kvI r).map ((k,v) :: ·)
 |_=>none
section
variable {K:Ζ}{ta:TA}{te:TE}{m:ML}{b:ME}{H₀ Hf₀ Hf Hf1:Hp}{S':AS}{σ:St}{H H1:Hp}{Fs Fs1:List Δ}{rs:Λ}{Q:VK}
theorem Lh{l:Hp}:∀{n:Δ}{rs:Λ},n.map (tZ l)=rs->(∀q∈n,l q=some (.tup ((tZ l q).map V.int)))->pU K l (rs.map uT) (n.map V.ref)
 | [],_,rfl,_=>pU.nil
 |q::n,_,rfl,h=>pU.cons (qB.mk_tup (h q (ai ..)) (uN _)) (Lh rfl λp r=>h p (mCo _ r))
theorem EX{s:Hp}:∀{m:Λ}{vs:List V},pU K s (m.map uT) vs->∃l,vs=l.map V.ref/\EI s l m
 | [],vs,h=>⟨[],h.nil_inv,rfl,λp t=>by cases t⟩
 |r::m,vs,h=>by
  obtain⟨v,B,rfl,h1,h2⟩:=h.cons_inv;obtain⟨l,rfl,u,x⟩:=EX h2;obtain⟨p,C,rfl,n,g2⟩:=h1.tup_inv;rw[qo g2]at n;refine⟨p::l,rfl,by rw[ax,FD n,←u],λq y=>?_⟩
  rcases ah.mp y with z|z
  .rw [z,FD n];exact n
  .exact x q z
end
end Z
namespace Z
open PySem PySem.Spec PyProof.Rows L2 Mr
inductive D9:Nat->D->PyData->Prop
 |non {n}:D9 n .non .none
 |bl {n b}:D9 n (.bl b) (.bool b)
 |int {n i}:D9 n (.int i) (.int i)
 |str {n x} (h:PyData.canLay0 (.str x)=true):D9 n (.str x) (.str x)
 |list {n} {ds:List D}{ps:List PyData}(l:ds.length=ps.length) (e:∀(i:Nat) (d:D) (p:PyData),ds[i]?=some d->ps[i]?=some p->D9 n d p):D9 (n+1) (.list ds) (.list ps)
 |tup {n} {ds:List D}{ps:List PyData}(l:ds.length=ps.length) (e:∀(i:Nat) (d:D) (p:PyData),ds[i]?=some d->ps[i]?=some p->D9 n d p):D9 (n+1) (.tup ds) (.tuple ps)
def Dn{α:Type}{ds:List D}{ps:List α}(l:ds.length=ps.length) {p:α}(h:p∈ps):∃(i:Nat) (d:D),ds[i]?=some d/\ps[i]?=some p:=by
 obtain⟨i,n⟩:=ak.mp h;have hl:=(gSq.mp n).1;exact⟨i,_,gEg (l ▸ hl),n⟩
def Oj{ps:List PyData}(h:∀p∈ps,p.canLay0=true):PyData.canLayAll0 ps=true:=by
 induction ps with
 |nil=>rfl
 |cons p ps l=>rw[PyData.canLayAll0,h p (ai ..),l λq n=>h q (mCo _ n)];rfl
def Nb{ps:List PyData}(h:∀p∈ps,SeqAt.noMix p p=true):SeqAt.noMixAll ps ps=true:=by
 induction ps with
 |nil=>simp[SeqAt.noMixAll]
 |cons p ps l=>rw[SeqAt.noMixAll,h p (ai ..),l λq n=>h q (mCo _ n)];rfl
def J4{n:Nat}{ps:List PyData}(h:∀p∈ps,p.depth<=n):PyData.depthAll ps<=n:=by
 induction ps with
 |nil=>rw[PyData.depthAll];exact aE _
 |cons p ps l =>
  rw[PyData.depthAll];have:=h p (ai ..);have:=l λq r=>h q (mCo _ r)
  lia
def D9.lay{n:Nat}{d:D}{p:PyData}(h:D9 n d p):p.canLay0=true:=by
 induction h with
 |str h=>exact h
 |list l _ r=>rw[PyData.canLay0];exact Oj λp s=>let ⟨i,d,h1,h2⟩:=Dn l s;r i d p h1 h2
 |tup l _ r=>rw[PyData.canLay0];exact Oj λp s=>let ⟨i,d,h1,h2⟩:=Dn l s;r i d p h1 h2
 |_=>rfl
def D9.mix{n:Nat}{d:D}{p:PyData}(h:D9 n d p):SeqAt.noMix p p=true:=by
 induction h with
 |list l _ r=>rw[SeqAt.noMix];exact Nb λp s=>let ⟨i,d,h1,h2⟩:=Dn l s;r i d p h1 h2
 |tup l _ r=>rw[SeqAt.noMix];exact Nb λp s=>let ⟨i,d,h1,h2⟩:=Dn l s;r i d p h1 h2
 |_=>simp[SeqAt.noMix]
def D9.deep{n:Nat}{d:D}{p:PyData}(h:D9 n d p):p.depth<=n:=by
 induction h with
 |list l _ r=>rw[PyData.depth];exact fu (J4 λp s=>let ⟨i,d,h1,h2⟩:=Dn l s;r i d p h1 h2)
 |tup l _ r=>rw[PyData.depth];exact fu (J4 λp s=>let ⟨i,d,h1,h2⟩:=Dn l s;r i d p h1 h2)
 |_=>simp[PyData.depth]
theorem D9.shaped{n:Nat}{d:D}{p:PyData}(h:D9 n d p) (hn:n<=64):SeqAt.shaped p=true:=by
 show (PyData.canLay0 p && decide (PyData.depth p<=64))=true;rw[h.lay,decide_eq_true (bq h.deep hn)];rfl
end Z
namespace Mo
open PySem PySem.W PyProof.Rows Mr
section
variable {prog:jC}{w:jF}{A:Around}{E:Ψ}{s:Shared}{R:mI->Shared->Prop}{z TI TO i1 i2 l1 l2 S:Addr}{us ws:Ξ}{res:Value}{c0:Nat}
def VH(hh:A.handled=none) (D:kr z TI TO i1 i2 l1 l2) (I:IsZip s.heap z TI TO .none) (J:ky s.heap TI (.ref i1) (.ref i2)) (n:∃a b,ky s.heap TO a b) (h1:s.heap.IsListIter i1 l1 0) (h2:s.heap.IsListIter i2 l2 0) (L:s.heap.IsList l1 us.toArray) (M:s.heap.IsList l2 ws.toArray) (y:us.length=ws.length) (hsz:us.length<=jD)
  (B:s.heap.get? S=some (jE "list" #[] c0)) (lt:∀c∈[z,TI,TO,i1,i2,l1,l2],c≠S)
  (h:∀h' (r:Δ) C,r.length=us.length->h'.get? S=some (jE "list" (r.map aj).toArray C)->r.Nodup->(∀T∈r,s.heap.objs.size<=T)->(∀(i:Nat) (T:Addr) (u v:Value),r[i]?=some T->us[i]?=some u->ws[i]?=some v->ky h' T u v)->(∀b o,b≠z->b≠TO->b≠i1->b≠i2->b≠S->s.heap.get? b=some o->h'.get? b=some o)->R (.ok (.ret res)) { s with heap:=h' }) :
  jy (jA prog w) A.in1 (Builtin.List.listExtendWith (.ref S) (.ref z) res)
   (λfin G=>match fin with|.done f=>R (.ok f) G|.again C=>C.quiet=true/\kF (jA prog w) A C R G) (λe G=>R (.error e) G) s:=by
 have l:Shared.TypeIs s (.ref z) "zip" := ⟨_,I,rfl⟩;obtain⟨ta,tb,n⟩:=n;unfold Builtin.List.listExtendWith;refine jx (ki l ?_);rw[qh (by
  have:Builtin.List.listSameRef (.ref S) (.ref z)=false:=by
   show (S == z)=false;exact beq_eq_false_iff_ne.mpr (lt z (by simp)).symm
  rw[this];decide)]
 refine jx (lK I ?_);refine jx (jK (RF l ?_));rw[qd (by rfl)]
 refine jx (mw ?_);unfold Builtin.List.listTouch;refine jx (jx (jZ B rfl ?_));have O:=jW B (λx=>x.push fV)
 have P:gN S s.heap (s.heap.update S (Obj.mapSeq λx=>x.push fV)):=λb o b1 e=>by rw[bP _ _ _ _ b1];exact e
 have Q:(s.heap.update S (Obj.mapSeq λx=>x.push fV)).objs.size=s.heap.objs.size:=bO ..
 generalize s.heap.update S (Obj.mapSeq λx=>x.push fV)=H at O P Q
 refine jZ O rfl ?_;have g2:=jW O (λx=>x.pop)
 have U:gN S H (H.update S (Obj.mapSeq λx=>x.pop)):=λb o b1 e=>by rw[bP _ _ _ _ b1];exact e
 have X:(H.update S (Obj.mapSeq λx=>x.pop)).objs.size=s.heap.objs.size:=by rw[bO,Q]
 generalize H.update S (Obj.mapSeq λx=>x.pop)=G2 at g2 U X
 have kp:∀b o,b≠S->s.heap.get? b=some o->G2.get? b=some o:=λb o b1 e=>U b o b1 (P b o b1 e)
 have t:∀c∈[z,TI,TO,i1,i2,l1,l2],∀o,s.heap.get? c=some o->G2.get? c=some o:=λc hc o e=>kp c o (lt c hc) e
 refine jz ⟨jP AR _,Ul hh D lt y hsz us.length 0 { s with heap:=G2 } [] _ (fO _) (aE _) rfl ⟨.inl (t _ (by simp) _ I),t _ (by simp) _ J,⟨_,_,t _ (by simp) _ n⟩,h1.at λo e=>t _ (by simp) o e,h2.at λo e=>t _ (by simp) o e,L.at λo e=>t _ (by simp) o e,M.at λo e=>t _ (by simp) o e⟩ g2 ⟨aT,λT l=>(by cases l),λT l=>(by cases l),λi T u v e=>(by cases e)⟩ λh3 r c3 a1 a2 Y a4 a5=>?_⟩
 refine h h3 r c3 a1 a2 Y.nd (λT l=>?_) Y.pr λb o b1 b2 b3 b4 b5 e=>a5 b o b1 b2 b3 b4 b5 (kp b o b5 e)
 rcases a4 T l with q|q
 .cases q
 .have q:G2.objs.size<=T:=q;rw[X]at q;exact q
def L5{Q:Ψ}(hh:A.handled=none) (D:kr z TI TO i1 i2 l1 l2) (L:IsZip s.heap z TI TO .none) (C:ky s.heap TI (.ref i1) (.ref i2)) (r:∃a b,ky s.heap TO a b) (h1:s.heap.IsListIter i1 l1 0) (h2:s.heap.IsListIter i2 l2 0) (G:s.heap.IsList l1 us.toArray) (H:s.heap.IsList l2 ws.toArray) (y:us.length=ws.length) (hsz:us.length<=jD)
  (lt:∀c∈[z,TI,TO,i1,i2,l1,l2],c<s.heap.objs.size)
  (h:∀h' (t:Δ) I,t.length=us.length->h'.get? s.heap.objs.size=some (jE "list" (t.map aj).toArray I)->t.Nodup->(∀T∈t,s.heap.objs.size<T)->(∀(i:Nat) (T:Addr) (u v:Value),t[i]?=some T->us[i]?=some u->ws[i]?=some v->ky h' T u v)->(∀b o,b≠z->b≠TO->b≠i1->b≠i2->s.heap.get? b=some o->h'.get? b=some o)->Q (.ref s.heap.objs.size) { s with heap:=h' }) :
  jy (jA prog w) A (call (.type "list") [.ref z]) Q E s:=by
 refine nh (Q₁:=λobj n=>obj = .ref s.heap.objs.size/\n={ s with heap:=s.heap.push { cls:=.type "list", data:=.seq #[] } }) PySem.F.called_list (PySem.F.typeCall_list_1 _) PySem.F.entry_list_init
  (code_list_new _ ⟨rfl,rfl⟩) λobj n B=>?_
 obtain⟨rfl,rfl⟩:=B;have hS:(s.heap.push { cls:=.type "list", data:=.seq #[] }).get? s.heap.objs.size=some { cls:=.type "list", data:=.seq #[] }:=aC _ rfl;refine⟨⟨_,hS,rfl⟩,PySem.F.args_list_init_2 _ _,?_⟩;show jy _ _ (do let J ←Builtin.List.listItems (.ref s.heap.objs.size);Builtin.List.listUpdate (.ref s.heap.objs.size) (λ_=>#[]);letGo J.toList.reverse;Builtin.List.listExtendWith (.ref s.heap.objs.size) (.ref z) .none) _ _ _
 refine jx ?_;unfold Builtin.List.listItems;refine jx (jX hS rfl (jz ?_));show jy _ _ (mL s.heap.objs.size (λ_=>#[]) >>= λ_=>letGo (#[]:Ω).toList.reverse >>= λ_=>Builtin.List.listExtendWith (.ref s.heap.objs.size) (.ref z) .none) _ _ _
 refine jx (kB hS rfl ?_);have x:=fA (Obj.mapSeq (λ_=>(#[]:Ω))) hS rfl
 have l:∀b o,s.heap.get? b=some o->((s.heap.push { cls:=.type "list", data:=.seq #[] }).update s.heap.objs.size (Obj.mapSeq (λ_=>(#[]:Ω)))).get? b=some o :=
  λb o e=>(bF _ _ (aO (ag e))).trans (ae _ e)
 refine jx (ku ?_);obtain⟨ta,tb,r⟩:=r;have zs:((s.heap.push { cls:=.type "list", data:=.seq #[] }).update s.heap.objs.size (Obj.mapSeq (λ_=>(#[]:Ω)))).objs.size=s.heap.objs.size+1:=by rw[bO,lj]
 refine VH (A:=A.in1) (s:={ s with heap:=(s.heap.push { cls:=.type "list", data:=.seq #[] }).update s.heap.objs.size (Obj.mapSeq (λ_=>(#[]:Ω))) }) hh D (l _ _ L) (l _ _ C) ⟨_,_,l _ _ r⟩ (h1.at λo e=>l _ o e) (h2.at λo e=>l _ o e) (G.at λo e=>l _ o e) (H.at λo e=>l _ o e) y hsz x (λc M=>ao (lt c M)) λh' t I O P U X Y a6=>?_
 refine⟨rfl,h h' t I O P U (λT hT=>?_) Y λb o b1 b2 b3 b4 e=>a6 b o b1 b2 b3 b4 (ao (ag e)) (l b o e)⟩
 have:=X T hT;have this:((s.heap.push { cls:=.type "list", data:=.seq #[] }).update s.heap.objs.size (Obj.mapSeq (λ_=>(#[]:Ω)))).objs.size<=T:=this
 lia
end
end Mo
namespace Mr
open PySem L2 PySem.Calls
open PySem.Spec PyProof.Rows
section
variable {X:Cx}
def Lzd(H:Hp) (rs:Λ) (Q:VK):Prop:=∀(l:Hp) (p:Addr) (n:Δ),pO H l->H p=none->p∉n->(∀q∈n,H q=none)->n.Nodup->l p=some (.lst (n.map V.ref))->(∀q∈n,l q=some (.tup ((tZ l q).map V.int)))->n.map (tZ l)=rs->Q (.ref p) l
def Sa{G:Φ}{σ:St}{H:Hp}{s:Shared}{h':Heap}{rs:Λ}{Q:VK}{p:Addr}{c t':Nat}{l:Δ}(I:Inv X G σ H s) (P:Prd s.heap h' l rs) (B:∀r∈rs,r.length<=jD) (S:rs.length<=jD) (x:s.heap.objs.size<=p) (J:∀T∈l,T≠p) (U:h'.get? p=some (jE "list" (l.map aj).toArray c)) (q:Lzd H rs Q) :
  EP X G σ Q (.ref p) { s with heap:=h',toks:=t' }:=by
 have fr:∀T∈l,H T=none:=λT t=>I.hok.fresh (P.ge T t)
 have y:H p=none:=I.hok.fresh x;have h2:∀T∈l,(λb=>if b=p then some (HO.lst (l.map V.ref)) else if b∈l then some (HO.tup ((BG l rs b).map V.int)) else H b:Hp) T=some (.tup ((BG l rs T).map V.int)):=λT t=>by
  show (if T=p then _ else _)=_
  rw[qh (J T t),qd t]
 have L:(λb=>if b=p then some (HO.lst (l.map V.ref)) else if b∈l then some (HO.tup ((BG l rs b).map V.int)) else H b:Hp) p=some (.lst (l.map V.ref)):=qd rfl
 have C:pO H (λb=>if b=p then some (HO.lst (l.map V.ref)) else if b∈l then some (HO.tup ((BG l rs b).map V.int)) else H b:Hp):=λb o e=>by
  have Y:b≠p:=λz=>by rw[z,y]at e;cases e
  have n2:b∉l:=λz=>by rw[fr b z]at e;cases e
  show (if b=p then _ else _)=_
  rw[qh Y,qh n2];exact e
 have M:∀b o,H b=none->(λb=>if b=p then some (HO.lst (l.map V.ref)) else if b∈l then some (HO.tup ((BG l rs b).map V.int)) else H b:Hp) b=some o->(b=p/\o = .lst (l.map V.ref))∨(b∈l/\o = .tup ((BG l rs b).map V.int)):=λb o n e=>by
  have e:(if b=p then some (HO.lst (l.map V.ref)) else if b∈l then some (HO.tup ((BG l rs b).map V.int)) else H b)=some o:=e
  split at e
  .rename_i z;cases e;exact .inl ⟨z,rfl⟩
  .split at e
   .rename_i z;cases e;exact .inr ⟨z,rfl⟩
   .rw [n]at e;cases e
 generalize (λb=>if b=p then some (HO.lst (l.map V.ref)) else if b∈l then some (HO.tup ((BG l rs b).map V.int)) else H b:Hp)=H' at h2 L C M
 have O:∀T∈l,tZ H' T=BG l rs T:=λT t=>FD (h2 T t)
 refine⟨.ref p,H',Inv.laidS I (λb u e=>P.kp b u e) C λb o n e=>?_,rfl,q H' p l C y (λm=>J p m rfl) fr P.nd L (λT t=>by rw[O T t];exact h2 T t) ?_⟩
 .rcases M b o n e with ⟨rfl,rfl⟩|⟨R,rfl⟩
  .exact ⟨x,by rw[lMq,P.len];exact S,_,c,vn l,U⟩
  .obtain ⟨m1,E,rv,ob,e1,sA⟩:=P.at R;exact⟨P.ge b R,by rw[lMq];exact B _ m1,E,rv,ob,e1,sA⟩
 .rw [mCq λT t=>O T t]
  exact Sn P.nd P.len
def rLZ(K:Ζ) (xs:List V) (H:Hp) (Q:VK):Prop:=∃(a b:Addr) (ns ms:Ϝ),xs=[.ref a,.ref b]/\rN K H a (ns.map V.int)/\rN K H b (ms.map V.int)/\ns.length=ms.length/\Lzd H (aR (λx y=>[x,y]) ns ms) Q
def UR{e f:Expr}{ta:TA}{p0 p t pos:Pos}(B:X.calm=true) (gl:Gl X "list") (ml:X.mg "list" = none) (hg:Gl X "zip") (hm:X.mg "zip" = none) (ha:PA X [e,f] ta)
  (he:jH [.Call (.Name "zip" p) [e,f] [] pos] X.env=(false,eval (.Call (.Name "zip" p) [e,f] [] pos) X.env)::jH [] X.env:=by rfl) (hs:jH [e,f] X.env=[(false,eval e X.env),(false,eval f X.env)]:=by rfl) (z:jH [f] X.env=[(false,eval f X.env)]:=by rfl) :
  PE X (.Call (.Name "list" p0) [.Call (.Name "zip" p) [e,f] [] pos] [] t) (JL (rLZ X.K) ta):=by
 intro og s σ H Q I h;refine ka (vt I gl ml boot_list ?_ (by decide) (by decide))
 refine bb ?_ he (by rfl)
 rw[he];show jy _ _ (spliced ((false,eval (.Call (.Name "zip" p) [e,f] [] pos) X.env)::kx t (jH [] X.env))) _ _ s;refine Calls.spliced_cons ?_;refine Call_ (vt I hg hm boot_zip (bb (sV (ha pos og s σ H _ I h) λus l M=>?_) (by rw[hs,z]) (by rw[z];rfl)))
 obtain⟨vs,H1,C,O,q1⟩:=M;obtain⟨a,b,R,ms,S,U,Y,hl,q⟩:=q1;subst S;obtain⟨u,v,rfl,ru,rv⟩:=Ni O;cases ru;cases rv;obtain⟨its1,v1,p1,z1⟩:=C.list U;obtain⟨its2,v2,p2,z2⟩:=C.list Y;have n1:=v1.length;have n2:=v2.length;rw[lMq]at n1 n2 z1;have al:a<l.heap.objs.size:=let ⟨_,ho,_⟩:=p1.isList;ag ho
 have bl:b<l.heap.objs.size:=let ⟨_,ho,_⟩:=p2.isList;ag ho
 refine call_zip_2 p1.isList p2.isList λg hz hTI hTO h1 h2 hsz hk=>Calls.spliced_nil ?_
 have D:kr (l.heap.objs.size+4) (l.heap.objs.size+2) (l.heap.objs.size+3) l.heap.objs.size (l.heap.objs.size+1) a b:=zipApart_new al bl;have n:g.objs.size=l.heap.objs.size+5:=hsz;have lz:(aR (λx y=>[x,y]) R ms).length=R.length:=by rw[eO];lia
 refine Mo.L5 (s:={ l with heap:=g }) (C.ok.hd B) D hz hTI ⟨_,_,hTO⟩ h1 h2 (p1.isList.at λo e=>hk _ o e) (p2.isList.at λo e=>hk _ o e) (by lia) (by lia) (λc B=>?_) λh' Ts c' a1 E a3 G a5 a6=>?_
 .show c<g.objs.size;simp only[ah,bB,or_false]at B;rw[n];rcases B with rfl|rfl|rfl|rfl|rfl|rfl|rfl
  .exact eS (by decide) _
  .exact eS (by decide) _
  .exact eS (by decide) _
  .exact Nat.lt_add_of_pos_right (by decide)
  .exact eS (by decide) _
  .exact cB 5 al
  .exact cB 5 bl
 .have G:∀T∈Ts,g.objs.size<T:=G;have E:h'.get? g.objs.size=some (jE "list" (Ts.map aj).toArray c'):=E;have P:Prd l.heap h' Ts (aR (λx y=>[x,y]) R ms):=by
   refine⟨by lia,a3,λT hT=>by have:=G T hT;lia,λi T r S J=>?_,λb o e=>?_,bH (ij (by rw[n];exact cO _ _) (ag E))⟩
   .rw [bR]at J;split at J
    .rename_i x y ex ey;cases J;obtain⟨u1,g1,O⟩:=v1.get (i:=i) (x:=.int x) (by rw[gMq,ex];rfl)
     obtain⟨u2,g2,r2⟩:=v2.get (i:=i) (x:=.int y) (by rw[gMq,ey];rfl)
     exact⟨[u1,u2],.cons O (.cons r2 .nil),_,a5 i T u1 u2 S g1 g2,rfl,_,rfl⟩
    .cases J
   .have lt:b<l.heap.objs.size:=ag e;exact a6 b o (ao (cB 4 lt)) (ao (cB 3 lt)) (ao lt) (ao (cB 1 lt)) (hk b o e)
  refine Sa (s:=l) (t':=l.toks) C P (λr hr=>?_) (by rw[lz];exact z1) (by show l.heap.objs.size<=g.objs.size;rw[n];exact cO _ _) (λT hT=>aO (G T hT)) E q
  obtain⟨i,L⟩:=ak.mp hr;rw[bR]at L;split at L
  .cases L;rw[jN];simp
  .cases L
end
end Mr
namespace Z
open PySem L2 Mr
def kLZ(m:ML):MK:=λS=>(m S).bind λx=>(Up x.1).map λrs=>(aP rs,x.2)
def aat(m:ML) (S:AS):kLZ m S=(m S).bind λx=>(Up x.1).map λrs=>(aP rs,x.2):=rfl
def CN(l:ML):MK:=λS=>(l S).bind λx=>(xK x.1).bind λrs=>uR ((∀r∈rs,r≠[])/\rs.length<64) (some (aP (Do rs),x.2))
def HV(l:ML) (S:AS):CN l S=(l S).bind λx=>(xK x.1).bind λrs=>uR ((∀r∈rs,r≠[])/\rs.length<64) (some (aP (Do rs),x.2)):=rfl
section
variable {K:Ζ}{ta:TA}{te:TE}{m l:ML}{H₀ Hf₀ Hf Hf1:Hp}{S':AS}{σ:St}{H H1:Hp}{Fs Fs1:List Δ}{rs:Λ}{Q:VK}
def W0(B:qe K H₀ Hf₀ Hf1 S' σ H1 Fs1) (C:yM Hf H Fs Hf1 H1 Fs1)
  (q:∀x t y v F,yM Hf H Fs x t y->qe K H₀ Hf₀ x S' σ t y->pY K x t (aP (rs)) v F->xS H₀ H Fs y F->Q v t):Lzd H1 rs Q:=by
 intro t p u sm J I G nd h1 h2 M;have n:∀z∈u,Hf1 z=none:=λz s=>B.sub.free (G z s)
 have O:=(B.laid sm).frz (F:=u) (λz s=>⟨B.fr.free (G z s),λm=>(B.mem m).1 (G z s)⟩) n
 have E:∀z∈u,Z.frz Hf1 t u z=t z:=λz s=>BI s
 have L:∀z∈u,tZ (Z.frz Hf1 t u) z=tZ t z:=λz s=>by unfold tZ;rw[E z s]
 have P:(rs).map (λr=>AV.sh (uT r))=((rs).map uT).map AV.sh:=by rw[mPq];rfl
 refine q (Z.frz Hf1 t u) t Fs1 (.ref p) [p] ⟨C.sf.trans (tx n),C.sh.trans sm,C.own,λb h g=>?_⟩ O ?_ ((xS.one B J).back C)
 .by_cases m:b∈u
  .exact .inl (C.sh.free (G b m))
  .rw [uC m]at g;exact C.gr b h g
 .show pY K _ t (.ow ((rs).map λr=>AV.sh (uT r))) (.ref p) [p]
  rw[P];refine pY.new h1 (by rw[uC I];exact B.sub.free J) (Lh ?_ λz s=>?_)
  .rw [←M];exact mCq λz s=>L z s
  .rw [L z s,E z s];exact h2 z s
def Vl(B:Tu K ta m):SK K (JL (rLZ K) ta) (kLZ m):=by
 intro H₀ Hf₀ Hf S σ H Fs av S' R e Q q;obtain⟨x,C,e⟩:=oBq.mp e;obtain⟨rs,s,e⟩:=oMq.mp e;cases e;refine B R (ds:=x.1) (S':=x.2) C _ λHf1 H1 Fs1 vs E G z=>?_
 have sh:∃n r,x.1=[.list (n.map D.int),.list (r.map D.int)]/\n.length=r.length/\rs=aR (λx y=>[x,y]) n r:=by
  unfold Up at s;split at s
  .rename_i as bs t;obtain⟨n,f1,f2⟩:=oBq.mp s;obtain⟨r,I,u⟩:=oBq.mp f2;split at u
   .rename_i hl;cases u;exact⟨n,r,by rw[t,uo f1,uo I],hl,rfl⟩
   .cases u
  .cases s
 obtain⟨n,r,t,hl,rfl⟩:=sh;rw[t]at z;obtain⟨va,w1,rfl,J,L⟩:=z.cons_inv;obtain⟨vb,w2,rfl,M,O⟩:=L.cons_inv;have:=O.nil_inv;subst this;obtain⟨a,P,rfl,U,g2⟩:=J.list_inv;obtain⟨b,X,rfl,Y,g4⟩:=M.list_inv;have u1:=qo g2;have u2:=qo g4;subst u1;subst u2;exact⟨a,b,n,r,rfl,rN.of U,rN.of Y,hl,W0 G E q⟩
def FH(hl:SQ K te l):SK K (JL (λxs H Q=>∃(a:Addr) (ps:Δ) (rs:Λ),xs=[.ref a]/\ps.length<64/\rN K H a (ps.map V.ref)/\EI H ps rs/\(∀r∈rs,r≠[]) /\
  ∀(p:Addr) (t:Δ),H p=none->t.Perm ps->t.map (tZ H)=Do rs->Q (.ref p) (qP H p (.lst (t.map V.ref)))) (sW te wk)) (CN l):=by
 intro H₀ Hf₀ Hf S σ H Fs av S' R e Q q;obtain⟨x,U,e⟩:=oBq.mp e;obtain⟨u,X,e⟩:=oBq.mp e;rcases pM e with ⟨⟨G,y⟩,e⟩|e
 .cases e;refine hl R (ds:=x.1) (S':=x.2) U _ λHf1 H1 Fs1 Y vs1 L B h1 M=>?_
  rw[yU X]at M;obtain⟨ps,rfl,C⟩:=EX (m:=u) M;have I:=C.same B.sub;refine⟨Y,ps,u,rfl,by rw[C.1,lMq]at y;exact y,h1,I,G,λp t O P es=>?_⟩
  obtain⟨t4,R4,n1,n2,n3⟩:=B.new (o:=.lst (t.map V.ref)) O;have same:∀b∈t,tZ H1 b=tZ Hf1 b:=λb J=>FD (B.sub _ _ (C.2 b (P.mem_iff.mp J)))
  have e3:(Do u).map (λr=>AV.sh (uT r))=((Do u).map uT).map AV.sh:=by rw[mPq];rfl
  have q:∀n E s v F,yM Hf H Fs n E s->qe K H₀ Hf₀ n x.2 σ E s->pY K n E (.ow ((Do u).map λr=>AV.sh (uT r))) v F->xS H₀ H Fs s F->Q v E:=q
  rw[e3]at q;refine q _ _ _ (.ref p) [p] (L.trans t4) R4 (pY.new oX n1 (Lh ?_ λz hz=>C.2 z (P.mem_iff.mp hz))) ((xS.one B O).back L)
  rw[←es];exact mCq λb J=>(same b J).symm
 .cases e
end
end Z
namespace Mo
open PySem PyProof.Rows Mr
def MB:kO (.type "list") "keys" = pure none:=by rw[kT,kz];kernel_rfl
section
variable {prog:jC}{w:jF}{A:Around}{E:Ψ}{s:Shared}
def Rg{l:Addr}{xs:Ω}{k:Nat}{sl:Array Υ}{u:Tok}{Q:Ψ}(t:s.heap.get? l=some { cls:=.type "list", dict:=none,data:=.seq xs k,slots:=sl }) (y:A.handled=none)
  (h:∀h' tk e,jk s.heap h' e "AttributeError" -> E (.ref e) { s with heap:=h',toks:=tk }):jy (jA prog w) A (nT (.ref l) (.str "keys" u) false) Q E s:=by
 obtain⟨z,g,d,tk,os⟩:=s;have x:∀n,(⟨z,g,d,n,os⟩:Shared).TypeIs (.ref l) "list" := λ_=>⟨_,t,rfl⟩
 have f1:=kW;have B:=F.slot_list_getattribute.lookup;have C:=F.slot_list_getattribute.bind (.ref l);have G:=am_list_getattr_none;unfold nT
 repeat (any_goals (first|assumption|exact x _|((with_reducible show jy _ _ (call (jm "list.__getattribute__") _ _) _ _ _);refine kP F.slot_list_getattribute (x _) am_entry_list_getattribute (F.args_list_getattribute_2 _ _) (meets_getattribute_miss_list l xs k sl "keys" _ MB (by decide +kernel)) ⟨t,y,λh' n e r=>?_⟩)|wp_step))
 obtain⟨H,I,J⟩:=r.there;show jy _ _ (kX _ _ _ _ _ _ _) _ _ _;unfold kX
 repeat (any_goals (first|assumption|wp_step))
 exact h _ _ _ r.of
def Sj{l:Addr}{xs:Ω}{Q:Υ->Shared->Prop}(u:PlainL s.heap l xs) (C:A.handled=none)
  (h:∀h' tk,(∀b o,s.heap.get? b=some o->h'.get? b=some o)->Q none { s with heap:=h',toks:=tk }):jy (jA prog w) A (getAttr? (.ref l) "keys") Q E s:=by
 obtain⟨⟨c,x,y,z⟩,k,u,r,hd,n⟩:=u;simp only at r n hd;subst r n hd;unfold getAttr? getAttrBy?;obtain⟨G,g,d,tk,os⟩:=s;have f1:=kW
 repeat (any_goals (first|assumption|(with_reducible refine Rg (xs:=xs) (k:=k) (sl:=z) ?_ ?_ ?_)|wp_step))
 intro h' t e q;obtain⟨o,k,B,r,_⟩:=q.there;refine jx (mF (T := "AttributeError") (b:=true) ⟨_,B,r⟩ f1 ?_);exact jz (h h' t q.keeps)
end
section
variable {prog:jC}{w:jF}{A:Around}{E:Ψ}{s:Shared}{K:Type} [DecidableEq K] {knd:KeyKind prog w K}{R:mI->Shared->Prop}{I l d:Addr}{qs:Δ}{us ws:Ξ}{ks:List K}
def Uh(hh:A.handled=none) (nI:l≠I) (nd:I≠d) (ld:l≠d) (hq:∀q∈qs,q≠I/\q≠d) (hk:∀(j:Nat) (u:Value),us[j]?=some u->∃k,ks[j]?=some k/\knd.is k u=true) (L:us.length=qs.length) (hlen:us.length=ws.length) (hsz:us.length<=jD) :
  ∀(m j:Nat) (i:Int) (s:Shared),us.length-j=m->j<=us.length->s.heap.IsListIter I l j/\s.heap.IsList l (qs.map aj).toArray->(∀(j:Nat) (q:Addr) (u v:Value),qs[j]?=some q->us[j]?=some u->ws[j]?=some v->s.heap.IsTuple q #[u,v])->s.heap.DictOf knd d (fz ks ws j) ->
   (∀h' tk,h'.DictOf knd d (fz ks ws us.length)->(∀b o,b≠I->b≠d->s.heap.get? b=some o->h'.get? b=some o)->R (.ok (.ret .none)) { s with heap:=h',toks:=tk }) ->
   kF (jA prog w) A (.builtin "dict.update.loop" ⟨[.ref d,.ref I,.int i 0,.none],[]⟩) R s:=by
 have W:=Walks.list (prog:=prog) (w:=w) (A:=A.in1) hh I l nI (qs.map aj).toArray;have vl:(qs.map aj).toArray.size=us.length:=by simp[L]
 intro m
 induction m with
 |zero =>
  intro j i s hm hj S tp dd M;have B:j=us.length:=by lia
  refine jL AO ?_;rw[Around.under_plainId uP _];show jy _ A.in1 (ke (.ref I) >>= _) _ _ s;refine jx (W.done _ _ _ (by rw[vl,←B];exact S) λh' t kp=>?_)
  show jy _ A.in1 (Builtin.Dict.addKeywords d [] >>= _) _ _ _;refine jx (jz (jz (M h' t ?_ λb o b1 _ e=>kp b o (by simpa using b1) e)))
  subst B;obtain⟨o,O,P,x,r⟩:=dd;exact⟨o,O,P,kp d o (by simpa using nd.symm) x,r⟩
 |succ m ih =>
  intro j i s hm hj S tp dd M;obtain⟨u,hu⟩:∃u,us[j]?=some u:=⟨_,gEg (by lia)⟩
  obtain⟨v,hv⟩:∃v,ws[j]?=some v:=⟨_,gEg (by lia)⟩
  obtain⟨q,C⟩:∃q,qs[j]?=some q:=⟨_,gEg (by lia)⟩
  obtain⟨k,Q,U⟩:=hk j u hu;refine jL AO ?_;rw[Around.under_plainId uP _];show jy _ A.in1 (ke (.ref I) >>= _) _ _ s;refine jx (W.item j _ _ _ (by lia) S λz h' t hP S' kp=>?_)
  have ez:z = .ref q:=by
   have:(qs.map aj)[j]?=some z:=by simpa using hP
   rw[gMq,C]at this;exact(aN.inj this).symm
  subst ez;have y:∀b o,b≠I->s.heap.get? b=some o->h'.get? b=some o:=λb o b1 e=>kp b o (by simpa using b1) e
  have X:h'.DictOf knd d (fz ks ws j):=by
   obtain⟨o,O,P,x,r⟩:=dd;exact⟨o,O,P,y d o nd.symm x,r⟩
  have G:∀(j:Nat) (q:Addr) (u v:Value),qs[j]?=some q->us[j]?=some u->ws[j]?=some v->h'.IsTuple q #[u,v]:=λj q u v a b c=>by
   obtain⟨o,x,sA⟩:=tp j q u v a b c;exact⟨o,y q o (hq q (mGq a)).1 x,sA⟩
  refine jx (jK ?_);obtain⟨o,hT,hc,n,Y⟩:=G j q u v C hu hv;have tT:Shared.TypeIs { s with heap:=h',toks:=t } (.ref q) "tuple" := ⟨_,hT,hc⟩
  refine jx (jU ?_);unfold Builtin.Dict.pairItems;refine jx (ki tT ?_);rw[qd (by decide)]
  refine jx (jX hT Y ?_);refine jz ?_;refine jK ?_;refine nN (hsz:=by have:=SD ks ws j;lia) U X λh2 H J=>?_
  rw[←Om Q hv]at H;refine jz ⟨jP uP _,ih (j+1) (i+1) _ (by lia) (by lia) ⟨S'.1.at λo e=>J.extBut I o nd e,S'.2.at λo e=>J.extBut l o ld e⟩ (λj q u v a b c=>?_) H λh3 tk3 dd3 kp3=>?_⟩
  .obtain ⟨o,x,sA⟩:=G j q u v a b c;exact⟨o,J.extBut q o (hq q (mGq a)).2 x,sA⟩
  .exact M h3 tk3 dd3 λb o b1 b5 e=>kp3 b o b1 b5 (J.extBut b o b5 (y b o b1 e))
def UO{Q:Ψ}(hh:A.handled=none) (hl:PlainL s.heap l (qs.map aj).toArray) (Y:∀(j:Nat) (q:Addr) (u v:Value),qs[j]?=some q->us[j]?=some u->ws[j]?=some v->s.heap.IsTuple q #[u,v])
  (hk:∀(j:Nat) (u:Value),us[j]?=some u->∃k,ks[j]?=some k/\knd.is k u=true) (O:us.length=qs.length) (H:us.length=ws.length) (hsz:us.length<=jD)
  (h:∀h' tk,h'.DictOf knd s.heap.objs.size (fz ks ws us.length)->(∀b o,s.heap.get? b=some o->h'.get? b=some o)->Q (.ref s.heap.objs.size) { s with heap:=h',toks:=tk }) :
  jy (jA prog w) A (call (.type "dict") [.ref l]) Q E s:=by
 refine nh (Q₁:=λobj B=>obj = .ref s.heap.objs.size/\B={ s with heap:=s.heap.push { cls:=.type "dict", data:=.dict #[] } }) F.kt_called_dict (F.kt_typeCall_dict_1 _) F.entry_dict_init (kt_code_dict_new _ ⟨rfl,rfl⟩) ?_
 rintro obj B ⟨rfl,rfl⟩;have t:(s.heap.push { cls:=.type "dict", data:=.dict #[] }).DictOf knd s.heap.objs.size []:=iF.new s.heap;refine⟨t.typeIs,F.args_dict_init_2 _ _,?_⟩;have up:∀b o,s.heap.get? b=some o->(s.heap.push { cls:=.type "dict", data:=.dict #[] }).get? b=some o:=λb o e=>ae _ e
 have J:l<s.heap.objs.size:=hl.lt;have hT:Shared.TypeIs { s with heap:=s.heap.push { cls:=.type "dict", data:=.dict #[] } } (.ref l) "list" := by
  obtain⟨o,n,x,hc,_⟩:=hl;exact⟨_,up _ _ x,hc⟩
 unfold Builtin.«dict.__init__»;refine jx ?_;unfold Builtin.Dict.selfAndRest;refine jx (mU t.typeIs ?_);show jy _ _ (pure (s.heap.objs.size,[aj l])) _ _ _;refine jz ?_;show jy _ _ (Builtin.Dict.updateFrom "dict.__init__" s.heap.objs.size (.ref l) [] .none) _ _ _;unfold Builtin.Dict.updateFrom;refine jx (ki hT ?_);rw[qd (by decide)]
 refine jx (Sj (hl.keeps up) (by simp[hh]) λG tk3 C=>?_)
 rw[qd (by rfl)]
 refine jx (mw ?_);have kp:∀b o,s.heap.get? b=some o->G.get? b=some o:=λb o e=>C b o (up b o e)
 have L:G.IsList l (qs.map aj).toArray:=(hl.keeps kp).isList;have y:s.heap.objs.size<G.objs.size:=by
  obtain⟨o,es,ep,x,r⟩:=t;exact ag (C _ _ x)
 refine jx (lx L ?_);have z:∀b o,G.get? b=some o->(G.push { cls:=.type "list_iterator", data:=.fields #[.ref l,.int 0 0] }).get? b=some o:=λb o e=>ae _ e
 have P:(G.push { cls:=.type "list_iterator", data:=.fields #[.ref l,.int 0 0] }).DictOf knd s.heap.objs.size (fz ks ws 0):=by
  obtain⟨o,es,ep,x,r⟩:=t;exact⟨o,es,ep,z _ _ (C _ _ x),r⟩
 have tl:∀q∈qs,q<s.heap.objs.size:=λq M=>by
  obtain⟨j,hj⟩:=ak.mp M;have jl:=(gSq.mp hj).1;obtain⟨o,x,_⟩:=Y j q _ _ hj (gEg (by lia:j<us.length)) (gEg (by lia:j<ws.length))
  exact ag x
 refine jz ⟨jP uP _,Uh (by simp[hh]) (ao (gB J y)) (aO y) (ao J) (λq M=>⟨ao (gB (tl q M) y),ao (tl q M)⟩) hk O H hsz us.length 0 0 _ (fO _) (aE _) ⟨⟨_,aC _ rfl,rfl,rfl⟩,L.at λo e=>z _ o e⟩ (λj q u v a b c=>?_) P λh4 S U X=>⟨rfl,h h4 S U λb o e=>?_⟩⟩
 .obtain ⟨o,x,sA⟩:=Y j q u v a b c;exact⟨o,z _ _ (kp _ _ x),sA⟩
 .have lt:=ag e;exact X b o (ao (gB lt y)) (ao lt) (z _ _ (kp _ _ e))
end
end Mo
namespace Mr
open PySem PySem.W PySem.Spec PyProof.Rows L2 Mo
section
variable {X:Cx}
def rDP(K:Ζ) (xs:List V) (H:Hp) (Q:VK):Prop:=∃(a:Addr) (ps:Δ) (ns ms:Ϝ),xs=[.ref a]/\rN K H a (ps.map V.ref)/\EI H ps (aR (λx y=>[x,y]) ns ms)/\ns.length=ms.length/\∀l,H l=none->Q (.ref l) (qP H l (.dK (fv ns ms)))
def YV{e:Expr}{ta:TA}{p0 B:Pos}(hc:X.calm=true) (gl:Gl X "dict") (ml:X.mg "dict" = none) (ha:PA X [e] ta)
  (he:jH [e] X.env=(false,eval e X.env)::jH [] X.env:=by rfl) :
  PE X (.Call (.Name "dict" p0) [e] [] B) (JL (rDP X.K) ta):=by
 intro og s σ H Q I h;refine Call_ (vt I gl ml boot_dict (bb (sV (ha B og s σ H _ I h) λr Y hz1=>?_) he (by rfl)) (by decide) (by decide))
 obtain⟨vs,H1,E,r1,q1⟩:=hz1;obtain⟨a,ps,l,z,e1,hq1,⟨L,hE2⟩,hl,q⟩:=q1;subst e1;obtain⟨u,rfl,M⟩:=xo r1;cases M;obtain⟨its,rv,pl,hz⟩:=E.list hq1;have ei:=uj rv;subst ei;have lp:ps.length=l.length:=by
  have:=congrArg aZ L;rw[eO,lMq]at this;lia
 have at_:∀(j:Nat) (q:Addr) (n m:Int),ps[j]?=some q->l[j]?=some n->z[j]?=some m->tZ H1 q=[n,m]:=λj q n m a b c=>by
  have:=congrArg (·[j]?) L;simp only[bR,gMq,a,b,c,dg]at this;exact(aN.inj this).symm
 obtain⟨r,y,vu,vw,hus⟩:∃r y:Ξ,pS (l.map V.int) r/\pS (z.map V.int) y/\∀(j:Nat) (q:Addr) (u v:Value),ps[j]?=some q->r[j]?=some u->y[j]?=some v->Y.heap.IsTuple q #[u,v]:=by
  have key:∀k,k<=ps.length->∃r y:Ξ,pS ((l.take k).map V.int) r/\pS ((z.take k).map V.int) y/\∀(j:Nat) (q:Addr) (u v:Value),ps[j]?=some q->r[j]?=some u->y[j]?=some v->Y.heap.IsTuple q #[u,v]:=by
   intro k
   induction k with
   |zero=>exact λ_=>⟨[],[],.nil,.nil,λj q u v _ h=>by simp at h⟩
   |succ k ih =>
    intro hk;obtain⟨r,y,O,P,h⟩:=ih (by lia)
    have C:ps[k]?=some ps[k]:=gEg (by lia)
    have R:l[k]?=some l[k]:=gEg (by lia)
    have S:z[k]?=some z[k]:=gEg (by lia)
    obtain⟨its,rt,pt,_⟩:=E.tuple (BN.of (hE2 ps[k] (mGq C)));rw[at_ k _ _ _ C R S]at rt;obtain⟨u0,v0,rfl,M,rv0⟩:=pS.two rt;have l1:r.length=k:=by rw[←O.length,lMq,lTq];lia
    have l2:y.length=k:=by rw[←P.length,lMq,lTq];lia
    refine⟨r++[u0],y++[v0],?_,?_,λj q u v a1 G J=>?_⟩
    .rw [eA,R,gf,mBq];exact O.append (.cons M .nil)
    .rw [eA,S,gf,mBq];exact P.append (.cons rv0 .nil)
    rw[List.getElem?_append]at G J;split at G
    .rw [qd (by lia)]at J
     exact h j q u v a1 G J
    .rw [qh (by lia)]at J
     have ej:j=k:=by
      have:=(gSq.mp G).1;simp at this;lia
     subst ej;rw[C]at a1;cases a1;simp[l1]at G;simp[l2]at J;subst G J;exact pt
  obtain⟨r,y,O,P,h⟩:=key _ (ab _);rw[cK (by lia)]at O P
  exact⟨r,y,O,P,h⟩
 have lu:=vu.length;have lw:=vw.length;rw[lMq]at lu lw hz;refine UO (knd:=qR X.prog X.w) (ks:=l.map ar) (us:=r) (ws:=y) (E.ok.hd hc) pl hus (λj u hu=>?_) (by lia) (by lia) (by lia) λh' tk dd kp=>?_
 .have hj:j<l.length:=by have:=(gSq.mp hu).1;lia
  obtain⟨u',U,M⟩:=vu.get (i:=j) (x:=.int l[j]) (by rw[gMq,gEg hj];rfl)
  rw[hu]at U;cases U;obtain⟨t,rfl⟩:=M;exact⟨.inl l[j],by rw[gMq,gEg hj];rfl,C4 _ t⟩
 .have kv:KV (fv l z) (fz (l.map ar) y r.length):=by
   have:=Hr l z y [] [] vw .nil;unfold fz;rw[cK (by rw[dZ,lMq];lia)]
   exact this
  exact⟨.ref Y.heap.objs.size,qP H1 Y.heap.objs.size (.dK (fv l z)),E.laid (t':=tk) kp (ab _) (Ip (by have:=Sv l z;lia) (beq_eq_false_iff_ne.mpr (aO E.big)) kv dd),rfl,q _ (E.hok.fresh (ab _))⟩
end
end Mr
namespace Z
open PySem L2 Mr
def kDP(l:ML):MK:=λS=>(l S).bind λx=>(xK x.1).bind λrs=>uR (∀r∈rs,r.length=2) (some (.owd (dz (rs.map (·.getD 0 0)) (rs.map (·.getD 1 0))),x.2))
def aaV(l:ML) (S:AS):kDP l S=(l S).bind λx=>(xK x.1).bind λrs=>uR (∀r∈rs,r.length=2) (some (.owd (dz (rs.map (·.getD 0 0)) (rs.map (·.getD 1 0))),x.2)):=rfl
theorem ZU:∀{rs:Λ},(∀r∈rs,r.length=2)->aR (λx y=>[x,y]) (rs.map (·.getD 0 0)) (rs.map (·.getD 1 0))=rs
 | [],_=>rfl
 | [a,b]::rs,h=>by
  rw[ax,ax,List.zipWith_cons_cons,ZU λr hr=>h r (mCo _ hr)]
  rfl
 | []::rs,h=>by simpa using h [] (ai ..)
 | [_]::rs,h=>by simpa using h [_] (ai ..)
 | (_::_::_::_)::rs,h=>by simpa using h _ (ai ..)
section
variable {K:Ζ}{te:TE}{l:ML}
def Y9(hl:SQ K te l):SK K (JL (rDP K) (sW te wk)) (kDP l):=by
 intro H₀ r M S σ H O P U R e Q q;obtain⟨x,y,e⟩:=oBq.mp e;obtain⟨n,z,e⟩:=oBq.mp e;rcases pM e with ⟨h2,e⟩|e
 .cases e;refine hl R (ds:=x.1) (S':=x.2) y _ λB X Fs1 C E t s h1 u=>?_
  rw[yU z]at u;obtain⟨ps,rfl,G⟩:=EX (m:=n) u;refine⟨C,ps,n.map (·.getD 0 0),n.map (·.getD 1 0),rfl,h1,by rw[ZU h2];exact G.same s.sub,by simp,λl hn=>?_⟩
  obtain⟨I,J,L,Y,n3⟩:=s.new (o:=.dK (fv (n.map (·.getD 0 0)) (n.map (·.getD 1 0)))) hn;exact q _ _ _ (.ref l) [l] (t.trans I) J (.owd oX L (Sd _ _)) ((xS.one s hn).back t)
 .cases e
end
end Z
namespace Z
open PySem PySem.Spec PyProof.Rows L2 Mr
abbrev dP(c:Λ):D:=.list (c.map uT)
def YZ(r:Ϝ):D9 1 (uT r) (HT.C2 r):=.tup (by simp) λi d p h1 h2=>by
 simp only[gMq,oMq]at h1 h2;obtain⟨a,n,rfl⟩:=h1;obtain⟨b,l,rfl⟩:=h2;rw[n]at l;cases l;exact .int
def Wc(c:Λ):D9 2 (dP c) (.list (c.map HT.C2)):=.list (by simp) λi d p h1 h2=>by
 simp only[gMq,oMq]at h1 h2;obtain⟨a,n,rfl⟩:=h1;obtain⟨b,l,rfl⟩:=h2;rw[n]at l;cases l;exact YZ a
end Z
namespace Mr
open PySem PySem.W L2 PySem.Calls
open PySem.Spec PyProof.Rows
section
variable {X:Cx}
def G8(X:Cx) (A:Around) (N:List Str) (qual:Str) (scope:km) (f:Addr) (cd:Value) (cl:List (Str×Addr)) (s:Shared) (H:Hp):Cx where
 prog:=X.prog
 w:=X.w
 K:=X.K
 mg:=X.mg
 base:=X.base
 A:=A.deeper (envX qual scope s.heap.objs.size f cd cl)
 N:=N
 s₀:=s
 H₀:=H
 env:=envX qual scope s.heap.objs.size f cd cl
 outer:=X.stack
 stack:=envX qual scope s.heap.objs.size f cd cl::X.stack
 ex:=[]
 calm:=true
 fn:=λ_=>false
 pn:=[]
 xe:=λ_ _=>False
structure DA (X:Cx) (x m:Str) (scope:km) (cl:List (Str×Addr)):Prop where
 kind:scope.kind = .function
 co:scope.isCoroutine=false
 gen:scope.isGenerator=false
 nocell:∀y∈scope.names,y.2 ≠ .cell
 xl:scope.names.lookup x=some .local
 ml:scope.names.lookup m=some .free
 fr:∀y,scope.names.lookup y=some .free->y=m
 cl:∃c,cl=[(m,c)]/\X.env.cells.lookup m=some c
 vis:X.env.kindOf m=some .cell
def DA.look{x m y:Str}{scope:km}{cl:List (Str×Addr)}{c:Addr}(L:DA X x m scope cl) (h:cl.lookup y=some c):y=m/\X.env.cells.lookup m=some c:=by
 obtain⟨l,e,h2⟩:=L.cl;subst e;rw[eJ]at h;cases q:y == m with
 |true=>rw[q]at h;cases h;exact⟨beq_iff_eq.mp q,h2⟩
 |false=>rw[q]at h;cases h
def Pz{P:Φ}{σ:St}{H:Hp}{s:Shared}{A:Around}{x m qual:Str}{scope:km}{f:Addr}{cd:Value}{cl:List (Str×Addr)}{i:Nat}{u:Value}{v B:V}{h':Heap}{tk:Nat}(I:Inv X P σ H s) (L:DA X x m scope cl) (hd:A.handled=none) (Q:A.frames=X.A.frames)
  (R:X.N[i]?=some m) (S:σ[i]?=some (some B)) (U:qk v u) (C:h'.Ns s.heap.objs.size (λy=>([(x,u)]:List (Str×Value)).reverse.lookup y)) (hk:∀b o,s.heap.get? b=some o->h'.get? b=some o) :
  Inv (G8 X A [x,m] qual scope f cd cl s H) [] [some v,some B] H { s with heap:=h',toks:=tk }:=by
 have l:=I.env0;have n:∀b:Addr,b∉(G8 X A [x,m] qual scope f cd cl s H).ex:=λb z=>absurd (show b∈([]:Δ) from z) (by simp)
 obtain⟨mm,hn,hl⟩:=I.loc;have E:Zr X.env.scope m:=.inr (.inl L.vis);obtain⟨Y,rm,lm⟩:=hl i m B R S E;have hxm:m≠x:=λz=>by
  have:=L.xl;rw[←z,L.ml]at this;cases this
 refine⟨⟨l.mod,L.kind,rfl,rfl,ab _,λy z c h1 h2=>?_,λy r=>?_,λy c z _=>(by cases z),λ_=>hd,?_,.inr ⟨rfl,rfl⟩,λb z=>absurd z (n b),l.bs,l.bsz,λb _ _=>n b,λb z=>absurd z (n b),l.funs,l.frf,l.tb⟩,
  rfl,l.bare,Un.kept hk,⟨_,C,λj y M h1 h2 h3=>?_⟩,λy c h=>?_,l.hok.fresh (ab _),λy c h=>?_,λp hp=>absurd (show p∈([]:Φ) from hp) (by simp),l.hok.kept hk,rfl⟩
 .rw [(L.look h1).1,(L.look h2).1]
 .have r:scope.names.lookup y=some .cell∨scope.names.lookup y=some .free:=r;rcases r with r|r
  .exact absurd rfl (L.nocell _ (PySem.mem_of_lookup r))
  .obtain ⟨c,e,_⟩:=L.cl;refine⟨c,?_⟩;show cl.lookup y=some c;rw[L.fr y r,e,eJ];simp
 .exact Around.frames_deeper (Q.trans I.ok.frames)
 .have hj:j=0∨j=1:=by
   cases j with
   |zero=>exact .inl rfl
   |succ j =>
    cases j with
    |zero=>exact .inr rfl
    |succ j=>exact absurd h2 (by simp)
  rcases hj with rfl|rfl
  .cases h1;cases h2;exact⟨u,U,.inl ⟨L.xl,by simp⟩⟩
  .cases h1;cases h2;refine⟨Y,rm,.inr ⟨.inr L.ml,?_⟩⟩;obtain⟨c,e,G⟩:=L.cl;refine⟨c,?_,?_⟩
   .show cl.lookup m=some c;rw[e,eJ];simp
   .rcases lm with ⟨k,_⟩|⟨_,c2,O,o,J,t⟩
    .rw [L.vis]at k;cases k
    .rw [G]at O;cases O;exact⟨o,hk _ _ J,t⟩
 .obtain ⟨_,G⟩:=L.look h;obtain⟨M,o,J,t⟩:=I.cell m c G;exact⟨M,o,hk _ _ J,t⟩
 .exact I.freeC m c (L.look h).2
def UJ{Y:Φ}{σ:St}{H:Hp}{s:Shared}{A:Around}{E':Ψ}{x m qual:Str}{l:mO}{body:Expr}{scope:km}{f n:Addr}{pm C:Value}{cl:List (Str×Addr)}{i:Nat}{u:Value}{v vm:V}{Q:VK}{t:TE}{k:Nat}
  (I:Inv X Y σ H s) (L:DA X x m scope cl) (hr:sZ (k+1) A) (hA:A.frames=X.A.frames) (hm:X.N[i]?=some m) (hv:σ[i]?=some (some vm)) (ru:qk v u)
  (ho:s.heap.get? f=some (kla_obj "<lambda>" qual l body scope cl pm n C)) (S:s.heap.CodeRec (.ref n) qual)
  (hb:nJ (kla_fn "<lambda>" qual l body scope cl pm (.ref n) C) ⟨[u],[]⟩=pure [(x,u)])
  (ht:sZ k (G8 X A [x,m] qual scope f (.ref n) cl s H).A->PE (G8 X A [x,m] qual scope f (.ref n) cl s H) body t) (h:t [some v,some vm] H Q) :
  jy (jA X.prog X.w) A (call (.ref f) [u]) (EP X Y σ Q) E' s:=by
 have lim:s.heap.NoLimit:=I.nolimit;refine wpAny_call (lg (R:=λr O=>match r with|.ok (.ret u')=>CE X.stack X.prog X.w H s Q u' O|_=>False) (kla_callFunE hr.depth ho rfl L.co L.gen rfl S ?_) λr O E=>?_)
 .rw [hb];refine jz (nu L.nocell (λy hy=>by rw[mSq.mp hy];exact L.xl) (λG U M=>⟨lim.fresh _ M,?_⟩) L.kind)
  have B:∀b o,s.heap.get? b=some o->G.get? b=some o:=λb o e=>M.extBut b o (ao (ag e)) (ae _ e)
  show kF _ _ (.expr body (envX qual scope s.heap.objs.size f (.ref n) cl)) _ _;have J:=Pz (A:=A) (qual:=qual) (f:=f) (cd:=.ref n) (tk:=s.toks+1) I L hr.hd hA hm hv ru U B;refine kla_codeExpr (jO (ht (hr.deeper _) [] _ _ H Q J h) (λv' O hs=>?_) λe O z=>z.elim)
  obtain⟨w,H',P,rv,q⟩:=hs;exact⟨w,H',P.os,P.bare,P.base,P.hok,rv,q⟩
 .cases r with
  |error e=>exact E.elim
  |ok fl =>
   cases fl with
   |ret u'=>exact I.after E
   |next=>exact E.elim
   |brk=>exact E.elim
   |cont=>exact E.elim
end
section
variable {X:Cx}
def LD{p pos:Pos}{c n:Value}(l:Ξ) (h:TriplesOk l) (hn:mr p (l++[mH pos.line,mH pos.col,c])=some n):mr p l=some n∨n=c:=by
 fun_induction TriplesOk l with
 |case1 =>
  simp only[gH,mr,mH]at hn;split at hn
  .exact .inr (aN.inj hn).symm
  .cases hn
 |case2 a t b u x sA s =>
  simp only[iN,mr]at hn ⊢;split at hn
  .rename_i r;rw[qd r];exact .inl hn
  .rename_i r;rw[qh r];exact s h hn
 |case3 l h1 h2=>exact h.elim
def Rb{og:Φ}{σ:St}{H:Hp}{s:Shared}{A:Around}{E:Ψ}{Q:Ψ}{l:mO}{body:Expr}{scope:km}{pos:Pos}{c P:Addr}{cl:List (Str×Addr)}
  (I:Inv X og σ H s) (t:X.env.code = .ref c) (C:codeHdIn X.K c P=true) (S:(P,X.env.qual ++ "<lambda>")∈vg X.K) (G:defaultsOf l X.env=([],[])) (U:nH scope X.env=pure cl)
  (h:∀(f y:Addr) (J:Obj) (vs:Ω) (R:Tok) (r:Value) (H':Hp) (h':Heap) (tk:Nat),Inv X og σ H' { s with heap:=h',toks:=tk }->(∀b o,H b=some o->H' b=some o)->H' y=some (.frz J (.own P))->J.data = .fields vs->vs[1]?=some (.str (X.env.qual ++ "<lambda>") R) ->
   s.heap.objs.size<=f->H' f=none->h'.get? f=some (kla_obj "<lambda>" (X.env.qual ++ "<lambda>") l body scope cl ((X.mg "__name__").getD .none) y r)->Q (.ref f) { s with heap:=h',toks:=tk }) :
  jy (jA X.prog X.w) A (eval (.Lambda l body scope pos) X.env) Q E s:=by
 have hP:H P=some (.tbl (X.env.qual ++ "<lambda>")):=I.tb _ S;have C:CodeHd X.base c P:=codeHd_of_K I.mod.kin C;obtain⟨ps,Y,ht,hbk⟩:=I.hok P _ hP;have hg:s.heap.Ns jG X.mg:=I.mod.glob.keeps I.bk;have hgP:jG≠P:=λz=>by
  obtain⟨o,es,ep,e,_⟩:=I.mod.glob;have:=(I.bs _ _ e).2;rw[z,hP]at this;cases this
 have hB':s.heap.BuiltinsAt X.mg P:=by
  obtain⟨bm,o,b1,b2,b3,b4,b5,b6⟩:=I.mod.bmod;refine⟨bm,o,b1,b2,λz=>?_,λz=>?_,I.bk _ _ b3,b4,b5,b6⟩
  .obtain ⟨o',es,ep,e,d,_⟩:=I.mod.glob;rw[z,e]at b3;cases b3;rw[d]at b6;cases b6
  .have:=(I.bs _ _ b3).2;rw[z,hP]at this;cases this
 cases hc:mr pos ps.toList with
 |some cv =>
  obtain⟨b,J,vs,R,e1,e2,e3,e4⟩:=hbk pos cv hc;subst e1;refine kla_eval G (kla_makeFunctionHit (mg:=X.mg) U I.ok.glob hg t (C.keeps I.bk) Y ht hc hB' λr h' tk hk x=>?_)
  refine h h'.objs.size b J vs R r H _ tk (I.un (Un.kept λb o e=>ae _ (hk b o e)) (I.hok.kept λb o e=>ae _ (hk b o e))) (λ_ _ e=>e) e2 e3 e4 x ?_ (aC _ rfl)
  exact I.hok.fresh x
 |none =>
  refine kla_eval G (kla_makeFunction (mg:=X.mg) U I.ok.glob hg t (C.keeps I.bk) Y ht hc hgP hB' λy r h' tk hx M hlt hrec htb=>?_)
  obtain⟨c₂,J,vs,R,e2,hoc,hd,hv⟩:=hrec;cases e2;have hn:H y=none:=I.hok.fresh M;have kp:∀b o,b≠P->s.heap.get? b=some o->(h'.push (kla_obj "<lambda>" (X.env.qual ++ "<lambda>") l body scope cl ((X.mg "__name__").getD .none) y r)).get? b=some o:=λb o O e=>ae _ (hx b o O e)
  have nP:∀b,H b=none->b≠P:=λb n z=>by rw[z,hP]at n;cases n
  have L:∀b u,H b=some u->b≠y:=λb u e=>qG e hn
  have x:s.heap.objs.size<=h'.objs.size:=bq M (bH hlt);refine h h'.objs.size y J vs R r (qP H y (.frz J (.own P))) _ tk (I.un ⟨λb o e n _ _=>kp b o (nP b n) e,λb o e n _ _=>⟨o.slots,kp b o (nP b n) e⟩,λb o e n _=>?_,λb o e _=>?_,λb xs e=>?_,λb o u e=>?_,λb q e=>?_⟩ λb u e=>?_) (λb o e=>?_) oX hd hv x ?_ (aC _ rfl)
  .rw [oP (ao (aK (ag e) M))];exact n
  .by_cases O:b=P
   .subst O;exact⟨_,ae _ htb⟩
   .exact ⟨o,kp b o O e⟩
  .rw [oP (L _ _ e)];exact e
  .rw [oP (L _ _ e)];exact e
  .rw [oP (L _ _ e)];exact e
  .by_cases O:b=y
   .subst O;rw[oX]at e;cases e;exact⟨ae _ hoc,⟨_,ae _ hoc⟩⟩
   .rw [oP O]at e
    by_cases hb2:b=P
    .subst hb2;rw[hP]at e;cases e;refine⟨_,ae _ htb,?_,λp cv hcv=>?_⟩
     .rw [gY];exact TriplesOk_snoc _ _ _ _ ht
     .rw [gY]at hcv;rcases LD ps.toList ht hcv with z|z
      .obtain ⟨b2,oc2,vs2,tq2,z1,z2,z3⟩:=hbk p cv z;exact⟨b2,oc2,vs2,tq2,z1,by rw[oP (L _ _ z2)];exact z2,z3⟩
      .exact ⟨y,J,vs,R,z,oX,hd,hv⟩
    .refine (I.hok b u e).stay (λb2 v B q=>kp b2 v ?_ q) (λb2 q=>?_) (λb2 xs q=>?_) λb2 o q=>?_
     .rcases B with rfl|B
      .exact hb2
      .intro z;rw[z,hP]at B;cases B
     .rw [oP (L _ _ q)];exact q
     .rw [oP (L _ _ q)];exact q
     .rw [oP (L _ _ q)];exact q
  .rw [oP (L _ _ e)];exact e
  .rw [oP (aO hlt)];exact I.hok.fresh x
end
section
variable {X:Cx}
def IW{K:Ζ}{H l:Hp}{a:Addr}{xs:List V}(s:pO H l) (h:BN K H a xs):BN K l a xs:=by
 rcases h with h|h
 .rcases h with h|⟨o,h⟩
  .exact .inl (.inl (s _ _ h))
  .exact .inl (.inr ⟨o,s _ _ h⟩)
 .exact .inr h
def Ac.same{K:Ζ}{H l:Hp}{p:Addr}{c:Λ}(s:pO H l) (h:Ac K H p c):Ac K l p c:=by
 obtain⟨n,h1,h2,t⟩:=h;exact⟨n,IW s h1,h2,λi q r u x=>IW s (t i q r u x)⟩
def Kr(K:Ζ) (n:V->Hp->VK->Prop):List V->V->Λ->Hp->VK->Prop
 | [],r,_,H,Q=>Q r H
 |x::xs,r,s,H,Q=>n x H λv l=>pO H l/\∃p c,v = .ref p/\Ac K l p c/\(if HT.qf c s=true then Kr K n xs x c l Q else Kr K n xs r s l Q)
def SW(X:Cx) (l:Φ) (σ:St) (A:Around) (H0:Hp) (f:Addr) (fo:Obj) (n:V->Hp->VK->Prop):Prop :=
 ∀(more:Φ) (H:Hp) (s:Shared) (v:V) (u:Value) (Q:VK),Inv X (l++more) σ H s->pO H0 H->s.heap.get? f=some fo->qk v u->n v H Q ->
  jy (jA X.prog X.w) A (call (.ref f) [u]) (EP X (l++more) σ Q) (λ_ _=>False) s
structure Qe (X:Cx) (og:Φ) (H:Hp) (h:Heap) (I S f:Addr) (oI so fo:Obj):Prop where
 fI:vk X og H I
 fS:vk X og H S
 ff:vk X og H f
 hI:h.get? I=some oI
 hS:h.get? S=some so
 hf:h.get? f=some fo
def Jf{l:Φ}{σ:St}{A:Around}{H0 H:Hp}{f I S:Addr}{fo n so:Obj}{C:V->Hp->VK->Prop}{s:Shared}{v:V}{u:Value}{Q:VK}(turn:SW X l σ A H0 f fo C) (J:Inv X l σ H s) (O:Qe X l H s.heap I S f n so fo)
  (P:∀v,n.data ≠ .cell v) (R:∀v,so.data ≠ .cell v) (U:∀v,fo.data ≠ .cell v) (Y:pO H0 H) (r:qk v u) (h:C v H Q) :
  jy (jA X.prog X.w) A (call (.ref f) [u]) (λE B=>∃x t,Inv X l σ t B/\qk x E/\Q x t/\Qe X l t B.heap I S f n so fo) (λ_ _=>False) s:=by
 have I2:Inv X (l++[(I,n),(S,so),(f,fo)]) σ H s:=J.pins_of λp hp=>by
  rcases mAq.mp hp with z|z
  .exact J.pin p (ay _ z)
  .simp only [ah,bB,or_false]at z;rcases z with rfl|rfl|rfl
   .exact ⟨O.hI,O.fI.1,O.fI.2.1,O.fI.2.2.1,P⟩
   .exact ⟨O.hS,O.fS.1,O.fS.2.1,O.fS.2.2.1,R⟩
   .exact ⟨O.hf,O.ff.1,O.ff.2.1,O.ff.2.2.1,U⟩
 refine jO (turn _ H s v u Q I2 Y O.hf r h) (λE B hq=>?_) λ_ _ e=>e
 obtain⟨x,t,y,rv,q⟩:=hq;have G:=y.pin (I,n) (by simp)
 have L:=y.pin (S,so) (by simp)
 have M:=y.pin (f,fo) (by simp)
 exact⟨x,t,y.unpinned,rv,q,⟨G.2.1,O.fI.2⟩,⟨L.2.1,O.fS.2⟩,⟨M.2.1,O.ff.2⟩,G.1,L.1,M.1⟩
def Mz{M:Φ}{σ:St}{A:Around}{H0:Hp}{f I S a:Addr}{fo:Obj}{kq:V->Hp->VK->Prop}{xs:List V}{Q:VK}(hh:A.handled=none) (hu:A.units+64<jT) (turn:SW X M σ A.in1 H0 f fo kq) (cf:∀v,fo.data ≠ .cell v) (hlI:a≠I) (P:S≠I) (hfI:f≠I) (hfS:f≠S) :
  ∀(r j:Nat) (H:Hp) (s:Shared) (xb:V) (ub:Value) (pb:Addr) (cb:Λ) (c:Nat) (oI:Obj),xs.length-(j+1)=r->j+1<=xs.length->Inv X M σ H s->pO H0 H->rN X.K H a xs->Qe X M H s.heap I S f oI (jE "list" #[ub,.ref pb] c) fo->s.heap.IsListIter I a (j+1)->qk xb ub ->
   Ac X.K H pb cb->Kr X.K kq (xs.drop (j+1)) xb cb H Q ->
   kF (jA X.prog X.w) A (.builtin "min.loop" ⟨[.ref I,.ref f,.ref S],[]⟩) (λr s'=>match r with|.ok (.ret u)=>EP X M σ Q u s'|_=>False) s:=by
 have y:(toString "min" ++ toString ".loop" : String) = "min.loop" := by decide
 intro r
 induction r with
 |zero =>
  intro j H s xb ub pb cb c oI hr hj J s0 hS O hit rb hcb hM;have hin:j+1=xs.length:=by lia
  obtain⟨l,rv,pl,hz⟩:=J.list hS;have hsz:l.toArray.size=xs.length:=by rw[au];exact rv.length.symm
  have W:=Walks.list (prog:=X.prog) (w:=X.w) (A:=A.in1) hh I a hlI l.toArray;refine jL fj ?_;rw[Around.under_plainId bX _];show jy _ A.in1 (mq (.ref S) >>= _) _ _ _;refine jx (jX O.hS rfl ?_);show jy _ A.in1 (tryCatch (ke (.ref I)) _ >>= _) _ _ _;refine jx (jU (W.done _ _ _ ⟨by rw[hsz,←hin];exact hit,pl.isList⟩ λh' B n=>?_))
  have J1:Inv X M σ H { s with heap:=h',toks:=B }:=vP (fp:=[I]) J n λb C=>by rw[mSq.mp C];exact O.fI
  have hS':=n S _ (by simpa using P) O.hS
  have s1:=cg.update h' S (Obj.mapSeq λ_=>(#[]:Ω))
  show jy _ A.in1 (mL S (λ_=>#[]) >>= _) _ _ _
  refine jx ?_;refine kB hS' rfl (jx (ku (jz ?_)));have J2:Inv X M σ H { s with heap:=h'.update S (Obj.mapSeq λ_=>(#[]:Ω)),toks:=B }:=vP (s:={ s with heap:=h',toks:=B }) (fp:=[S]) J1 (λb o C e=>(s1.2 b (λz=>C (by simp[z]))).trans e) λb C=>by rw[mSq.mp C];exact O.fS
  rw[cJ (by lia)]at hM
  exact⟨xb,H,J2,rb,hM⟩
 |succ r ih =>
  intro j H s xb ub pb cb c oI hr hj J s0 hS O hit rb hcb hM;have E:j+1<xs.length:=by lia
  obtain⟨l,rv,pl,hz⟩:=J.list hS;have hsz:l.toArray.size=xs.length:=by rw[au];exact rv.length.symm
  have W:=Walks.list (prog:=X.prog) (w:=X.w) (A:=A.in1) hh I a hlI l.toArray;refine jL fj ?_;rw[Around.under_plainId bX _];show jy _ A.in1 (mq (.ref S) >>= _) _ _ _;refine jx (jX O.hS rfl ?_);show jy _ A.in1 (tryCatch (ke (.ref I)) _ >>= _) _ _ _;refine jx (jU (W.item (j+1) _ _ _ (by rw[hsz];exact E) ⟨hit,pl.isList⟩ λv h' B hP hst' n=>?_))
  have hv:l[j+1]?=some v:=by simpa using hP
  obtain⟨u2,hu2,rx⟩:=rv.get (i:=j+1) (x:=xs[j+1]) (gEg E);rw[hv]at hu2;cases hu2;obtain⟨G,hoI',hoc,hod⟩:=id hst'.1;have J1:Inv X M σ H { s with heap:=h',toks:=B }:=vP (fp:=[I]) J n λb C=>by rw[mSq.mp C];exact O.fI
  have O1:Qe X M H h' I S f G (jE "list" #[ub,.ref pb] c) fo:=⟨O.fI,O.fS,O.ff,hoI',n S _ (by simpa using P) O.hS,n f _ (by simpa using hfI) O.hf⟩
  rw[aA E]at hM;show jy _ A.in1 (tryCatch (nU [v] (call (.ref f) [v])) _ >>= _) _ _ _;refine jx (jU (jK (jO (Jf turn J1 O1 (λv z=>by rw[hod]at z;cases z) (λv z=>by cases z) cf s0 rx hM) (λu' s2 he=>?_) λ_ _ hF=>hF.elim)))
  obtain⟨v',H2,J2,rv2,⟨t,Y,ck,rfl,hck,R⟩,L⟩:=he;cases rv2;have hit2:s2.heap.IsListIter I a (j+1+1):=⟨G,L.hI,hoc,hod⟩;have k1:=D1 J2 hck;have k2:=D1 J2 (hcb.same t);show jy _ A.in1 (tryCatch (nU [v,.ref Y] (lF .Lt (.ref Y) (.ref pb) >>= _)) _ >>= _) _ _ _;refine jx (jU (jK (jx (k1.lt k2 (A:=A.in1) (by show A.units+1+8<jT;lia) X.prog X.w _ _ ?_))))
  refine jx (jK (jY ?_));refine jx (ku (jz ?_))
  by_cases U:HT.qf ck cb=true
  .have s1:=cg.update s2.heap S (Obj.mapSeq λ_=>#[v,.ref Y])
   obtain⟨c2,hc2⟩:∃c2,(s2.heap.update S (Obj.mapSeq λ_=>#[v,.ref Y])).get? S=some (jE "list" #[v,.ref Y] c2):=⟨_,jW L.hS λ_=>#[v,.ref Y]⟩
   rw[qd U]at R;simp only[U,if_true];refine jx ?_;refine kB L.hS rfl (jx (ku ?_));rw[y];have J3:Inv X M σ H2 { s2 with heap:=s2.heap.update S (Obj.mapSeq λ_=>#[v,.ref Y]),toks:=s2.toks }:=vP (fp:=[S]) J2 (λb o C e=>(s1.2 b (λz=>C (by simp[z]))).trans e) λb C=>by rw[mSq.mp C];exact L.fS
   exact jz ⟨jP bX _,ih (j+1) H2 _ _ v Y ck c2 G (by lia) E J3 (s0.trans t) (t.seq hS) ⟨L.fI,L.fS,L.ff,(s1.2 I P.symm).trans L.hI,hc2,(s1.2 f hfS).trans L.hf⟩ ⟨G,(s1.2 I P.symm).trans L.hI,hoc,hod⟩ rx hck R⟩
  .rw [qh U]at R;simp only[U,bU,if_false];refine jx (ku ?_);rw[y];exact jz ⟨jP bX _,ih (j+1) H2 _ xb ub pb cb c G (by lia) E J2 (s0.trans t) (t.seq hS) L hit2 rb (hcb.same t) R⟩
end
section
variable {X:Cx}
def Wn(K:Ζ) (n:V->Hp->VK->Prop):List V->Hp->VK->Prop
 | [],_,_=>False
 |x::xs,H,Q=>n x H λv l=>pO H l/\∃p c,v = .ref p/\Ac K l p c/\Kr K n xs x c l Q
def Lz{n:Φ}{σ:St}{A:Around}{H0 H:Hp}{f a:Addr}{fo:Obj}{kq:V->Hp->VK->Prop}{xs:List V}{Q:VK}{s:Shared}{E:Ψ}(hh:A.handled=none) (hu:A.units+64<jT) (turn:SW X n σ A.in1 H0 f fo kq) (cf:∀v,fo.data ≠ .cell v)
  (J:Inv X n σ H s) (s0:pO H0 H) (hS:rN X.K H a xs) (ff:vk X n H f) (hf:s.heap.get? f=some fo) (hM:Wn X.K kq xs H Q) :
  jy (jA X.prog X.w) A (call (.builtin "min") [.ref a] [(Str.ofString "key", .ref f)]) (EP X n σ Q) E s:=by
 have l:(toString "min" ++ toString ".loop" : String) = "min.loop" := by decide
 obtain⟨y,rv,pl,hz⟩:=J.list hS;have B:=pl.isList;obtain⟨ol,hol,_⟩:=id B;have hll:a<s.heap.objs.size:=ag hol;have O:f<s.heap.objs.size:=ag hf;cases xs with
 |nil=>exact hM.elim
 |cons x0 xs =>
 refine kmk_tree PySem.F.kind_min PySem.F.plain_min PySem.F.entry_min (kmk_min_key _ _) ?_;show jy _ A.in1 (Builtin.Builtins.bindParams "min" ["key","default"] 0 ⟨[],[(Str.ofString "key", .ref f)]⟩ >>= _) _ _ s;refine jx (wpAny_of_eq (show Builtin.Builtins.bindParams "min" ["key","default"] 0 ⟨[],[(Str.ofString "key", .ref f)]⟩=pure [some (.ref f),none] from rfl) ?_)
 refine jx (jz ?_);refine jx (lx B ?_);refine jx (kK ?_ (aE _));rw[l];have P:(s.heap.push { cls:=.type "list_iterator", data:=.fields #[.ref a,.int 0 0] }).objs.size=s.heap.objs.size+1:=lj ..;have kp:∀b o,s.heap.get? b=some o->((s.heap.push { cls:=.type "list_iterator", data:=.fields #[.ref a,.int 0 0] }).push (jE "list" #[] 0)).get? b=some o:=λb o e=>ae _ (ae _ e)
 have gI:((s.heap.push { cls:=.type "list_iterator", data:=.fields #[.ref a,.int 0 0] }).push (jE "list" #[] 0)).get? s.heap.objs.size=some { cls:=.type "list_iterator", data:=.fields #[.ref a,.int 0 0] } :=
  ae _ (aC _ rfl)
 have gS:((s.heap.push { cls:=.type "list_iterator", data:=.fields #[.ref a,.int 0 0] }).push (jE "list" #[] 0)).get? (s.heap.objs.size+1)=some (jE "list" #[] 0):=by rw[←P];exact aC _ rfl
 rw[P];generalize hI:s.heap.objs.size=I at *;have R:a≠I:=ao hll;have t:I+1≠I:=iG I;have S:f≠I:=ao O;have U:f≠I+1:=ao (bQ O);have fI:vk X n H I:=J.fpOk (dQ hI) (J.hok.fresh (dQ hI));have fS:vk X n H (I+1):=J.fpOk (by rw[hI];exact bz I) (J.hok.fresh (by rw[hI];exact bz I))
 refine jz ⟨jP bX _,?_⟩;have W:=Walks.list (prog:=X.prog) (w:=X.w) (A:=A.in1) hh I a R y.toArray;have hsz:y.toArray.size=xs.length+1:=by rw[au];exact rv.length.symm
 refine jL fj ?_;rw[Around.under_plainId bX _];show jy _ A.in1 (mq (.ref _) >>= _) _ _ _;refine jx (jX gS rfl ?_);show jy _ A.in1 (tryCatch (ke (.ref I)) _ >>= _) _ _ _;refine jx (jU (W.item 0 _ _ _ (by rw[hsz];exact Nat.succ_pos _) ⟨⟨_,gI,rfl,rfl⟩,(B.push _).push _⟩ λv h' tk' hP Y C=>?_))
 have hv:y[0]?=some v:=by simpa using hP
 obtain⟨u2,hu2,rx⟩:=rv.get (i:=0) (x:=x0) rfl;rw[hv]at hu2;cases hu2;obtain⟨G,hoI',hoc,hod⟩:=id Y.1;have J1:Inv X n σ H { s with heap:=h',toks:=tk' }:=vP (fp:=[I]) J (λb o L e=>C b o L (kp b o e)) λb L=>by rw[mSq.mp L];exact fI
 have O1:Qe X n H h' I (I+1) f G (jE "list" #[] 0) fo:=⟨fI,fS,ff,hoI',C _ _ (by simpa using t) gS,C f _ (by simpa using S) (kp _ _ hf)⟩
 show jy _ A.in1 (tryCatch (nU [v] (call (.ref f) [v])) _ >>= _) _ _ _;refine jx (jU (jK (jO (Jf turn J1 O1 (λv z=>by rw[hod]at z;cases z) (λv z=>by cases z) cf s0 rx hM) (λu' s2 he=>?_) λ_ _ hF=>hF.elim)))
 obtain⟨v',H2,J2,rv2,⟨s2',M,ck,rfl,hck,hM2⟩,u⟩:=he;cases rv2;have s1:=cg.update s2.heap (I+1) (Obj.mapSeq λ_=>#[v,.ref M])
 obtain⟨c2,hc2⟩:∃c2,(s2.heap.update (I+1) (Obj.mapSeq λ_=>#[v,.ref M])).get? (I+1)=some (jE "list" #[v,.ref M] c2):=⟨_,jW u.hS λ_=>#[v,.ref M]⟩
 show jy _ A.in1 (mL (I+1) (λ_=>#[v,.ref M]) >>= _) _ _ _
 refine jx ?_;refine kB u.hS rfl ?_;rw[l];have J3:Inv X n σ H2 { s2 with heap:=s2.heap.update (I+1) (Obj.mapSeq λ_=>#[v,.ref M]),toks:=s2.toks }:=vP (fp:=[I+1]) J2 (λb o L e=>(s1.2 b (λz=>L (by simp[z]))).trans e) λb L=>by rw[mSq.mp L];exact u.fS
 refine jz ⟨jP bX _,lg (Mz (xs:=x0::xs) hh hu turn cf R t S U _ 0 H2 _ x0 v M ck c2 G rfl (fu (aE _)) J3 (s0.trans s2') (s2'.seq hS) ⟨u.fI,u.fS,u.ff,(s1.2 I t.symm).trans u.hI,hc2,(s1.2 f U).trans u.hf⟩ ⟨G,(s1.2 I t.symm).trans u.hI,hoc,hod⟩ rx hck hM2) λr s' h=>?_⟩
 cases r with
 |error e=>exact h.elim
 |ok fl=>cases fl <;> first|exact h|exact h.elim
def Os(K:Ζ) (i:Nat) (te:TA) (tb:TE):TE:=λσ H Q=>te σ H λvs l=>∃(a:Addr) (xs:List V) (n:V),vs=[.ref a]/\σ[i]?=some (some n)/\rN K l a xs /\
 ∀r,pO l r->Wn K (λv H Q=>tb [some v,some n] H Q) xs r Q
def PB{e:Expr}{te:TA}{tb:TE}{p pos kp B:Pos}{l:mO}{body:Expr}{scope:km}{c P:Addr}{x m:Str}{i k:Nat}{cl:List (Str×Addr)}(hr:sZ (k+1+1) X.A) (hc:X.calm=true) (hg:Gl X "min") (hm:X.mg "min" = none) (t:X.env.code = .ref c) (C:codeHdIn X.K c P=true) (E:(P,X.env.qual ++ "<lambda>")∈vg X.K)
  (G:defaultsOf l X.env=([],[])) (M:nH scope X.env=pure cl) (L:DA X x m scope cl) (hN:X.N[i]?=some m) (ha:PA X [e] te)
  (hb:∀(pm y u:Value) (n:Addr),nJ (kla_fn "<lambda>" (X.env.qual ++ "<lambda>") l body scope cl pm (.ref n) y) ⟨[u],[]⟩=pure [(x,u)])
  (ht:∀(f n:Addr) (s:Shared) (H:Hp),sZ k (G8 X X.A.in1 [x,m] (X.env.qual ++ "<lambda>") scope f (.ref n) cl s H).A->PE (G8 X X.A.in1 [x,m] (X.env.qual ++ "<lambda>") scope f (.ref n) cl s H) body tb)
  (he:kx pos (jH [e] X.env)=(false,eval e X.env)::kx pos (jH [] X.env):=by rfl) (O:(kx pos (jH [e] X.env)).any (·.1)=false:=by rfl) :
  PE X (.Call (.Name "min" p) [e] [⟨some "key", .Lambda l body scope B,kp⟩] pos) (Os X.K i te tb):=by
 intro og s σ H Q I h;refine ka (vt I hg hm boot_min ?_ (by decide) (by decide))
 refine callWith_kw (sV (ha pos og s σ H _ I h) λus s1 R=>kws_cons ?_) he O rfl rfl
 obtain⟨vs,H1,S,r1,a,xs,vm,e1,U,hS,hM⟩:=R;subst e1;obtain⟨u,rfl,ru⟩:=xo r1;cases ru;refine Rb S t C E G M λf n oc ws tq y Y h' tk I2 sm hc' hd hv hge hn hf=>kws_nil ?_
 have J:pO H1 Y:=sm;refine Lz (A:=X.A) (H0:=Y) (fo:=kla_obj "<lambda>" (X.env.qual ++ "<lambda>") l body scope cl ((X.mg "__name__").getD .none) n y) (S.ok.hd hc) hr.units ?_ (λv z=>by cases z) I2 (.refl _) (J.seq hS) (S.fpOk hge hn) hf (hM Y J)
 intro more H3 s3 v u3 Q3 I3 s03 hf3 rv hk;refine UJ (k:=k) I3 L hr.in1 rfl hN U rv hf3 ?_ (hb _ _ _ _) (λr=>ht f n s3 H3 r) hk
 obtain⟨q1,_⟩:=I3.hok n _ (s03 _ _ hc');exact⟨n,oc,ws,tq,rfl,q1,hd,hv⟩
end
end Mr
namespace Z
open PySem PySem.W L2 Mr
open PySem.Spec PyProof.Rows
def Hq(l:MK) (n d:D):Option Λ:=(l [some (.sh d),some (.sh n)]).bind λy=>(match y.1 with|.sh k=>G6 k|_=>none)
def SB(l:MK) (n:D):List D->D->Λ->Option D
 | [],r,_=>some r
 |d::ds,r,s=>(Hq l n d).bind λc=>if HT.qf c s=true then SB l n ds d c else SB l n ds r s
def WI(l:MK) (n:D):List D->Option D
 | []=>none
 |d::ds=>(Hq l n d).bind λc=>SB l n ds d c
def SJ(S:AS) (i:Nat):Option D:=(S[i]?).bind λx=>x.bind λa=>(match a with|.sh d=>some d|_=>none)
def Hn(i:Nat) (l:ML) (n:MK):ME:=λS=>(l S).bind λx=>(SJ x.2 i).bind λr=>(WI n r x.1).map λd=>(d,x.2)
def Ve{S:AS}{i:Nat}{d:D}(h:SJ S i=some d):S[i]?=some (some (.sh d)):=by
 unfold SJ at h;obtain⟨x,n,h⟩:=oBq.mp h;obtain⟨a,r,l⟩:=oBq.mp h;subst r;cases a with
 |sh s=>cases l;exact n
 |_=>cases l
section
variable {K:Ζ}{te tb:TE}{kb:MK}
def R9(B:SK K tb kb) {Hf H:Hp}{d n:D}{v u:V}{c:Λ}(s:pO Hf H) (r:qB K Hf d v) (C:qB K Hf n u) (e:Hq kb n d=some c) (Q:VK) (q:∀l p,pO H l->Ac K l p c->Q (.ref p) l):tb [some v,some u] H Q:=by
 obtain⟨y,E,e⟩:=oBq.mp e;have G:pU K Hf [d,n] [v,u]:=.cons r (.cons C .nil);have R:=GT (K:=K) (N:=[("" : Str), ""]) s G;have I:qe K H Hf Hf [some (.sh d),some (.sh n)] [some v,some u] H [[],[]]:=R;refine B I (a:=y.1) (S':=y.2) E Q λJ l L w F t R2 x ow=>?_
 split at e
 .rename_i k hk;rw[hk]at x;have M:=Fx e;cases x with
  |sh z =>
   rw[M]at z;obtain⟨p,rfl,O⟩:=Fo (z.mono R2.sub);exact q l p t.sh O
 .cases e
def Vq(M:SK K tb kb) {Hf:Hp}{E:D}{G:V}(O:qB K Hf E G) (Q:VK):∀{ds:List D}{vs:List V}{u:D}{n:V}{r:Λ}{d:D}{H:Hp},pO Hf H->pU K Hf ds vs->qB K Hf u n->SB kb E ds u r=some d->(∀y v,pO H y->qB K Hf d v->Q v y) ->
  Kr K (λv H Q=>tb [some v,some G] H Q) vs n r H Q:=by
 intro ds
 induction ds with
 |nil =>
  intro vs u n r d H s l z e q;cases vs with
  |cons=>exact absurd l.1 (by simp)
  |nil=>cases e;exact q H n (.refl _) z
 |cons x ds I =>
  intro vs u n r d H s l z e q;cases vs with
  |nil=>exact absurd l.1 (by simp)
  |cons v vs =>
   obtain⟨c,P,e⟩:=oBq.mp e;have J:qB K Hf x v:=l.2 0 x v rfl rfl;have rt:pU K Hf ds vs:=⟨by have:=l.1;simpa using this,λi a b h1 h2=>l.2 (i+1) a b (by simpa using h1) (by simpa using h2)⟩
   refine R9 M s J O P _ λy p t R=>⟨t,p,c,rfl,R,?_⟩
   by_cases L:HT.qf c r=true
   .rw [qd L]at e ⊢;exact I (s.trans t) rt J e λB w C=>q B w (t.trans C)
   .rw [qh L]at e ⊢;exact I (s.trans t) rt z e λB w C=>q B w (t.trans C)
def Pl{i:Nat}{l:ML}(hl:SQ K te l) (L:SK K tb kb):SR K (Os K i (sW te wk) tb) (Hn i l kb):=by
 intro H₀ B Hf S σ H Fs d S' R e Q q;obtain⟨x,Y,e⟩:=oBq.mp e;obtain⟨dm,e2,e⟩:=oBq.mp e;obtain⟨d',y,e⟩:=oMq.mp e;cases e;refine hl R (ds:=x.1) (S':=x.2) Y _ λn M Fs1 p1 s t1 t h1 z=>?_
 obtain⟨O,F,hv,hF,rm⟩:=t.rep i _ (Ve e2);have u:qB K n dm O:=by cases rm with|sh r=>exact r
 refine⟨p1,s,O,rfl,hv,h1,λH2 C=>?_⟩
 generalize x.1=E at *;cases E with
 |nil=>cases y
 |cons P E =>
  cases s with
  |nil=>exact absurd z.1 (by simp)
  |cons U vs =>
   obtain⟨c,e4,y⟩:=oBq.mp y;have X:qB K n P U:=z.2 0 P U rfl rfl;have rt:pU K n E vs:=⟨by have:=z.1;simpa using this,λi a b h1 h2=>z.2 (i+1) a b (by simpa using h1) (by simpa using h2)⟩
   refine R9 L (t.sub.trans C) X u e4 _ λH' p G hp=>⟨G,p,c,rfl,hp,?_⟩
   refine Vq L u Q ((t.sub.trans C).trans G) rt X y λI w s3 rw=>?_
   have J:pO M I:=(C.trans G).trans s3;have ts:yM n M Fs1 n I Fs1:=⟨.refl _,J,λ_ h=>h,λb h g=>absurd h g⟩
   exact q n I Fs1 w (t1.trans ts) (t.laid J) (rw.mono (t.sub.trans J))
end
def Tp(S:AS) (i:Nat) (l:ML) (n:MK):Hn i l n S=(l S).bind λx=>(SJ x.2 i).bind λr=>(WI n r x.1).map λd=>(d,x.2):=rfl
end Z
namespace Mr
open PySem PySem.W L2 PySem.Calls
open PySem.Spec PyProof.Rows
def DA.of{X:Cx}{x m:Str}{scope:km}{cl:List (Str×Addr)}(kind:scope.kind = .function) (co:scope.isCoroutine=false) (gen:scope.isGenerator=false) (h:(scope.names.all λp=>(p.2 != .cell) && (p.2 != .free || p.1 == m))=true)
  (xl:scope.names.lookup x=some .local) (ml:scope.names.lookup m=some .free) (n:∃c,cl=[(m,c)]/\X.env.cells.lookup m=some c) (vis:X.env.kindOf m=some .cell):DA X x m scope cl :=
 ⟨kind,co,gen,λy l z=>by
  have:=iO.mp h y l;rw[z]at this;exact absurd this (by simp),xl,ml,λy l=>by
  have:=iO.mp h _ (PySem.mem_of_lookup l);simpa using this,n,vis⟩
def okC{P:jC}{w:jF}{K:Ζ}{mg:Str->Υ}{base:Heap}{x qual:Str}{st:Stmt}{f:Addr}{fd:jQ}{N ps:List Str}{k:Nat}{sp:Sp}(F:VJ K x qual st f fd) (S:oW N ps (oH st)) (len:∀vs H Q E,sp vs H Q E->vs.length=ps.length)
  (l:∀(A:Around) (outer:List Env) (s:Shared) (H:Hp) (vs:List V) (Q:VK) (E:XK),sZ k (A.deeper (kQ qual (oH st) s.heap.objs.size f fd.code))->sp vs H Q E ->
   ∃t,Me (IZ Tv P w K mg base N qual (oH st) f fd.code A outer s H E).nox (uF st) t/\t { nx:=λ_ u=>Q .non u,rt:=Q } (yD N vs) H):yk P w K mg base Tv (k+1) f fd ps sp:=by
 obtain⟨B,od,kV,y,pm,C,G,ct,z,rfl,lk,n⟩:=F.ex;refine V1 lk n S len λA outer s H vs Q E hr r=>?_
 obtain⟨t,h,q⟩:=l A outer s H vs Q E hr r;exact⟨t,h.nox,q⟩
end Mr
namespace MrS
open PySem PySem.W PyProof.Rows
section
variable {prog:jC}{w:jF}{A:Around}{E:Ψ}{s:Shared}{κ:jS}{Pk:jB->Prop}{lt:jB->jB->Bool}{ix:jB->Nat}{a kS:Addr}{vs:Ξ}{keys:Ω}{e e1:Nat}{P:PySem.Fin->Shared->Prop}
def Jt{xs:Array jB}{p:Array (Nat×Nat×Nat)}{g:Nat}{κ':jS}(hk:s.heap.get? kS=some (jE "list" keys e)) (ha:s.heap.get? a=some (jE "list" #[] e1)) (n:kS≠a) (y:keys.size<=jD) (r:xs.size<=jD)
  (h:∀h' tk c,(∀b o,b≠a->b≠kS->s.heap.get? b=some o->h'.get? b=some o)->h'.get? a=some (jE "list" (xs.map (·.2)) c)->P (.done (.ret .none)) { s with heap:=h',toks:=tk }) :
  jy (jA prog w) A (ksk_tail a false e1 (.ref kS) (NN κ' xs p g)) P E s:=by
 have x:=cg.update s.heap kS (Obj.mapSeq λ_=>(#[]:Ω))
 have l:(s.heap.update kS (Obj.mapSeq λ_=>(#[]:Ω))).get? a=some (jE "list" #[] e1):=(x.2 a n.symm).trans ha
 have z:=cg.update (s.heap.update kS (Obj.mapSeq λ_=>(#[]:Ω))) a (Obj.mapSeq λ_=>xs.map (·.2))
 obtain⟨t,u⟩:∃t,((s.heap.update kS (Obj.mapSeq λ_=>(#[]:Ω))).update a (Obj.mapSeq λ_=>xs.map (·.2))).get? a=some (jE "list" (xs.map (·.2)) t):=⟨_,jW l λ_=>xs.map (·.2)⟩
 unfold ksk_tail;dsimp only;refine jx (jZ hk rfl ?_ y (aE _));refine jx (ku ?_);refine jx (mj l rfl ?_);refine jx (jZ l rfl ?_ (aE _) (by simp only[bU,if_false,gQ];exact Nat.le_succ_of_le r))
 simp only[bne_self_eq_false,bU,if_false];exact jz (h _ _ t (λb o b1 b2 e=>(z.2 b b1).trans ((x.2 b b2).trans e)) u)
def Va(hk:s.heap.get? kS=some (jE "list" keys e)) (ha:s.heap.get? a=some (jE "list" #[] e1)) (t:kS≠a) (u:keys.size=vs.length) (L:vs.length<64)
  (H:2<=vs.length->∀Q:jS->Shared->Prop,Q κ s->jy (jA prog w) A (lN keys) Q E s)
  (C:CM prog w A s κ Pk lt) (I:∀x,x∈keys.zip vs.toArray->Pk x) (M:∀(j r:Nat) (x y:jB),j<r->(keys.zip vs.toArray)[j]?=some x->(keys.zip vs.toArray)[r]?=some y->lt x y=false->lt y x=false->ix x<=ix y)
  (h:∀(xs:Array jB) h' tk c,xs.Perm (keys.zip vs.toArray)->DK (ltx lt ix) xs 0 vs.length->(∀b o,b≠a->b≠kS->s.heap.get? b=some o->h'.get? b=some o)->h'.get? a=some (jE "list" (xs.map (·.2)) c)->P (.done (.ret .none)) { s with heap:=h',toks:=tk }) :
  jy (jA prog w) A (ksk_end a false vs.toArray e1 (.ref kS) keys) P E s:=by
 have z:(keys.zip vs.toArray).size=vs.length:=by rw[Array.size_zip,u,au,ir]
 have O:jD=16777216:=jN;unfold ksk_end;dsimp only;rw[qh (by decide)]
 by_cases h2:vs.toArray.size<2
 .rw [qd h2,qd h2];refine jx (jz ?_);rw[StateT.run_pure];refine jx (jz ?_);dsimp only;rw[qh (by decide)]
  refine Jt (κ':=general') (p:=#[]) (g:=7) (xs:=keys.zip vs.toArray) hk ha t (by lia) (by lia) λh' tk c l n=>h _ h' tk c (ja.refl _) ?_ l n
  intro p q x y h1 U X ex J;rw[au]at h2;have:p=q:=by lia
  subst this;rw[ex]at J;cases J;exact(C.od.ltx ix).refl _ (I _ (aQq ex))
 .rw [qh h2,qh h2];rw[au]at h2;refine jx (H (by lia) _ ?_)
  rw[qh (by decide)]
  refine jx (jO (GN (E:=E) (ix:=ix) (arr:=keys.zip vs.toArray) (g:=7) C I (by lia) (by lia) M (Q:=λ_ B=>∃xs p G,B=NN κ xs p G/\xs.Perm (keys.zip vs.toArray)/\DK (ltx lt ix) xs 0 (keys.zip vs.toArray).size) λxs p G l n=>⟨xs,p,G,rfl,l,n⟩) ?_ λ_ _ e=>e)
  rintro⟨⟨⟩,B⟩ Y ⟨rfl,xs,p,G,rfl,l,n⟩;dsimp only;rw[z]at n;exact Jt hk ha t (by lia) (by rw[l.size_eq,z];lia) λh' tk c R S=>h xs h' tk c l n R S
end
end MrS
namespace Mr
open PySem PySem.W L2 PySem.Calls
open PySem.Spec PyProof.Rows
section
variable {X:Cx}{CX:Li}{k:Nat}{f:Addr}{fd:jQ}{ps:List Str}{sp:Sp}{dvs:List V}{ds:Ξ}{XE:XK}
def TY{n:Around}{E':Ψ}{y:Φ}{σ:St}{H:Hp}{s:Shared}{Q:VK}{us:Ξ}{vs:List V}(B:n.frames=X.A.frames) (F:yk X.prog X.w X.K X.mg X.base CX k f fd ps sp) (hr:sZ k n) (C:vY X.K fd ps ds) (hd:pS dvs ds)
  (E:∀H s e x,¬ CX X.stack H s XE e x) (I:Inv X y σ H s) (r:pS vs us) (h:sp (vs++dvs) H Q XE):jy (jA X.prog X.w) n (call (.ref f) us) (EP X y σ Q) E' s:=by
 have z:pS (vs++dvs) (us++ds):=r.append hd;have hl:(us++ds).length=ps.length:=by rw[←z.length];exact F.len _ _ _ _ h
 have l:=I.env0;have G:Q5 X.prog X.w X.K X.mg X.base n X.stack s H:=⟨B.trans l.frames,l.mod,l.bs,l.bsz,l.funs,l.frf,l.hok,l.bare,l.tb⟩;refine wpAny_call (lg (F.run n X.stack s H ⟨us,[]⟩ (us++ds) (vs++dvs) Q XE hr G (C s us I.kIn hl) z h) λr x t=>?_)
 cases r with
 |error e=>exact absurd t (E H s e x)
 |ok fl =>
  cases fl with
  |ret u=>exact I.after t
  |next=>exact False.elim t
  |brk=>exact False.elim t
  |cont=>exact False.elim t
def LI(sp:Sp) (XE:XK):List V->List V->Hp->(List V->Hp->Prop)->Prop
 | [],ks,H,Q=>Q ks H
 |x::xs,ks,H,Q=>sp [x] H (λv l=>LI sp XE xs (ks++[v]) l Q) XE
structure RB (X:Cx) (og:Φ) (H:Hp) (s:Shared) (a t kS:Addr) (e1:Nat) (kA:Ω) (e:Nat) (to:Obj):Prop where
 fa:vk X og H a
 ft:vk X og H t
 fk:vk X og H kS
 ha:s.heap.get? a=some (jE "list" #[] e1)
 ht:s.heap.get? t=some to
 hk:s.heap.get? kS=some (jE "list" kA e)
 tc:∀v,to.data ≠ .cell v
def OV{L:Around}{E':Ψ}{l:Φ}{σ:St}{H:Hp}{s:Shared}{Q:VK}{x:V}{u:Value}{a t C:Addr}{E e:Nat}{G:Ω}{to:Obj}(Y:L.frames=X.A.frames) (F:yk X.prog X.w X.K X.mg X.base CX k f fd ps sp) (hr:sZ k L) (hb:vY X.K fd ps [])
  (hx:∀H s e y,¬ CX X.stack H s XE e y) (I:Inv X l σ H s) (O:RB X l H s a t C E G e to) (r:qk x u) (h:sp [x] H Q XE) :
  jy (jA X.prog X.w) L (call (.ref f) [u]) (λM y=>∃v B,Inv X l σ B y/\qk v M/\Q v B/\RB X l B y a t C E G e to) E' s:=by
 have P:∀(R:Ω) (n:Nat) v,(jE "list" R n).data ≠ .cell v:=λR n v z=>by cases z
 have I2:Inv X (l++[(a,jE "list" #[] E),(t,to),(C,jE "list" G e)]) σ H s:=I.pins_of λp hp=>by
  rcases mAq.mp hp with z|z
  .exact I.pin p (ay _ z)
  .simp only [ah,bB,or_false]at z;rcases z with rfl|rfl|rfl
   .exact ⟨O.ha,O.fa.1,O.fa.2.1,O.fa.2.2.1,P _ _⟩
   .exact ⟨O.ht,O.ft.1,O.ft.2.1,O.ft.2.2.1,O.tc⟩
   .exact ⟨O.hk,O.fk.1,O.fk.2.1,O.fk.2.2.1,P _ _⟩
 refine jO (TY (E':=E') Y F hr hb .nil hx I2 (.cons r .nil) (by rw[aNq];exact h)) (λM y hq=>?_) λ_ _ e=>e
 obtain⟨v,B,J,rv,q⟩:=hq;have S:=J.pin (a,jE "list" #[] E) (by simp)
 have pt:=J.pin (t,to) (by simp)
 have U:=J.pin (C,jE "list" G e) (by simp)
 exact⟨v,B,J.unpinned,rv,q,⟨S.2.1,O.fa.2⟩,⟨pt.2.1,O.ft.2⟩,⟨U.2.1,O.fk.2⟩,S.1,pt.1,U.1,O.tc⟩
def OS{U:Around}{E':Ψ}{J:Φ}{σ:St}{H:Hp}{s:Shared}{xs:List V}{vs:Ξ}{a t y:Addr}{M e0:Nat}{to:Obj}{P:PySem.Fin->Shared->Prop}{Q0:List V->Hp->Prop}(hA:U.frames=X.A.frames) (F:yk X.prog X.w X.K X.mg X.base CX k f fd ps sp) (hr:sZ k U) (Q:vY X.K fd ps [])
  (hx:∀H s e B,¬ CX X.stack H s XE e B) (I:Inv X J σ H s) (O:RB X J H s a t y M #[] e0 to) (r:pS xs vs) (hz:vs.length<=1000) (n1:y≠a) (n2:y≠t) (hK:LI sp XE xs [] H Q0)
  (h:∀B E ks n e,Inv X J σ E B->RB X J E B a t y M n e to->pS ks n.toList->ks.length=xs.length->Q0 ks E->jy (jA X.prog X.w) U (ksk_end a false vs.toArray M (.ref y) n) P E' B) :
  jy (jA X.prog X.w) U (ksk_rest a (.ref f) false vs.toArray M (.ref y)) P E' s:=by
 have hl:=r.length;have hsl:jD=16777216:=jN;unfold ksk_rest;refine jx (mw ?_)
 first
  |rw[gd]
  | (rw[←ip];simp only[gZ])
  |rw[←ip]
 refine jx (ksk_fold (λi B=>∃E ks n e,Inv X J σ E B/\RB X J E B a t y M n e to/\pS ks n.toList/\ks.length=i/\LI sp XE (xs.drop i) ks E Q0) vs 0 s
  ⟨H,[],#[],e0,I,O,.nil,rfl,hK⟩ ?step ?done)
 case step =>
  rintro j u B hu ⟨E,ks,n,e,I',Y,R,lk,l⟩;simp only[aU]at lk l ⊢;have hj:j<vs.length:=(gSq.mp hu).1;obtain⟨u2,S,rx⟩:=r.get (i:=j) (x:=xs[j]'(by lia)) (gEg (by lia))
  rw[hu]at S;cases S;rw[aA (by lia:j<xs.length)]at l
  refine jx (lH (jO (OV (E':=λ_ _=>False) hA F hr Q hx I' Y rx l) (λL C he=>?_) λ_ _ hF=>hF.elim))
  obtain⟨v,H2,I2,rv,q,G⟩:=he;dsimp only;have hz2:n.size<=1000:=by
   have q1:n.size=ks.length:=by
    rw[←cH]
    first|exact R.length|exact R.length.symm
   lia
  have s1:=cg.update C.heap y (Obj.mapSeq (·.push L));obtain⟨c2,hc2⟩:∃c2,(C.heap.update y (Obj.mapSeq (·.push L))).get? y=some (jE "list" (n.push L) c2):=⟨_,jW G.hk (·.push L)⟩;refine jx (jZ G.hk rfl ?_ (by lia) (bq (dQ (iX ..)) (by lia)))
  have I3:Inv X J σ H2 { C with heap:=C.heap.update y (Obj.mapSeq (·.push L)),toks:=C.toks }:=vP (fp:=[y]) I2 (λb o Q e=>(s1.2 b (λz=>Q (by simp[z]))).trans e) (λb Q=>by rw[mSq.mp Q];exact G.fk)
  refine jz ⟨rfl,H2,ks++[v],n.push L,c2,I3,⟨G.fa,G.ft,G.fk,(s1.2 a n1.symm).trans G.ha,(s1.2 t n2.symm).trans G.ht,hc2,G.tc⟩,?_,by simp[lk],q⟩
  rw[Array.toList_push];exact R.append (.cons rv .nil)
 case done =>
  rintro B ⟨E,ks,n,e,I',Y,R,lk,l⟩;rw[aU]at lk l;rw[cJ (by lia)]at l
  refine jx (nQ Y.hk rfl ?_);exact h B E ks n e I' Y R (by lia) l
end
section
variable {X:Cx}{CX:Li}{k:Nat}{f:Addr}{fd:jQ}{ps:List Str}{sp:Sp}{XE:XK}
def YO{B:Φ}{σ:St}{H:Hp}{s:Shared}{h':Heap}{a x:Addr}{o:HO}{t':Nat}(I:Inv X B σ H s) (fa:vk X B H a) (fk:vk X B H x) (kp:∀b u,b≠a->b≠x->s.heap.get? b=some u->h'.get? b=some u)
  (new:qW X.prog X.w (qP H a o) h' a o):Inv X B σ (qP H a o) { s with heap:=h',toks:=t' }:=by
 have hf:∀b∈[a,x],vk X B H b:=λb t=>by
  simp only[ah,bB,or_false]at t;rcases t with rfl|rfl
  .exact fa
  .exact fk
 have k:∀b u,b∉[a,x]->s.heap.get? b=some u->h'.get? b=some u:=λb u t e=>kp b u (λz=>t (by simp[z])) (λz=>t (by simp[z])) e
 have E:∀b u,H b=some u->b∉[a,x]:=λb u e z=>by rw[(hf b z).1]at e;cases e
 have y:∀b u,H b=some u->b≠a:=λb u e z=>by rw[z,fa.1]at e;cases e
 refine I.step (g':=s.gens) (d':=s.drawn) (ch:=[a,x]) (λb t=>?_) (λb u _ _ l e _=>k b u l e) (λb u _ _ l e _=>⟨u.slots,k b u l e⟩)
  (λb u l _ n=>by rw[oP (λz=>l (by simp[z]))];exact n) (λb u l e=>⟨u,k b u l e⟩) (λb C e=>by rw[oP (y _ _ e)];exact e) (λb u C e=>by rw[oP (y _ _ e)];exact e) (λb _ e=>by rw[oP (y _ _ e)];exact e) (λm G=>?_) (λb u e=>?_) I.bare
 .obtain ⟨_,f1,_,J,L,M⟩:=hf b t;exact⟨J,f1,L,M⟩
 .obtain ⟨ob,O,P,Q,r⟩:=G;exact⟨ob,O,P,k _ _ (λz=>(hf _ z).2.1 rfl) Q,r⟩
 .by_cases c:b=a
  .subst c;rw[oX]at e;cases e;exact new
  .rw [oP c]at e;refine(I.hok b u e).stay (λc v l q=>k c v ?_ q) (λc q=>by rw[oP (y _ _ q)];exact q) (λc C q=>by rw[oP (y _ _ q)];exact q) λc C q=>by rw[oP (y _ _ q)];exact q
   rcases l with rfl|l
   .exact E _ _ e
   .exact E _ _ l
def Z2(cd:Addr->Λ) (n:Addr->Nat) (l r:Δ):Prop:=r.Perm l/\r.Pairwise λx y=>HT.qf (cd y) (cd x)=false/\(HT.qf (cd x) (cd y)=true∨n x<=n y)
def Qk(l:Δ) (Q:VK) (ks:List V) (H:Hp):Prop:=∃(n:Δ) (cs:List Λ) (cd:Addr->Λ) (t:Addr->Nat),ks=n.map V.ref/\cs.length=n.length/\(∀(i:Nat) (p:Addr) (c:Λ),n[i]?=some p->cs[i]?=some c->yc H p c/\c≠[]) /\
 (∀(j:Nat) (z:Addr) (c:Λ),l[j]?=some z->cs[j]?=some c->cd z=c)/\(∀(j r:Nat) (z s:Addr),j<r->l[j]?=some z->l[r]?=some s->HT.qf (cd z) (cd s)=false->HT.qf (cd s) (cd z)=false->t z<=t s)/\∀a u,H a=none->Z2 cd t l u->Q (.ref a) (qP H a (.lst (u.map V.ref)))
def LO{A':Around}{E':Ψ}{og:Φ}{σ:St}{H:Hp}{s:Shared}{l:Δ}{a:Addr}{n:Nat}{P:PySem.Fin->Shared->Prop}{Q:VK}(hA:A'.frames=X.A.frames) (hu:A'.units+40<jT) (F:yk X.prog X.w X.K X.mg X.base CX k f fd ps sp) (hr:sZ k A') (hb:vY X.K fd ps [])
  (M:∀H s e s',¬ CX X.stack H s XE e s') (I:Inv X og σ H s) (fa:vk X og H a) (ho:s.heap.get? a=some (jE "list" (l.map aj).toArray n)) (hz:l.length<64) (hK:LI sp XE (l.map V.ref) [] H (Qk l Q))
  (h:∀s' E,Inv X og σ E s'->Q (.ref a) E->P (.done (.ret .none)) s') :
  jy (jA X.prog X.w) A' (ksk_tree a (.ref f) false) P E' s:=by
 have hsl:jD=16777216:=jN;have ha:a<s.heap.objs.size:=ag ho;have s1:=cg.update s.heap a (Obj.mapSeq λ_=>(#[]:Ω))
 obtain⟨e1,ho1⟩:∃e1,(s.heap.update a (Obj.mapSeq λ_=>(#[]:Ω))).get? a=some (jE "list" #[] e1):=⟨_,jW ho λ_=>#[]⟩
 have hsz:(s.heap.update a (Obj.mapSeq λ_=>(#[]:Ω))).objs.size=s.heap.objs.size:=bO ..
 unfold ksk_tree;refine jx (nQ ho rfl ?_);refine jx (jZ ho rfl ?_ (by rw[au,lMq];lia) (aE _))
 refine jx (mj ho1 rfl ?_);refine jx (mW ?_ (by show (l.map aj).length<=_;rw[lMq];lia))
 refine jx (kK ?_ (aE _));refine jK ?_;have hkS:((s.heap.update a (Obj.mapSeq λ_=>(#[]:Ω))).push (jE "tuple" (l.map aj).toArray 0)).objs.size=s.heap.objs.size+1:=by rw[lj,hsz]
 have I3:Inv X og σ H { s with heap:=((s.heap.update a (Obj.mapSeq λ_=>(#[]:Ω))).push (jE "tuple" (l.map aj).toArray 0)).push (jE "list" #[] 0),toks:=s.toks }:=vP (fp:=[a]) I (λb o hb e=>ae _ (ae _ ((s1.2 b (λz=>hb (by simp[z]))).trans e))) (λb hb=>by rw[mSq.mp hb];exact fa)
 have ft:vk X og H s.heap.objs.size:=I.fpOk (ab _) (I.hok.fresh (ab _));have fk:vk X og H (s.heap.objs.size+1):=I.fpOk (bz _) (I.hok.fresh (bz _));have ht:(((s.heap.update a (Obj.mapSeq λ_=>(#[]:Ω))).push (jE "tuple" (l.map aj).toArray 0)).push (jE "list" #[] 0)).get? s.heap.objs.size=some (jE "tuple" (l.map aj).toArray 0):=by
  refine ae _ ?_;rw[←hsz];exact aC _ rfl
 have hk:(((s.heap.update a (Obj.mapSeq λ_=>(#[]:Ω))).push (jE "tuple" (l.map aj).toArray 0)).push (jE "list" #[] 0)).get? (s.heap.objs.size+1)=some (jE "list" #[] 0):=by
  rw[←hkS];exact aC _ rfl
 have hka:s.heap.objs.size+1≠a:=by lia
 show jy _ _ (ksk_rest a (.ref f) false (l.map aj).toArray e1 (.ref ((s.heap.update a (Obj.mapSeq λ_=>(#[]:Ω))).push (jE "tuple" (l.map aj).toArray 0)).objs.size)) _ _ _
 rw[hkS];refine OS (to:=jE "tuple" (l.map aj).toArray 0) (t:=s.heap.objs.size) (Q0:=Qk l Q) hA F hr hb M I3 ⟨fa,ft,fk,ae _ (ae _ ho1),ht,hk,λv z=>by cases z⟩ (vn l) (by rw[lMq];lia) hka (by lia) hK λs' E ks kA e I' O' rk lk q=>?_
 obtain⟨C,cs,cd,ia,rfl,lc,hE,hcd,hia,q⟩:=q;have ei:=uj rk;rw[lMq,lMq]at lk;obtain rfl:kA=(C.map aj).toArray:=by rw[←ei]
 have S:∀p∈C,HT.uZ s'.heap p (qz E p)/\qz E p≠[]:=λp U=>by
  obtain⟨i,hi⟩:=ak.mp U;have il:=(gSq.mp hi).1;obtain⟨h1,h2⟩:=hE i p (cs[i]'(by lia)) hi (gEg (by lia))
  rw[h1.eq];exact⟨Wk I' h1,h2⟩
 have B:∀j (x:jB),((C.map aj).toArray.zip (l.map aj).toArray)[j]?=some x->∃p z,x=(.ref p,.ref z)/\C[j]?=some p/\l[j]?=some z:=λj x J=>by
  rw[iP,fB,bN,gMq,gMq]at J;obtain⟨h1,h2⟩:=J;obtain⟨p,L,p2⟩:=oMq.mp h1;obtain⟨z,R,z2⟩:=oMq.mp h2;exact⟨p,z,gG p2.symm z2.symm,L,R⟩
 have Y:∀(j:Nat) (p z:Addr),C[j]?=some p->l[j]?=some z->qz E p=cd z:=λj p z L R=>by
  have jl:=(gSq.mp L).1;have cj:cs[j]?=some (cs[j]'(by lia)):=gEg (by lia)
  rw[(hE j p _ L cj).1.eq,hcd j z _ R cj]
 refine MrS.Va (κ:=mC false) (Pk:=λx=>∃p,x.1 = .ref p/\p∈C) (lt:=ltM (qz E)) (ix:=λx=>ia (qU x.2)) O'.hk O'.ha hka (by rw[au,lMq,lMq,lk]) (by rw[lMq];exact hz)
  (λh2 Q q=>V4 (by rw[lMq]at h2;lia) (λp U=>(S p U).1) (λp U=>(S p U).2) q) (YQ hu λp U=>(S p U).1) (λx M=>?_) (λj r x y J M hy O G=>?_) λxs h' tk c q1 q2 q3 q4=>?_
 .obtain ⟨j,J⟩:=gJ.mp M;obtain⟨p,z,rfl,L,_⟩:=B j x J;exact⟨p,rfl,mGq L⟩
 .obtain ⟨p,z,rfl,L,R⟩:=B j x M;obtain⟨p',z',rfl,p2,z2⟩:=B r y hy;have O:HT.qf (qz E p) (qz E p')=false:=O;have G:HT.qf (qz E p') (qz E p)=false:=G;rw[Y j p z L R,Y r p' z' p2 z2]at O G;exact hia j r z z' J R z2 O G
 .have sh2:∀x∈xs.toList,∃p z,x=(.ref p,.ref z)/\qz E p=cd z:=λx M=>by
   obtain⟨j,J⟩:=gJ.mp (q1.mem_iff.mp (Array.mem_toList_iff.mp M));obtain⟨p,z,rfl,L,R⟩:=B j x J;exact⟨p,z,rfl,Y j p z L R⟩
  have ez:(xs.map (·.2)).toList=(xs.toList.map λx=>qU x.2).map aj:=by
   rw[iJ,mPq];refine mCq λx M=>?_
   obtain⟨p,z,rfl,_⟩:=sh2 x M;rfl
  have pz:(xs.toList.map λx=>qU x.2).Perm l:=by
   have:=(Array.perm_iff_toList_perm.mp q1).map λx=>qU x.2
   refine this.trans ?_;rw[iP,gZ];refine cM.of_eq ?_;have e:((C.map aj).zip (l.map aj)).map (λx=>qU x.2)=(((C.map aj).zip (l.map aj)).map jq).map qU:=by rw[mPq];rfl
   rw[e,iQ (by rw[lMq,lMq];lia),mPq]
   exact fU l
  have st:Z2 cd ia l (xs.toList.map λx=>qU x.2):=by
   refine⟨pz,?_⟩;rw[aF,bZ];intro i j hi J hij;have ei:=gEg hi;have ej:=gEg J;rw[ee]at ei ej;have sg:=q2 i j _ _ (aE _) (bH hij) (by rw[lMq];have:=pz.length_eq;rw[lMq]at this;lia) ei ej
   obtain⟨p,z,e1,c1⟩:=sh2 _ (gRq hi);obtain⟨p',z',e2,c2⟩:=sh2 _ (gRq J);rw[e1,e2]at sg ⊢;obtain⟨O,G⟩:=MrS.rP.mp sg;have O:HT.qf (qz E p') (qz E p)=false:=O;rw[c1,c2]at O;refine⟨O,?_⟩;rcases G with G|G
   .have G:HT.qf (qz E p) (qz E p')=true:=G;rw[c1,c2]at G;exact .inl G
   .exact .inr G
  generalize xs.toList.map (λx=>qU x.2)=zs at ez pz st
  have fin:=q a zs O'.fa.1 st;refine h _ _ (YO I' O'.fa O'.fk (λb u b1 b2 e=>q3 b u b1 b2 e) (show qW X.prog X.w _ h' _ (.lst (zs.map V.ref)) from ⟨by rw[lMq,pz.length_eq];lia,zs.map aj,c,vn zs,?_⟩)) fin
  rw[q4,←ez]
def HE{E':Ψ}{x:Φ}{σ:St}{H:Hp}{s:Shared}{n:Δ}{l:Addr}{Q:VK}(F:yk X.prog X.w X.K X.mg X.base CX k f fd ps sp) (hr:sZ (k+1+1) X.A) (O:X.A.units+64<jT) (z:vY X.K fd ps [])
  (B:∀H s e y,¬ CX X.stack H s XE e y) (I:Inv X x σ H s) (hl:s.heap.IsList l (n.map aj).toArray) (C:n.length<64) (E:LI sp XE (n.map V.ref) [] H (Qk n Q)) :
  jy (jA X.prog X.w) X.A (call (.builtin "sorted") [.ref l] [(Str.ofString "key", .ref f)]) (EP X x σ Q) E' s:=by
 have G:jD=16777216:=jN;refine call_function_entry_kw nW nO nR (ksk_s1 _ _) ?_;unfold Builtin.«sorted»;refine jx (m:=checkCount "sorted" 1 1 _) (jz ?_);refine jx (collect_list hl ?_ (by rw[lMq];lia))
 refine jx (kK ?_ (by rw[lMq];lia))
 have r:((s.heap.push (jE "list" #[] 0)).update s.heap.objs.size (Obj.mapSeq (· ++ (n.map aj).toArray))).objs.size=s.heap.objs.size+1:=by
  rw[bO,lj]
 have u:(((s.heap.push (jE "list" #[] 0)).update s.heap.objs.size (Obj.mapSeq (· ++ (n.map aj).toArray))).push (jE "list" (n.map aj).toArray 0)).get? (s.heap.objs.size+1)=some (jE "list" (n.map aj).toArray 0):=by
  rw[←r];exact aC _ rfl
 have keep:∀b o,s.heap.get? b=some o->(((s.heap.push (jE "list" #[] 0)).update s.heap.objs.size (Obj.mapSeq (· ++ (n.map aj).toArray))).push (jE "list" (n.map aj).toArray 0)).get? b=some o:=λb o q=>by
  have t:b<s.heap.objs.size:=ag q;rw[dD _ _ _ (by rw[r];exact ao (bQ t)),bP _ _ _ _ (ao t),dD _ _ _ (ao t)]
  exact q
 show jy _ _ _ _ _ { s with heap:=((s.heap.push (jE "list" #[] 0)).update s.heap.objs.size (Obj.mapSeq (· ++ (n.map aj).toArray))).push (jE "list" (n.map aj).toArray 0) }
 rw[r];have J:Inv X x σ H { s with heap:=((s.heap.push (jE "list" #[] 0)).update s.heap.objs.size (Obj.mapSeq (· ++ (n.map aj).toArray))).push (jE "list" (n.map aj).toArray 0),toks:=s.toks }:=I.kept keep
 have fa:vk X x H (s.heap.objs.size+1):=I.fpOk (bz _) (I.hok.fresh (bz _));refine jx (jK (wpAny_call_entry_kw mX ⟨_,u,rfl⟩ mK ?body (ksk_l1 _ _)))
 case body =>
  show jy (jA X.prog X.w) X.A.in1.in1 (Builtin.«list.sort» ⟨[.ref (s.heap.objs.size+1)],[(Str.ofString "key", .ref f)]⟩) _ _ _;rw[ksk_t1];refine LO (Q:=Q) rfl (by show X.A.units+1+1+40<jT;lia) F hr.in1.in1 z B J fa u C E λy L M q=>⟨_,rfl,?_⟩
  exact jz ⟨_,rfl,.ref (s.heap.objs.size+1),L,M,rfl,q⟩
end
section
variable {X:Cx}{CX:Li}{k:Nat}{f:Addr}{fd:jQ}{ps:List Str}{sp:Sp}{XE:XK}
def Nu(K:Ζ) (sp:Sp) (XE:XK) (r:TA):TE:=λσ H Q=>r σ H λvs n=>∃(a:Addr) (l:Δ),vs=[.ref a]/\rN K n a (l.map V.ref)/\l.length<64/\LI sp XE (l.map V.ref) [] n (Qk l Q)
def JF{e:Expr}{B:TA}{p pos kp C:Pos}{x:Str}(F:yk X.prog X.w X.K X.mg X.base CX k f fd ps sp) (hr:sZ (k+1+1) X.A) (E:Gl X "sorted") (G:X.mg "sorted" = none) (l:Gl X x) (n:X.mg x=some (.ref f)) (J:vY X.K fd ps []) (L:∀H s e M,¬ CX X.stack H s XE e M) (ha:PA X [e] B)
  (r:(x == ("__debug__" : Str))=false:=by decide) (O:kx pos (jH [e] X.env)=(false,eval e X.env)::kx pos (jH [] X.env):=by rfl) (t:(kx pos (jH [e] X.env)).any (·.1)=false:=by rfl) :
  PE X (.Call (.Name "sorted" p) [e] [⟨some "key", .Name x C,kp⟩] pos) (Nu X.K sp XE B):=by
 intro P s σ H Q I h;refine ka (vt I E G boot_sorted ?_ (by decide) (by decide))
 refine callWith_kw (sV (ha pos P s σ H _ I h) λus s1 y=>kws_cons ?_) O t rfl rfl
 obtain⟨vs,H1,z,R,a,S,U,hS,Y,hK⟩:=y;subst U;obtain⟨u,rfl,ru⟩:=xo R;cases ru;refine Nh z l n (kws_nil ?_) r;obtain⟨ws,rv,hl,_⟩:=z.list hS;have ei:=uj rv;subst ei;exact HE F hr hr.units J L z hl.isList Y hK
end
end Mr
namespace Z
open PySem PySem.W L2 Mr Xe
open PySem.Spec PyProof.Rows
abbrev Cd:=Λ
def Gh{α:Type}(p:Cd×α):List (Cd×α)->List (Cd×α)
 | []=>[p]
 |q::l=>if HT.qf q.1 p.1=true then q::Gh p l else p::q::l
def IP{α:Type}:List (Cd×α)->List (Cd×α)
 | []=>[]
 |p::l=>Gh p (IP l)
theorem CY{α:Type}(p:Cd×α):∀l,(Gh p l).Perm (p::l)
 | []=>.refl _
 |q::l=>by
  unfold Gh;split
  .exact (cM.cons q (CY p l)).trans (cM.swap p q l)
  .exact .refl _
theorem wX{α:Type}:∀l:List (Cd×α),(IP l).Perm l
 | []=>.refl _
 |p::l=>(CY p (IP l)).trans (cM.cons p (wX l))
def Zw{α:Type}(ix:α->Nat) (p q:Cd×α):Prop:=HT.qf q.1 p.1=false/\(HT.qf p.1 q.1=true∨ix p.2<=ix q.2)
theorem Dv{α:Type}(ix:α->Nat) (p:Cd×α):∀l:List (Cd×α),l.Pairwise (Zw ix)->(∀q∈l,p.1=q.1->ix p.2<=ix q.2)->(Gh p l).Pairwise (Zw ix)
 | [],_,_=>dR ..
 |q::l,h,hp=>by
  obtain⟨h1,h2⟩:=cX.mp h;unfold Gh;split
  .rename_i e;refine cX.mpr ⟨λr hr=>?_,Dv ix p l h2 λr hr=>hp r (mCo _ hr)⟩
   rcases ah.mp ((CY p l).mem_iff.mp hr) with rfl|hr
   .exact ⟨HT.vp _ _ e,.inl e⟩
   .exact h1 r hr
  .rename_i e;have t:HT.qf q.1 p.1=false:=by simpa using e
   have n:∀r∈q::l,HT.qf r.1 p.1=false->Zw ix p r:=λr hr z=>by
    refine⟨z,?_⟩;cases c:HT.qf p.1 r.1 with
    |true=>exact .inl rfl
    |false=>exact .inr (hp r hr (HT.uh _ _ c z))
   refine cX.mpr ⟨λr hr=>n r hr ?_,h⟩
   rcases ah.mp hr with rfl|s
   .exact t
   .exact HT.tj _ _ _ t (h1 r s).1
theorem BE{α:Type}(ix:α->Nat):∀l:List (Cd×α),l.Pairwise (λp q=>p.1=q.1->ix p.2<=ix q.2)->(IP l).Pairwise (Zw ix)
 | [],_=>bg.nil
 |p::l,h=>by
  obtain⟨h1,h2⟩:=cX.mp h;exact Dv ix p _ (BE ix l h2) λq n=>h1 q ((wX l).mem_iff.mp n)
theorem Ng{α β:Type}(g:α->β):∀l:List (Cd×α),IP (l.map λp=>(p.1,g p.2))=(IP l).map λp=>(p.1,g p.2)
 | []=>rfl
 |p::l=>by
  have ins:∀l:List (Cd×α),Gh (p.1,g p.2) (l.map λp=>(p.1,g p.2))=(Gh p l).map λp=>(p.1,g p.2):=λl=>by
   induction l with
   |nil=>rfl
   |cons q l n =>
    simp only[ax,Gh];split
    .rw [n];rfl
    .rfl
  show Gh (p.1,g p.2) (IP (l.map _))=_;rw[Ng g l,ins];rfl
def Mj(f:MF) (d:D):Option Cd:=(f [d]).bind λa=>(match a with|.sh k=>G6 k|_=>none)
def DC(f:MF):List D->Option (List Cd)
 | []=>some []
 |d::ds=>(Mj f d).bind λc=>(DC f ds).map λcs=>c::cs
def Vz{f:MF}{d:D}{c:Cd}(h:Mj f d=some c):f [d]=some (.sh (dC c)):=by
 unfold Mj at h;obtain⟨a,n,l⟩:=oBq.mp h;cases a with
 |sh k=>rw[n,Fx l]
 |_=>cases l
theorem Hb{f:MF}:∀{ds:List D}{cs:List Cd},DC f ds=some cs->cs.length=ds.length
 | [],cs,h=>by cases h;rfl
 |d::ds,cs,h=>by
  obtain⟨c,r,h⟩:=oBq.mp h;obtain⟨l,n,h⟩:=oMq.mp h;cases h;simp[Hb n]
theorem Ep{f:MF}:∀{ds:List D}{cs:List Cd},DC f ds=some cs->∀(i:Nat) (d:D) (c:Cd),ds[i]?=some d->cs[i]?=some c->Mj f d=some c
 | [],cs,h=>λi d c e=>by cases e
 |d::ds,cs,h=>by
  obtain⟨c,l,h⟩:=oBq.mp h;obtain⟨n,r,h⟩:=oMq.mp h;cases h;intro i s t h1 h2;cases i with
  |zero=>cases h1;cases h2;exact l
  |succ i=>exact Ep r i s t (by simpa using h1) (by simpa using h2)
def Sh(ds:List D):Prop:=(∀d∈ds,∃M,d=dM M)∨∀d∈ds,∃c b,d = .tup [dC c,dI b]
section
variable {K:Ζ}{H:Hp}{v:V}
theorem FO{α:Type}(g:α->D) (r:∀a b v,qB K H (g a) v->qB K H (g b) v->a=b):∀{as bs:List α}{vs:List V},pU K H (as.map g) vs->pU K H (bs.map g) vs->as=bs
 | [],[],_,_,_=>rfl
 | [],b::bs,vs,h1,h2=>by have l:=h1.1;have n:=h2.1;simp at l n;lia
 |a::as,[],vs,h1,h2=>by have l:=h1.1;have n:=h2.1;simp at l n;lia
 |a::as,b::bs,vs,h1,h2=>by
  obtain⟨v,x,rfl,s,t⟩:=pU.cons_inv (d:=g a) (ds:=as.map g) h1;obtain⟨y,u,e,b1,b2⟩:=pU.cons_inv (d:=g b) (ds:=bs.map g) h2;cases e;rw[r a b _ s b1,FO g r t b2]
def Kp{α:Type}{g:α->D}(l:∀a b v,qB K H (g a) v->qB K H (g b) v->a=b) {as bs:List α}(h1:qB K H (.list (as.map g)) v) (h2:qB K H (.list (bs.map g)) v):as=bs:=by
 obtain⟨p,t,rfl,n,r⟩:=h1.list_inv;obtain⟨u,s,e,b1,b2⟩:=h2.list_inv;cases e;rw[n]at b1;cases b1;exact FO g l r b2
def MY{α:Type}{g:α->D}(l:∀a b v,qB K H (g a) v->qB K H (g b) v->a=b) {as bs:List α}(h1:qB K H (.tup (as.map g)) v) (h2:qB K H (.tup (bs.map g)) v):as=bs:=by
 obtain⟨p,t,rfl,n,r⟩:=h1.tup_inv;obtain⟨u,s,e,b1,b2⟩:=h2.tup_inv;cases e;rw[n]at b1;cases b1;exact FO g l r b2
def M4:∀(a b:Int) (v:V),qB K H (.int a) v->qB K H (.int b) v->a=b:=λa b v h1 h2=>by cases h1;cases h2;rfl
def XJ{ds:List D}(h:Sh ds) {d d':D}(m:d∈ds) (l:d'∈ds) (r:qB K H d v) (r':qB K H d' v):d=d':=by
 have n:∀(a b:Ϝ) (v:V),qB K H (dI a) v->qB K H (dI b) v->a=b:=λa b v h1 h2=>Kp (g:=D.int) M4 h1 h2
 rcases h with h|h
 .obtain ⟨M,rfl⟩:=h d m;obtain⟨G,rfl⟩:=h d' l;rw[Kp (g:=dI) n r r']
 .obtain ⟨c,b,rfl⟩:=h d m;obtain⟨I,J,rfl⟩:=h d' l;obtain⟨p,L,rfl,s,t⟩:=r.tup_inv;obtain⟨O,u,e,b1,b2⟩:=r'.tup_inv;cases e;rw[s]at b1;cases b1;obtain⟨P,Q,rfl,x,y⟩:=t.cons_inv;obtain⟨R,S,e,z,B⟩:=b2.cons_inv;cases e;obtain⟨U,X,rfl,C,Y⟩:=y.cons_inv;obtain⟨v4,w4,e,E,y4⟩:=B.cons_inv;cases e;rw[MY (g:=λr:Ϝ=>D.tup (r.map .int)) (λa b v h1 h2=>MY (g:=D.int) M4 h1 h2) x z,n _ _ _ C E]
def X7{ds:List D}(h:Sh ds) {d:D}(m:d∈ds) (r:qB K H d v):∃p,v = .ref p:=by
 rcases h with h|h
 .obtain ⟨M,rfl⟩:=h d m;obtain⟨p,_,e,_⟩:=r.list_inv;exact⟨p,e⟩
 .obtain ⟨c,b,rfl⟩:=h d m;obtain⟨p,_,e,_⟩:=r.tup_inv;exact⟨p,e⟩
theorem NH{ds:List D}:∀{vs:List V}{es:List D},Sh ds->(∀e∈es,e∈ds)->pU K H es vs->∃l:Δ,vs=l.map V.ref
 | [],es,_,_,_=>⟨[],rfl⟩
 |v::vs,[],_,_,r=>by have:=r.1;simp at this
 |v::vs,e::es,h,m,r=>by
  obtain⟨y,z,n,s,t⟩:=r.cons_inv;cases n;obtain⟨p,rfl⟩:=X7 h (m e (ai ..)) s;obtain⟨l,rfl⟩:=NH h (λx u=>m x (mCo _ u)) t
  exact⟨p::l,rfl⟩
end
section
variable {K:Ζ}{te:TE}{l:ML}{f:MF}
theorem JZ{Hf:Hp}:∀{ds:List D}{vs:List V}{cs:List Cd}(ks:List V) {H:Hp}{Q0:List V->Hp->Prop},pO Hf H->pU K Hf ds vs->DC f ds=some cs ->
  (∀t (n:Δ),pO H t->n.length=cs.length->(∀(i:Nat) (p:Addr) (c:Cd),n[i]?=some p->cs[i]?=some c->yc t p c)->Q0 (ks++n.map V.ref) t)->LI (rK K f) E0 vs ks H Q0
 | [],vs,cs,ks,H,Q0,s,r,e,q=>by
  cases e;rw[r.nil_inv];have:=q H [] (.refl _) rfl (λi p c h=>by cases h)
  rw[fN,aNq]at this;exact this
 |d::ds,vs,cs,ks,H,Q0,s,r,e,q=>by
  obtain⟨c,B,e⟩:=oBq.mp e;obtain⟨C,E,e⟩:=oMq.mp e;cases e;obtain⟨v,S,rfl,G,I⟩:=r.cons_inv;refine⟨Hf,[d],.sh (dC c),s,.cons G .nil,Vz B,λu t w F U y J X L nd fr=>?_⟩
  have x:qB K u (dC c) w:=by cases L with|sh r=>exact r
  obtain⟨p,rfl,M⟩:=M9 x;refine JZ (ks++[.ref p]) (s.trans y) I E λO n z hl P=>?_
  have:=q O (p::n) (y.trans z) (by simp[hl]) λi Q R h1 h2=>by
   cases i with
   |zero=>cases h1;cases h2;exact(M.same J).same z
   |succ i=>exact P i Q R (by simpa using h1) (by simpa using h2)
  rw[ax]at this;rw[aV];exact this
end
def FZ{α:Type}(a:α):List α->Nat
 | []=>0
 |x::l=>@ite _ (x=a) (dq _) 0 (FZ a l+1)
theorem BF{α:Type}{a:α}:∀(l:List α) (j:Nat),l[j]?=some a->FZ a l<=j/\l[FZ a l]?=some a
 | [],j,h=>by cases h
 |x::l,j,h=>by
  unfold FZ
  by_cases e:x=a
  .rw [qd e];exact⟨aE _,by rw[e];rfl⟩
  .rw [qh e];cases j with
   |zero=>cases h;exact absurd rfl e
   |succ j =>
    obtain⟨h1,h2⟩:=BF l j (by simpa using h)
    exact⟨by lia,by simpa using h2⟩
def NI(cs:List Cd) (ds:List D):Prop:=∀(i j r:Nat) (d d':D),i<j->j<r->ds[i]?=some d->ds[r]?=some d->ds[j]?=some d'->cs[i]?=cs[j]?->d'=d
def D4(f:MF) (l:ML):MK:=λS=>(l S).bind λx=>(DC f x.1).bind λcs=>uR (x.1.length<64/\(∀c∈cs,c≠[])/\Sh x.1/\NI cs x.1) (some (.ow ((IP (cs.zip x.1)).map λp=>.sh p.2),x.2))
def SG(f:MF) (l:ML) (S:AS):D4 f l S=(l S).bind λx=>(DC f x.1).bind λcs=>uR (x.1.length<64/\(∀c∈cs,c≠[])/\Sh x.1/\NI cs x.1) (some (.ow ((IP (cs.zip x.1)).map λp=>.sh p.2),x.2)):=rfl
section
variable {K:Ζ}{te:TE}{l:ML}{f:MF}
def PD(hl:SQ K te l):SK K (Nu K (rK K f) E0 (sW te wk)) (D4 f l):=by
 intro H₀ Hf₀ Hf S σ H Fs av S' R e Q q;obtain⟨x,e1,e⟩:=oBq.mp e;obtain⟨cs,e2,e⟩:=oBq.mp e;rcases pM e with ⟨⟨h64,hne,Y,hni⟩,e⟩|e
 .cases e;refine hl R (ds:=x.1) (S':=x.2) e1 _ λX H1 Fs1 p1 vs1 t1 R1 h1 r1=>?_
  generalize x.1=n at *;obtain⟨u,rfl⟩:=NH Y (λ_ h=>h) r1
  have lds:n.length=u.length:=by have:=r1.1;simpa using this
  have lcs:=Hb e2;refine⟨p1,u,rfl,h1,by lia,JZ [] R1.sub r1 e2 λH' cps s' lc hc=>?_⟩
  rw[gH];have y:∀j z,u[j]?=some z->∃d,n[j]?=some d:=λj z h=>⟨n[j]'(by rw[lds];exact(gSq.mp h).1),gEg _⟩
  have G:∀j d,n[j]?=some d->∃c,cs[j]?=some c:=λj d h=>⟨cs[j]'(by rw[lcs];exact(gSq.mp h).1),gEg _⟩
  have rz:∀j z d,u[j]?=some z->n[j]?=some d->qB K X d (.ref z):=λj z d h O=>r1.2 j d _ O (by rw[gMq,h];rfl)
  obtain⟨B,I⟩:∃B:Addr->D,∀j z d,u[j]?=some z->n[j]?=some d->B z=d:=⟨λz=>n.getD (FZ z u) .non,λj z d h O=>by
   obtain⟨E,g2⟩:=BF u j h;obtain⟨d0,J⟩:=y _ _ g2;show n.getD (FZ z u) .non=d;rw[gDq,J];exact XJ Y (mGq J) (mGq O) (rz _ z d0 g2 J) (rz j z d h O)⟩
  obtain⟨code,s⟩:∃code:D->Cd,∀j d c,n[j]?=some d->cs[j]?=some c->code d=c:=⟨λd=>cs.getD (FZ d n) [],λj d c h O=>by
   obtain⟨E,g2⟩:=BF n j h;obtain⟨c0,J⟩:=G _ _ g2;show cs.getD (FZ d n) []=c;rw[gDq,J];have t:=Ep e2 _ _ _ g2 J;rw[Ep e2 _ _ _ h O]at t;exact(aN.inj t).symm⟩
  have mono:∀(j r:Nat) (d M:D),j<r->n[j]?=some d->n[r]?=some M->code d=code M->FZ d n<=FZ M n:=λj r d M L h O P=>by
   obtain⟨u1,u2⟩:=BF n j h;obtain⟨w1,w2⟩:=BF n r O
   by_cases hlt:FZ M n<FZ d n
   .obtain ⟨c1,t⟩:=G _ _ w2;obtain⟨c2,C⟩:=G _ _ h;have z:=hni (FZ M n) j r M d (by lia) L w2 O h (by rw[t,C,←s _ _ _ w2 t,←s _ _ _ h C,P])
    rw[z];exact ab _
   .lia
  refine⟨cps,cs,λz=>code (B z),λz=>FZ (B z) n,rfl,lc.symm,λi p c E g2=>⟨hc i p c E g2,hne c (mGq g2)⟩,λj z c E g2=>?_,λj r z z' L E g2 J g4=>?_,λa zs ha st=>?_⟩
  .obtain ⟨d,J⟩:=y j z E;show code (B z)=c;rw[I j z d E J];exact s j d c J g2
  .obtain ⟨d,t⟩:=y j z E;obtain⟨M,C⟩:=y r z' g2;have a1:=I j z d E t;have a2:=I r z' M g2 C;have g5:code (B z)=code (B z'):=HT.uh _ _ J g4;show FZ (B z) n<=FZ (B z') n;rw[a1,a2]at *;exact mono j r d M L t C g5
  .have R2:=R1.laid s';have ts:yM X H1 Fs1 X H' Fs1:=⟨.refl _,s',λ_ h=>h,λb h g=>absurd h g⟩
   obtain⟨t4,R4,n1,n2,n3⟩:=R2.new (o:=.lst (zs.map V.ref)) ha;have pz:u.map (λz=>(code (B z),B z))=cs.zip n:=by
    refine dh λj=>?_
    rw[gMq];cases g:u[j]? with
    |none =>
     have:=eU.mp g;rw[eU.mpr (by rw[dZ];lia)]
     rfl
    |some z =>
     obtain⟨d,t⟩:=y j z g;obtain⟨c,C⟩:=G j d t;rw[show (cs.zip n)[j]?=some (c,d) from bN.mpr ⟨C,t⟩]
     show some (code (B z),B z)=some (c,d);rw[I j z d g t,s j d c t C]
   have U:∀p∈cs.zip n,p.2∈n:=λp hp=>(fJ hp).2
   have eq:zs.map (λz=>(code (B z),B z))=IP (cs.zip n):=by
    refine cM.eq_of_pairwise (le:=Zw λd=>FZ d n) (λp r hp hr l1 l2=>?_) ?_ (BE _ _ ?_) (((st.1.map _).trans (.of_eq pz)).trans (wX _).symm)
    .have m1:p∈cs.zip n:=by rw[←pz];exact(st.1.map _).mem_iff.mp hp
     have m2:r∈cs.zip n:=(wX _).mem_iff.mp hr;have c1:p.1=r.1:=HT.uh _ _ l2.1 l1.1;have i1:FZ p.2 n<=FZ r.2 n:=l1.2.resolve_left (by rw[c1,HT.vT];exact aL)
     have i2:FZ r.2 n<=FZ p.2 n:=l2.2.resolve_left (by rw[c1,HT.vT];exact aL)
     obtain⟨j1,t⟩:=ak.mp (U p m1);obtain⟨j2,C⟩:=ak.mp (U r m2);have a1:=(BF n j1 t).2;have a2:=(BF n j2 C).2;rw[Nat.le_antisymm i1 i2,a2]at a1;exact gG c1 (aN.inj a1).symm
    .exact aF.mpr st.2
    .refine bZ.mpr λj r hj hr L P=>?_
     rw[dZ]at hj hr;rw[iR,iR]at P ⊢;have t:n[j]?=some n[j]:=gEg (by lia)
     have C:n[r]?=some n[r]:=gEg (by lia)
     refine mono j r _ _ L t C ?_;rw[s j _ _ t (gEg (by lia)),s r _ _ C (gEg (by lia))]
     exact P
   have e3:(IP (cs.zip n)).map (λp=>AV.sh p.2)=(zs.map B).map AV.sh:=by
    rw[←eq,mPq,mPq];rfl
   rw[e3]at q;refine q _ _ _ (.ref a) [a] ((t1.trans ts).trans t4) R4 (pY.new oX n1 ?_) ((xS.one R2 ha).back (t1.trans ts));refine⟨by simp,λi d v E g2=>?_⟩
   rw[gMq]at E g2;cases g:zs[i]? with
   |none=>rw[g]at E;cases E
   |some z =>
    rw[g]at E g2;cases E;cases g2;obtain⟨j,t⟩:=ak.mp (st.1.mem_iff.mp (mGq g));obtain⟨d,C⟩:=y j z t;rw[I j z d t C];exact rz j z d t C
 .cases e
end
end Z
namespace Z
open PySem L2 Mr
def XB:List AV->Option (List D)
 | []=>some []
 | .sh d::l=>(XB l).map (d :: ·)
 |_=>none
theorem Ro:∀{n:List AV}{ds:List D},XB n=some ds->n=ds.map .sh
 | [],ds,h=>by cases h;rfl
 | .sh d::l,ds,h=>by
  obtain⟨r,h1,h2⟩:=oMq.mp (show (XB l).map (d :: ·)=some ds from h)
  subst h2;rw[Ro h1];rfl
 | .ow _::l,ds,h=>by cases h
 | .owd _::l,ds,h=>by cases h
 | .owl _::l,ds,h=>by cases h
 | .otl _ _::l,ds,h=>by cases h
theorem NY:∀ds:List D,XB (ds.map .sh)=some ds
 | []=>rfl
 |d::ds=>by
  show (XB (ds.map .sh)).map (d :: ·)=_;rw[NY ds];rfl
def toO(x:Str):AV->AS->Option (AV×AS)
 | .ow l,S=>(XB l).map λds=>(.otl x ds,S)
 |_,_=>none
def kTO(x:Str) (k:MK):MK:=λS=>(k S).bind λy=>toO x y.1 y.2
def abc(x:Str) (k:MK) (S:AS):kTO x k S=(k S).bind λy=>toO x y.1 y.2:=rfl
def aaX(x:Str) (ds:List D) (S:AS):toO x (.ow (ds.map .sh)) S=some (.otl x ds,S):=by
 show (XB (ds.map .sh)).map _=_;rw[NY];rfl
def W4:AV->Option AV
 | .otl _ ds=>some (.ow (ds.map .sh))
 |_=>none
def QW(i:Nat):MK:=λS=>(S[i]?.join).bind λa=>(W4 a).map λb=>(b,S.set i none)
def X4(i:Nat) (S:AS):QW i S=(S[i]?.join).bind λa=>(W4 a).map λb=>(b,S.set i none):=rfl
def Nd(m:MT):MT:=λS=>(m (EF S)).map λy=>(y.1,S)
def Yq(m:MT) (S:AS):Nd m S=(m (EF S)).map λy=>(y.1,S):=rfl
def NL:D->Option (D×D)
 | .tup [a,b]=>some (a,b)
 |_=>none
def G4(i j:Nat) (k:MK):MS:=λS=>(k S).bind λx=>(NL (oN x.1)).map λp=>.nx ((x.2.set i (some (.sh p.1))).set j (some (.sh p.2)))
def Ru(i j:Nat) (k:MK) (S:AS):G4 i j k S=(k S).bind λx=>(NL (oN x.1)).map λp=>.nx ((x.2.set i (some (.sh p.1))).set j (some (.sh p.2))):=rfl
section
variable {K:Ζ}{te:TE}{k:MK}
def VL{Hf H:Hp}:∀{ds:List D}{vs:List V}{n:List Δ},qa K Hf H (ds.map .sh) vs n->pU K Hf ds vs/\n.flatten=[]:=λ{ds vs n} h=>by
 obtain⟨l,lf,e⟩:=h;rw[lMq]at l lf;have key:∀(i:Nat) (d:D) (v:V) (F:Δ),ds[i]?=some d->vs[i]?=some v->n[i]?=some F->F=[]/\qB K Hf d v:=λi d v F a b c=>(e i (.sh d) v F (by rw[gMq,a];rfl) b c).sh_inv
 refine⟨⟨l,λi d v a b=>?_⟩,?_⟩
 .have s:=(gSq.mp a).1;exact(key i d v _ a b (gEg (by lia))).2
 .refine List.eq_nil_iff_forall_not_mem.mpr λq r=>?_
  obtain⟨F,t,r⟩:=mFq.mp r;obtain⟨i,s⟩:=ak.mp t;have hl:=(gSq.mp s).1;rw[(key i _ _ F (gEg (by lia)) (gEg (by lia)) s).1]at r
  cases r
def ZO{x:Str}(hk:SK K te k):SK K (Yh (sW (tC (.str x)) (sW te wk))) (kTO x k):=by
 intro H₀ u Hf S σ H Fs av S' R e Q q;obtain⟨y,I,e⟩:=oBq.mp e;refine hk R (a:=y.1) (S':=y.2) I _ λJ H1 Fs1 v F E G B t=>⟨(show 2<=jD by decide),λp C=>?_⟩
 generalize y.1=a at e B;cases a with
 |ow L =>
  obtain⟨ds,M,e⟩:=oMq.mp e;cases e;rw[Ro M]at B;obtain⟨n,vs,Gs,rfl,rfl,h1,h2,O⟩:=B.ow_inv;obtain⟨P,U⟩:=VL O;rw[U]at t;obtain⟨X,Y,n1,n2,n3⟩:=G.new (o:=.tup [.str x,.ref n]) C;have s:n≠p:=λz=>by rw[z,C]at h1;cases h1
  refine q _ _ _ (.ref p) [p,n] (E.trans X) Y (.otl oX n1 ((oP s).trans h1) h2 P) ?_;have ow:=(xS.one G C).back E;refine⟨by simp[s.symm],λz r=>?_,λz r=>?_,λz r=>?_⟩
  all_goals
   simp only[ah,bB,or_false]at r
  .rcases r with l|l
   .rw [l];exact n2
   .rw [l];exact t.fr n (by simp)
  .rcases r with l|l
   .rw [l];exact n3
   .rw [l];exact t.out n (by simp)
  .rcases r with l|l
   .rw [l];exact ow.new p (by simp)
   .rw [l];exact t.new n (by simp)
 |_=>cases e
def UQ(i:Nat):SK K (Tw (WW K) (yV i) (tC (.int 1))) (QW i):=by
 intro H₀ s L S σ H M a O R e Q q;obtain⟨b,y,e⟩:=oBq.mp e;obtain⟨P,u,e⟩:=oMq.mp e;cases e;obtain⟨v,F,B,C,r,nd,o,E⟩:=R.move (pZ y);refine⟨v,B,?_⟩;cases r with
 | @otl t p x U X h n h2 G I =>
  cases u;refine⟨t,[.str x,.ref p],1,.ref p,rfl,rfl,BN.of h,rfl,?_⟩;refine q _ _ _ (.ref p) [p] ⟨.refl _,.refl _,λp J=>qS J,λb h g=>absurd h g⟩ E (.new h2 G I) ⟨by simp,λz l=>(o z (by rw[mSq.mp l];simp)).1,λz l=>(o z (by rw[mSq.mp l];simp)).2,λz l=>.inr (mFq.mpr ⟨_,mGq C,by rw[mSq.mp l];simp⟩)⟩
 |_=>cases u
def TH{n:TT}{m:MT}(s:GS K n m):GS K n (Nd m):=by
 intro H₀ l t S σ H u b C R e Q q;obtain⟨y,x,e⟩:=oMq.mp e;cases e;exact s R.pin (b:=y.1) (S':=y.2) x _ λz B Fs1 r E=>q t B u ⟨.refl _,r.sh,λ_ h=>h,λb h g=>absurd h g⟩ (R.laid r.sh)
def N1{i j:Nat}(hk:SK K te k):SS K (Gv te (Lg K 2 (yA (sq i) (yA (sq j) Md)))) (G4 i j k):=by
 intro H₀ n P S σ H Q o R e D h;obtain⟨x,B,e⟩:=oBq.mp e;obtain⟨p,l,e⟩:=oMq.mp e;cases e;have s:SK K te (wg k):=SK.frz hk;refine s R (a:=.sh (oN x.1)) (S':=x.2) (by show (k S).map _=_;rw[B];rfl) _ λC U Fs1 v F E y G X=>?_
 obtain⟨Y,r⟩:=G.sh_inv;have I:oN x.1 = .tup [p.1,p.2]:=by
  unfold NL at l;split at l
  .rename_i a b hd;cases l;exact hd
  .cases l
 rw[I]at r;obtain⟨t,vs,rfl,h1,h2⟩:=r.tup_inv;obtain⟨z,w1,rfl,J,L⟩:=h2.cons_inv;obtain⟨u,w2,rfl,M,O⟩:=L.cons_inv;have:=O.nil_inv;subst this;exact⟨t,[z,u],rfl,BN.of (y.sub _ _ h1),rfl,z,[u],rfl,u,[],rfl,rfl,h _ _ _ _ E.sf ((y.setD i J).setD j M)⟩
end
end Z
namespace Mr
open PySem PySem.Spec PyProof.Rows L2
section
variable {X:Cx}{pos:Pos}{i:Nat}{x:Str}{N P:List Str}{sc:km}
def oV{e:Expr}{te:TE}{l:Pos}(S:oW N P sc) (n:PE X e te) (r:X.N=N:=by rfl) (s:X.N[i]?=some x:=by rfl) (t:VQ X.env.scope x:=by first|exact Or.inl rfl|exact iD rfl) (u:mN e (some (.Name x l)) pos.line X.env=pure false:=by rfl) (hf:X.fn x=true∨X.env.scope.names.lookup x=some .local:=by trivial) :
  PS X (.Assign [.Name x l] e pos) (Gv te (sq i)):=Yb (r ▸ S.nd) s t n u hf
def su(S:oW N P sc) (l:X.N=N:=by rfl) (n:X.N[i]?=some x:=by rfl) (r:VQ X.env.scope x:=by first|exact Or.inl rfl|exact iD rfl) (hf:X.fn x=true∨X.env.scope.names.lookup x=some .local:=by trivial):PG X (.Name x pos) (sq i):=HN (l ▸ S.nd) n r hf
end
section
variable {X:Cx}{k n:Nat}{f:Addr}{fd:jQ}{ps:List Str}{sp:Sp}{x:Str}{p pos:Pos}{e:Expr}{es:List Expr}{t:TA}{st:Stmt}
def pB(G:Fn X.prog X.w X.K X.mg X.base k x st ps sp f fd) (hr:sZ n X.A) (ha:PA X (e::es) t) (hk:k<=n:=by decide) (s:Gl X x:=by rfl) (l:(x == ("__debug__" : Str))=false:=by decide)
  (u:jH (e::es) X.env=(false,eval e X.env)::jH es X.env:=by rfl) (r:(kx pos (jH es X.env)).any (·.1)=false:=by rfl) :
  PE X (.Call (.Name x p) (e::es) [] pos) (J6 sp [] E0 t):=Y8 G (hr.mono hk) ha s l u r
end
def sC{N P:List Str}{l:km}(a:l.kind = .function:=by rfl) (b:l.isCoroutine=false:=by rfl) (c:l.isGenerator=false:=by rfl) (d:N.Nodup:=by decide +kernel) (e:N.take P.length=P:=by rfl) (f:∀x∈P,l.names.lookup x=some .local∨l.names.lookup x=some .cell:=by decide +kernel) (g:∀y∈l.names,y.2 ≠ .free:=by decide +kernel):oW N P l:=⟨a,b,c,d,e,f,g⟩
def zA{P:jC}{w:jF}{K:Ζ}{mg:Str->Υ}{base:Heap}{k:Nat}{x:Str}{st:Stmt}{ps N:List Str}{f:Addr}{fd:jQ}{m:Z.MS}(D:ye K mg x st ps f fd) (S:oW N ps (oH st))
  (h:∀(l:Value) (A:Around) (outer:List Env) (s:Shared) (H:Hp) (E:XK),sZ k (A.deeper (kQ x (oH st) s.heap.objs.size f l))->(A.deeper (kQ x (oH st) s.heap.objs.size f l)).units+64<jT->(A.deeper (kQ x (oH st) s.heap.objs.size f l)).units+65<jT ->
   ∃t,Me (IZ Tv P w K mg base N x (oH st) f l A outer s H E).nox (uF st) t/\Z.SS K t m):Fn P w K mg base (k+1) x st ps (Z.rK K (Z.rO ps.length N.length m)) f fd :=
 ⟨D,D.F.ok S (λn H Q E h=>Z.Tg h) λl A outer s H n Q E hr hh=>by
  obtain⟨t,a,b⟩:=h l A outer s H E hr hr.units (sZ.units65 hr);exact⟨t,a,Z.JM N b hh⟩⟩
end Mr
namespace L2
open PySem PySem.Spec PyProof.Rows
def XM(H:Hp):Prop:=∀b,H b=none∨(∃o xs,H b=some (.frz o (.lst xs)))∨∃q,H b=some (.tbl q)
def Dh(K:Ζ) (h:Heap):Prop:=∀q∈vg K,(vg K).lookup q.1=some q.2/\K.lookup q.1=none/\h.get? q.1=some (W.tabObj #[])/\∃c,W.CodeHd h c q.1
structure WO (K:Ζ) (a:Addr) (ob:Obj) (xs:List V) (H:Hp):Prop where
 what:∀b u,H b=some u->(b=a/\K.lookup a=none/\u = .frz ob (.lst xs))∨∃q,u = .tbl q/\(b,q)∈vg K
 tb:TM K H
def WO.only{K:Ζ}{a:Addr}{ob:Obj}{xs:List V}{H:Hp}(e:WO K a ob xs H):XM H:=λb=>by
 cases q:H b with
 |none=>exact .inl rfl
 |some u =>
  rcases e.what b u q with ⟨_,_,z⟩|⟨l,z,_⟩
  .exact .inr (.inl ⟨ob,xs,by rw[z]⟩)
  .exact .inr (.inr ⟨l,by rw[z]⟩)
section
variable {P:jC}{w:jF}{K:Ζ}{mg mb:Str->Υ}{s₁:Shared}{vs:Ξ}{ns:Ϝ}{a:Addr}{H:Hp}
theorem WO.none(e:WO K a { cls:=.type "list", data:=.seq vs.toArray } (ns.map V.int) H) (ha:s₁.heap.get? a=some { cls:=.type "list", data:=.seq vs.toArray }) (l:Dh K s₁.heap) {b:Addr}{o:Obj}(h:s₁.heap.get? b=some o) (h1:o.cls = .type "list" -> False∨∃es ep,o.data = .dict es ep) (h2:o.cls = .none->∃es ep,o.data = .dict es ep):H b=none:=by
 cases q:H b with
 |none=>rfl
 |some u =>
  rcases e.what b u q with ⟨z,_,_⟩|⟨n,_,z⟩
  .subst z;rw[ha]at h;cases h;rcases h1 rfl with z|⟨_,_,z⟩
   .exact z.elim
   .cases z
  .have:=(l _ z).2.2.1;rw[h]at this;cases this;obtain⟨_,_,z⟩:=h2 rfl;cases z
def KB{CX:Li}{k:Nat}{fa:Addr}{fd:jQ}{x:Str}{sp:Sp}(C:WO K a { cls:=.type "list", data:=.seq vs.toArray } (ns.map V.int) H)
  (KX:K.In s₁.heap) (E:s₁.heap.Ns jG mg) (O:s₁.heap.Ns kH mb) (Q:∀x:Str,x ≠ "__name__" -> mb x=kM x) (G:s₁.heap.NoLimit) (hg:s₁.gens=#[]) (M:Dh K s₁.heap)
  (R:∃I o,mg "__builtins__" = some (.ref I)/\I≠kH/\s₁.heap.get? I=some o/\o.cls = .type "module" /\ o.dict=some kH/\o.data = .plain)
  (ha:s₁.heap.get? a=some { cls:=.type "list", data:=.seq vs.toArray }) (hr:sZ k mi)
  (F:∀base:Heap,K.In base->base.Ns jG mg->yk P w K mg base CX k fa fd [x] sp) (y:∀(s:Shared) (u:Value),mD s fd ⟨[u],[]⟩ [(x,u)])
  (hok:BM P w H s₁.heap) (S:sp [.ref a] H (λv _=>v = .bl true) λ_ _ _=>False)
  (U:∀H e B,CX [] H s₁ (λ_ _ _=>False) e B->False) :
  kF (jA P w) mi (.call (.ref fa) ⟨[.ref a],[]⟩) (λr B=>r = .ok (.ret (.bool true))/\OldK s₁.heap B.heap/\B.os=s₁.os/\lR B.gens) s₁:=by
 have l:∀{b:Addr}{m:Str->Υ},s₁.heap.Ns b m->(JO s₁.heap H).Ns b m:=λ{b m} ⟨o,es,ep,e,d,r⟩=>⟨o,es,ep,FV e (C.none ha M e (λ_=>.inr ⟨es,ep,d⟩) λ_=>⟨es,ep,d⟩),d,r⟩
 have J:K.In (JO s₁.heap H):=λb o e=>FV (KX b o e) (by
  cases q:H b with
  |none=>rfl
  |some u =>
   rcases C.what b u q with ⟨z,X,_⟩|⟨Y,_,z⟩
   .rw [z,X]at e;cases e
   .rw [(M _ z).2.1]at e;cases e)
 have hM:Mod K mg (JO s₁.heap H):=⟨J,l E,⟨mb,l O,Q⟩,let ⟨mc,h1,h2⟩:=G;⟨mc,l h1,h2⟩,by
  obtain⟨I,o,b1,b2,b3,b4,b5⟩:=R;exact⟨I,o,b1,b2,FV b3 (C.none ha M b3 (λz=>by rw[b4]at z;injection z with z;exact absurd z (by decide)) λz=>by rw[b4]at z;cases z),b4,b5⟩⟩
 have e0:Q5 P w K mg (JO s₁.heap H) mi [] s₁ H:=⟨rfl,hM,λb o e=>TX e,dQ (OW _ _),trivial,λb O=>absurd (show b∈([]:Δ) from O) (by simp),hok,.of_eq hg,C.tb⟩
 refine lg ((F _ J (l E)).run mi [] s₁ H ⟨[.ref a],[]⟩ [.ref a] [.ref a] _ _ hr e0 (y s₁ (.ref a)) (.cons rfl .nil) S) λr B h=>?_
 cases r with
 |error e=>exact(U H e B h).elim
 |ok fl =>
  cases fl with
  |next=>exact False.elim h
  |brk=>exact False.elim h
  |cont=>exact False.elim h
  |ret u =>
   obtain⟨v,H',os,bare,un,n,r',q⟩:=h;have Y:v = .bl true:=q;subst Y;obtain rfl:u=iZ true:=r';have nf:∀b:Addr,b∉P9 []:=λb z=>absurd (show b∈([]:Δ) from z) (by simp)
   refine⟨rfl,⟨λb o e=>?_,λb o e=>un.there b o e (by simp)⟩,os,bare⟩
   cases q:H b with
   |none=>exact .inl (un.keep b o e q (nf b) (by simp))
   |some u =>
    rcases C.what b u q with ⟨z1,_,z⟩|⟨Y,z,zm⟩
    .subst z;have X:=un.frzs b _ _ q;obtain⟨e1,_⟩:=hok b _ q;obtain⟨e2,_⟩:=n b _ X;rw[e]at e1;cases e1;exact .inl e2
    .subst z;obtain⟨_,_,h3,c,hc⟩:=M _ zm;have L:s₁.heap.get? b=some (W.tabObj #[]):=h3;rw[e]at L;cases L;obtain⟨ps,e2,_⟩:=n b _ (un.tbls b _ q);have t:=hc.tab h3;exact .inr (.inl ⟨t.isCodeTable,rfl,#[],ps,rfl,by rw[Array.empty_append];exact e2⟩)
end
theorem xn{α:Type}{b:Addr}{q:α}:∀{l:List (Addr×α)},l.lookup b=some q->(b,q)∈l
 | [],h=>by cases h
 | (c,r)::l,h=>by
  rw[eJ]at h;cases e:b == c with
  |true=>rw[e]at h;cases h;rw[beq_iff_eq.mp e];exact .head _
  |false=>rw[e]at h;exact .tail _ (xn h)
def Ry{P:jC}{w:jF}{K:Ζ}{mg mb:Str->Υ}{CX:Li}{k:Nat}{fa a:Addr}{fd:jQ}{x:Str}{sp:Sp}{l:Shared}{vs:Ξ}{ns:Ϝ}
  (Y:K.In l.heap) (J:l.heap.Ns jG mg) (t:l.heap.Ns kH mb) (L:∀x:Str,x ≠ "__name__" -> mb x=kM x) (y:l.heap.NoLimit) (hg:l.gens=#[]) (I:Dh K l.heap)
  (M:∃bm o,mg "__builtins__" = some (.ref bm)/\bm≠kH/\l.heap.get? bm=some o/\o.cls = .type "module" /\ o.dict=some kH/\o.data = .plain)
  (ha:l.heap.get? a=some { cls:=.type "list", data:=.seq vs.toArray }) (hi:jR vs ns) (hl:ns.length<=jD) (hr:sZ k mi)
  (F:∀base:Heap,K.In base->base.Ns jG mg->yk P w K mg base CX k fa fd [x] sp) (n:∀(s:Shared) (u:Value),mD s fd ⟨[u],[]⟩ [(x,u)])
  (O:∀H:Hp,XM H->rN K H a (ns.map V.int)->sp [.ref a] H (λv _=>v = .bl true) λ_ _ _=>False)
  (Q:∀H e R,CX [] H l (λ_ _ _=>False) e R->False) :
  kF (jA P w) mi (.call (.ref fa) ⟨[.ref a],[]⟩) (λr R=>r = .ok (.ret (.bool true))/\OldK l.heap R.heap/\R.os=l.os/\lR R.gens) l:=by
 have rv:=vals_ints hi;have S:=hi.length;have U:∀(H:Hp) q,q∈vg K->qW P w H l.heap q.1 (.tbl q.2):=λH q B=>⟨#[],(I q B).2.2.1,trivial,λp cv z=>by cases z⟩
 have tN:∀q∈vg K,q.1≠a:=λq B z=>by
  have:=(I q B).2.2.1;rw[z,ha]at this;cases this
 cases hk:K.lookup a with
 |some o =>
  have e:=Y a o hk;rw[ha]at e;cases e;have X:WO K a { cls:=.type "list", data:=.seq vs.toArray } (ns.map V.int) (λb=>((vg K).lookup b).map HO.tbl):=⟨λb u z=>by
   obtain⟨q,C,E⟩:=oMq.mp z;exact .inr ⟨q,E.symm,xn C⟩,λq B=>by show ((vg K).lookup q.1).map HO.tbl=_;rw[(I q B).1];rfl⟩
  refine KB X Y J t L y hg I M ha hr F n (λb u z=>?_) (O _ X.only (.inr ⟨_,vs.toArray,_,hk,rfl,rfl,rfl,by rw[au,S];exact hl,by simpa using rv⟩)) Q
  obtain⟨q,C,E⟩:=oMq.mp z;rw[←E];exact U _ (b,q) (xn C)
 |none =>
  have X:WO K a { cls:=.type "list", data:=.seq vs.toArray } (ns.map V.int) (λb=>if b=a then some (.frz { cls:=.type "list", data:=.seq vs.toArray } (.lst (ns.map V.int))) else ((vg K).lookup b).map HO.tbl):=⟨λb u z=>by
   by_cases t:b=a
   .have G:=(qd t).symm.trans z;cases G;exact .inl ⟨t,hk,rfl⟩
   .have G:=(qh t).symm.trans z;obtain⟨q,C,E⟩:=oMq.mp G;exact .inr ⟨q,E.symm,xn C⟩,λq B=>by
   refine(qh (tN q B)).trans ?_;rw[(I q B).1];rfl⟩
  refine KB X Y J t L y hg I M ha hr F n (λb u z=>?_) (O _ X.only (.inl (.inr ⟨_,qd rfl⟩))) Q
  by_cases t:b=a
  .have G:=(qd t).symm.trans z;cases G;subst t;exact⟨ha,by rw[lMq];exact hl,vs,_,rv,ha⟩
  .have G:=(qh t).symm.trans z;obtain⟨q,C,E⟩:=oMq.mp G;rw[←E];exact U _ (b,q) (xn C)
def VM{l:W.OpenLaw}{n k:Nat}{q:jC}{loose:List Str}{P:(Str->Υ)->Heap->Prop}{B:jF->Heap->Prop}{d:DefRec}{K:Params->Ζ}{CX:jF->Li}{sp:jF->Sp}{x:Str}
  (hn:l.most=some n) (C:n<=jD) (E:d.params.defaults=[]) (hr:sZ k mi)
  (Q:∀(w:jF) (h:Heap),B w h->(K w.params).In h) (R:∀(w:jF) (h:Heap),B w h->Dh (K w.params) h)
  (F:∀(w:jF) (mg:Str->Υ) (fa:Addr) (h:Heap),(K w.params).In h->h.Ns jG mg->mg d.name=some (.ref fa) ->
   ∃fd:jQ,(∀(s:Shared) (u:Value),mD s fd ⟨[u],[]⟩ [(x,u)]) /\
    ∀base:Heap,(K w.params).In base->base.Ns jG mg->yk l.prog w (K w.params) mg base (CX w) k fa fd [x] (sp w))
  (I:∀(w:jF) (H:Hp) (a:Addr) (ns:Ϝ),ns.length<=n->XM H->rN (K w.params) H a (ns.map V.int)->sp w [.ref a] H (λv _=>v = .bl true) λ_ _ _=>False)
  (J:∀(w:jF) (H:Hp) (s:Shared) (e:Value) (L:Shared),CX w [] H s (λ_ _ _=>False) e L->False) :
  W.WalkO q loose P B l.row.toRowW d [] (λf vs=>PySem.call f vs):=by
 refine Att.K0 hn E λw s₀ y mg mb fa o pm cd S a vs ns G Y ho hd U M z t r X=>?_
 have O:=Q w _ Y;obtain⟨fd,hb,hF⟩:=F w mg fa _ O G.T.g M;exact Ry O G.T.g G.T.b G.T.builtins G.T.nolimit X (R w _ Y) G.T.bmain z t (bq r C) hr hF hb (λH hO hS=>I w H a ns r hO hS) λH e L=>J w H y e L
end L2
namespace Zl
open PySem L2 Mr Z
def CW:MS:=(oQ (zC (tK (pR IQ (wb rB (ox (oq 0) oS)) (rC (.int 0)))) (qw (uS pD)) qJ)
 (oQ (pN 1 (kSc (rBM "list" Di (oq 0) (ox (wb T9 (ox (oq 0) oS)) oS))))
 (qw (LB (lOf (Nt (tU 0) (wx (oq 1)) zz)) (lOf (Nt (tU 0) zz (wx (oq 1))))))))
def yH:MF:=rO 1 2 CW
def xt:MS:=(JC 1 (DR 2))
def B9:MS:=(oQ (pN 1 (uS pD))
 (oQ (BK 2 (oU 0) xt)
 (qw (DS 1))))
def uM:MF:=rO 1 3 B9
def zg:MS:=(oQ (zC (tK (pR Yz (oq 1) (wb rB (ox (oq 0) oS)))) (qw (kSc (pR HU (oq 0) (oq 1)))) qJ)
 (qw (kSc (rC (.int 0)))))
def pI:MF:=rO 2 2 zg
def yv:MS:=(qw (Hm (uu (zY (oU 0)) [] qA (oZ Zl.yH (oB (oU 0) pD)))))
def qq:MF:=rO 1 1 yv
def E9:MS:=(qw (Ij (lOf (oZ Zl.uM (oB (oU 0) pD)))))
def yq:MF:=rO 1 1 E9
def xu:MS:=(zx 1 (oq 4) (oU 2))
def xa:MS:=(BK 4 (oU 3) xu)
def CC:MS:=(oQ (pN 1 DI)
 (oQ (M1 2 3 (oU 0) xa)
 (qw (DS 1))))
def wa:MF:=rO 1 5 CC
def Cu(ns:Ϝ) {k:Int}(h:0<=k):pI [.scr ns,.int k]=some (.sh (.int (cell ns k.toNat))):=by
 by_cases c:k<(ns.length:Int)
 .have hk:k.toNat<ns.length:=by lia
  have e:ns.getD k.toNat 0=ns[k.toNat]:=D3 hk
  simp_arith [pI,zg,c,Nq h,gEg hk,cell,e]
 .have hk:ns.length<=k.toNat:=by lia
  have e:ns.getD k.toNat 0=0:=by rw[gDq,bp hk];rfl
  simp_arith [pI,zg,c,cell,e]
def VX(ns:Ϝ):pI [.scr ns,.int 0]=some (.sh (.int (cell ns 0))):=Cu ns (by decide)
def VR(ns:Ϝ):pI [.scr ns,.int 1]=some (.sh (.int (cell ns 1))):=Cu ns (by decide)
def Wj(ns:Ϝ):pI [.scr ns,.int 2]=some (.sh (.int (cell ns 2))):=Cu ns (by decide)
def PM{n:Int}{ns:Ϝ}:ns.foldl min n∈n::ns/\∀x∈n::ns,ns.foldl min n<=x:=⟨yd ns n,λx l=>(ah.mp l).elim (λe=>e ▸ (wO ns n).1) ((wO ns n).2 x)⟩
def O0{ns:Ϝ}(hl:ns.length<=500000):yH [dI ns]=some (aI (wc ns)):=by
 cases ns with
 |nil =>
  have h1:((0:Nat):Int)=0:=rfl
  simp_arith [yH,CW,h1]
  rfl
 |cons n ns =>
  obtain⟨h1,h2⟩:=PM (n:=n) (ns:=ns);have e:=Km h1 h2;have l:=L4 (n::ns);have s:¬ ((n::ns).length:Int)=0:=by simp only[lCq];lia
  have t:T9 [dI (n::ns)]=some (.int (ns.foldl min n)):=by
   show (qT ((n::ns).map D.int)).bind (λns=>(M6 ns).map D.int)=_
   rw[rd];rfl
  have u:Di (dI (n::ns)) [.int (ns.foldl min n)]=some (.int (qN (n::ns) (n::ns).length:Nat)):=by
   show (qT ((n::ns).map D.int)).bind _=_;rw[rd];show (if _ then _ else _)=_
   rw[qd h1,e]
  generalize x:n::ns=N at *;have r:(N.drop (qN N N.length)).length+(N.take (qN N N.length)).length<=rH:=by rw[aQ,lTq];show _<=16777216;lia
  simp_arith [yH,CW,s,t,u,zR,BV N _ l,AM N _ l,r,←mBq,DW]
  rfl
def rS{rs:Λ}{i:Nat}{r:Ϝ}(h:rs[i]?=some r):(rs.take (i+1)).flatten=(rs.take i).flatten++r:=by
 rw[eA,h,fAq];simp
def wo(rs:Λ) (i:Nat):(rs.take i).flatten.length<=rs.flatten.length:=by
 have:=congrArg aZ (congrArg List.flatten (bj i rs));rw[fAq,lAq]at this;lia
def Iu{rs:Λ}{i:Nat}{d:D}(h:(rs.map dI)[i]?=some d):∃r,rs[i]?=some r/\d=dI r:=by
 rw[gMq]at h;obtain⟨r,h1,h2⟩:=oMq.mp h;exact⟨r,h1,h2.symm⟩
def Uy{ns:Ϝ}{i:Nat}{d:D}(h:(ns.map D.int)[i]?=some d):∃z,ns[i]?=some z/\d = .int z:=by
 rw[gMq]at h;obtain⟨r,h1,h2⟩:=oMq.mp h;exact⟨r,h1,h2.symm⟩
def Hu{rs:Λ}(hl:rs.flatten.length<=500000):uM [dM rs]=some (aI rs.flatten):=by
 have key:=uV (x:=2) (body:=xt) (λi S=>∃v,S=[some (.sh (dM rs)),some (aI (rs.take i).flatten),v]) (ds:=rs.map dI) (S:=[some (.sh (dM rs)),some (.ow []),none]) ⟨none,by simp⟩ (by
  rintro i d S hd ⟨v,rfl⟩;obtain⟨r,hr,rfl⟩:=Iu hd;have h1:=rS hr;have h2:=wo rs (i+1);rw[h1,lAq]at h2;have l:(rs.take i).flatten.length+r.length<=rH:=by show _<=16777216;lia
  refine⟨_,?_,some (.sh (dI r)),rfl⟩;rw[h1]
  simp_arith [xt,l,DW,←mBq])
 obtain⟨n,e,v,rfl⟩:=key;rw[lMq,bh]at e
 simp_arith [uM,B9,e]
def WD{rs:Λ}{d:D}(h:d∈rs.map dI):∃r∈rs,d=dI r:=by
 obtain⟨r,h1,h2⟩:=mMq.mp h;exact⟨r,h1,h2.symm⟩
def Ur:D->Ϝ
 | .list ds=>(qT ds).getD []
 |_=>[]
def Nw(r:Ϝ):Ur (dI r)=r:=by
 show (qT (r.map D.int)).getD []=r;rw[rd];rfl
def RS{β:Type}(g:Ϝ->β) (rs:Λ):(rs.map dI).map (λd=>g (Ur d))=rs.map g:=by
 rw[mPq];exact mCq λr _=>by show g (Ur (dI r))=g r;rw[Nw]
def KP{rs:Λ}(hl:∀r∈rs,r.length<=500000):qY qA (oZ yH (oB (oU 0) pD)) [] (rs.map dI)=some ((rs.map wc).map aI):=by
 rw[qO (λd=>aI (wc (Ur d)))]
 .rw [RS (λr=>aI (wc r)),mPq]
  rfl
 .intro d hd;obtain⟨r,hr,rfl⟩:=WD hd;refine⟨[some (.sh (dI r))],?_⟩
  simp_arith [O0 (hl r hr),Nw]
def Zb{l:Λ}{a:Nat}(h:a<l.length):atI (l.map dI) (a:Int)=some (dI (l.getD a [])):=by
 rw[Vs,Nq (by lia),df,gDq,gEg h]
 rfl
def vE{rs:Λ}(hl:∀r∈rs,r.length<=500000) (t:rs.length<=63):qq [dM rs]=some (.ow ((Do (rs.map wc)).map aI)):=by
 have n:=KP (rs:=rs) hl;have s:rs.length<=rH:=by show _<=16777216;lia
 have l:(rs.length<64)=True:=eq_true (by lia)
 simp_arith [qq,yv,n,s,l]
end Zl
namespace Zl
open PySem L2 Mr Z Xe
section
variable {rs:Λ}(hl:rs.flatten.length<=500000)
include hl
end
end Zl
namespace Zl
open PySem L2 Mr Z
def N4{rs:Λ}(hl:rs.flatten.length<=63):yq [dM rs]=some (aI (qj rs.flatten)):=by
 have l:(rs.flatten.length<64)=True:=eq_true (by lia)
 simp_arith [yq,E9,Hu (bq hl (by decide)),l]
def vS(p:Nat) (r:Ϝ):List (pE×D):=r.map λe=>(.inl e,.int (p:Int))
def qK:Nat->Λ->List (pE×D)
 |_,[]=>[]
 |p,r::rs=>vS p r++qK (p+1) rs
theorem Dy(r:Ϝ):∀(rs:Λ) (p:Nat),qK p (rs++[r])=qK p rs++vS (p+rs.length) r
 | [],p=>by simp[qK]
 |s::rs,p=>by
  show vS p s++qK (p+1) (rs++[r])=(vS p s++qK (p+1) rs)++_;rw[Dy r rs (p+1),aV,lCq,show p+1+rs.length=p+(rs.length+1) by lia]
theorem Am:∀(rs:Λ) (p:Nat),(qK p rs).map (·.1)=rs.flatten.map ar
 | [],p=>rfl
 |r::rs,p=>by
  show (vS p r++qK (p+1) rs).map (·.1)=_;rw[mBq,Am rs (p+1),fCq,mBq];congr 1;unfold vS;rw[mPq];rfl
def Ml(rs:Λ) (p:Nat):(qK p rs).length=rs.flatten.length:=by
 have:=congrArg aZ (Am rs p)
 rwa [lMq,lMq]at this
def yn{kvs:List (pE×D)}{k:pE}{d:D}(h:k∉kvs.map (·.1)):wI kvs k d=kvs++[(k,d)]:=by
 unfold wI;rw[qh];intro e;obtain⟨kv,hk,e⟩:=fD.mp e;exact h (mMq.mpr ⟨kv,hk,of_decide_eq_true e⟩)
theorem getD_app{k:pE}:∀{a b:List (pE×D)},k∉a.map (·.1)->Z.getD (a++b) k=Z.getD b k
 | [],b,_=>rfl
 |x::a,b,h=>by
  unfold Z.getD;rw[iN,bG (by
   intro e;exact h (by rw[←of_decide_eq_true e];simp))]
  exact getD_app (k:=k) (a:=a) (b:=b) λm=>h (by simp only[ax,ah];exact .inr m)
theorem Jb{p:Nat}{e:Int}{b:List (pE×D)}:∀{r:Ϝ},e∈r->Z.getD (vS p r++b) (.inl e)=some (.int p)
 | [],h=>by cases h
 |x::r,h=>by
  unfold Z.getD;show ((((ar x:pE),D.int (p:Int))::(vS p r++b)).find? _).map _=_
  by_cases c:x=e
  .subst c;rw[bL (by simp)]
   rfl
  .rw [bG (by simp[c])]
   exact Jb (r:=r) ((ah.mp h).resolve_left λz=>c z.symm)
theorem zc{e:Int}{r:Ϝ}:∀{rs:Λ}{i:Nat}(p:Nat),rs.flatten.Nodup->rs[i]?=some r->e∈r->Z.getD (qK p rs) (.inl e)=some (.int ((p+i:Nat):Int))
 | [],i,p,_,h,_=>by simp at h
 |s::rs,0,p,hn,h,he=>by
  simp at h;subst h;exact Jb he
 |s::rs,i+1,p,hn,h,he=>by
  rw[fCq,nAq]at hn;have l:rs[i]?=some r:=by simpa using h
  have:=zc (rs:=rs) (i:=i) (p+1) hn.2.1 l he;rw[show p+1+i=p+(i+1) by lia]at this
  rw[←this];refine getD_app ?_;unfold vS;rw[mPq];intro m;obtain⟨x,n,t⟩:=mMq.mp m;cases t;exact hn.2.2 _ n _ (mFq.mpr ⟨r,mGq l,he⟩) rfl
def B4{rs:Λ}(hn:rs.flatten.Nodup) (hl:rs.flatten.length<=500000):wa [dM rs]=some (.owd (qK 0 rs)):=by
 have key:=Qg (x:=2) (y:=3) (k:=0) (body:=xa) (λi S=>∃C E l,S=[some (.sh (dM rs)),some (.owd (qK 0 (rs.take i))),C,E,l]) (ds:=rs.map dI) (S:=[some (.sh (dM rs)),some (.owd []),none,none,none]) ⟨none,none,none,rfl⟩ (by
  rintro i d S hd ⟨C,E,l,rfl⟩;rw[aU];obtain⟨r,hr,rfl⟩:=Iu hd;have s:=rS hr;have G:=wo rs (i+1);have P:i<rs.length:=(gSq.mp hr).1;have t:((rs.take i).flatten++r).Nodup:=by
   rw[←s];have I:rs.flatten=(rs.take (i+1)).flatten++(rs.drop (i+1)).flatten:=by rw[←fAq,bj]
   rw[I]at hn;exact(nAq.mp hn).1
  rw[s,lAq]at G;have J:=uV (x:=4) (body:=xu) (λj S=>∃l,S=[some (.sh (dM rs)),some (.owd (qK 0 (rs.take i)++vS i (r.take j))),some (.sh (.int i)),some (.sh (dI r)),l]) (ds:=r.map D.int) (S:=[some (.sh (dM rs)),some (.owd (qK 0 (rs.take i))),some (.sh (.int i)),some (.sh (dI r)),l]) ⟨l,by simp[vS]⟩ (by
   rintro j d S hd ⟨l,rfl⟩;obtain⟨z,B,rfl⟩:=Uy hd;have Q:j<r.length:=(gSq.mp B).1;have L:(qK 0 (rs.take i)++vS i (r.take j)).length<rH:=HI (by
    rw[lAq,Ml];unfold vS;rw[lMq,lTq];lia)
   have u:wI (qK 0 (rs.take i)++vS i (r.take j)) (.inl z) (.int (i:Int))=qK 0 (rs.take i)++vS i (r.take (j+1)):=by
    rw[yn]
    .unfold vS;rw[qv B,mBq,aV];rfl
    .rw [mBq,Am];intro m;have M:r.take (j+1)=r.take j++[z]:=qv B;rcases mAq.mp m with m|m
     .obtain ⟨x,H,n⟩:=mMq.mp m;cases n;exact(nAq.mp t).2.2 _ H _ (mGq B) rfl
     .unfold vS at m;rw[mPq]at m;obtain⟨x,H,n⟩:=mMq.mp m;cases n;have:=bg.sublist (cG (j+1) r) (nAq.mp t).2.1;rw[M]at this;exact(nAq.mp this).2.2 _ H _ (by simp) rfl
   refine⟨_,?_,some (.sh (.int z)),rfl⟩
   simp_arith [xu,L,u])
  obtain⟨R,n,O,rfl⟩:=J;rw[lMq,bh]at n;refine⟨_,?_,some (.sh (.int i)),some (.sh (dI r)),O,rfl⟩;rw[qv hr,Dy,lTq,dY (by lia),aU]
  simp_arith [xa,n])
 obtain⟨U,e,C,E,l,rfl⟩:=key;rw[aU,lMq,bh]at e
 simp_arith [wa,CC,e]
theorem Ae{c:MT}{body:MS}(P:AS->Prop) (μ:AS->Nat) (t:AS->Prop) (h:∀S,P S->∃b r,c S=some (b,r)/\(b=true->∃s,body r=some (.nx s)/\P s/\μ s<μ S)/\(b=false->t r)) :
  ∀(l:Nat) (S:AS),P S->μ S<l->∃S',tO c body l S=some (.nx S')/\t S'
 |0,S,_,u=>absurd u (cw _)
 |n+1,S,x,u=>by
  obtain⟨b,r,y,h1,h2⟩:=h S x;rw[UH,y,cA];cases b with
  |true =>
   obtain⟨s,z,B,m2⟩:=h1 rfl;rw[qd rfl,z];exact Ae P μ t h n s B (by lia)
  |false =>
   rw[qh (by simp)]
   exact⟨r,rfl,h2 rfl⟩
end Zl
namespace Zl
open PySem L2 Mr Z Xe
def kd(ks:Θ):List (pE×D):=ks.map λk:Nat=>((ar (k:Int):pE),D.bl true)
def kd_any(ks:Θ) (t:Nat):(kd ks).any (λkv=>decide (kv.1=(ar (t:Int):pE)))=decide (t∈ks):=by
 induction ks with
 |nil=>simp[kd]
 |cons k ks l =>
  unfold kd at l ⊢;rw[ax,eM,l]
  by_cases h:t=k
  .subst h;simp
  .have n:¬ (ar (k:Int):pE)=ar (t:Int):=λq=>h (by have:=ar.inj q;lia)
   simp[n,h]
def kd_get(ks:Θ) (t:Nat):(Z.getD (kd ks) (ar (t:Int))).isSome=decide (t∈ks):=by
 unfold Z.getD;rw[eg,←kd_any,cu,gq,fD]
def addN(kn:Θ) (t:Nat):Θ:=if t∈kn then kn else kn++[t]
def kd_put2(ks:Θ) (t:Nat):wI (kd ks) (ar (t:Int)) (.bl true)=kd (addN ks t):=by
 unfold addN
 by_cases h:t∈ks
 .rw [qd h];unfold wI;rw[kd_any,decide_eq_true h,qd rfl];unfold kd;rw[mPq];refine mCq λk _=>?_
  show (if _ then _ else _)=_
  split <;> rfl
 .rw [qh h];unfold wI;rw[kd_any,decide_eq_false h,qh (by simp)]
  simp[kd]
def plc(rs:Λ) (e:Int):Nat:=rs.findIdx λr=>decide (e∈r)
def same_place{rs:Λ}(hn:rs.flatten.Nodup) {i j:Nat}{r s:Ϝ}{e:Int}(l:rs[i]?=some r) (n:rs[j]?=some s) (h1:e∈r) (h2:e∈s):i=j:=by
 have a:=zc 0 hn l h1;have b:=zc 0 hn n h2;rw[a]at b;have:=D.int.inj (aN.inj b);lia
def plc_eq{rs:Λ}(hn:rs.flatten.Nodup) {i:Nat}{r:Ϝ}{e:Int}(l:rs[i]?=some r) (h1:e∈r):plc rs e=i:=by
 have hl:rs.findIdx (λr=>decide (e∈r))<rs.length:=fq ⟨r,mGq l,decide_eq_true h1⟩
 have h2:=gT (xs:=rs) (p:=λr=>decide (e∈r)) (w:=hl)
 exact same_place hn (gEg hl) l (of_decide_eq_true h2) h1
structure Mp (rs:Λ):Prop where
 hn:rs.flatten.Nodup
 hl:rs.flatten.length<=63
 hr:rs.length<=63
 hneg:∀e∈rs.flatten, -e∈rs.flatten
def Mp.at{rs:Λ}(h:Mp rs) {e:Int}(n:e∈rs.flatten):∃r,rs[plc rs e]?=some r/\e∈r:=by
 obtain⟨r,h1,h2⟩:=mFq.mp n;obtain⟨i,l⟩:=ak.mp h1;exact⟨r,by rw[plc_eq h.hn l h2];exact l,h2⟩
def Mp.kv{rs:Λ}(h:Mp rs) {e:Int}(l:e∈rs.flatten):Z.getD (qK 0 rs) (ar e)=some (.int (plc rs e:Int)):=by
 obtain⟨r,h1,h2⟩:=h.at l;have:=zc 0 h.hn h1 h2
 rwa [aU]at this
def Mp.lt{rs:Λ}(h:Mp rs) {e:Int}(l:e∈rs.flatten):plc rs e<rs.length:=by
 obtain⟨r,h1,_⟩:=h.at l;exact(gSq.mp h1).1
def Mp.row{rs:Λ}(h:Mp rs) {k:Nat}{r:Ϝ}(hk:rs[k]?=some r):r.length<=1000:=by
 have:=bT.length_le (aB (mGq hk));have:=h.hl;lia
def Pn{α β:Type}{f:α->β->α}{a:α}{r:List β}{i:Nat}{e:β}(l:r[i]?=some e):(r.take (i+1)).foldl f a=f ((r.take i).foldl f a) e:=by
 obtain⟨n,h2⟩:=gSq.mp l;rw[dJ n,fi,h2];rfl
def itr(f:Int->Int):Nat->Int->Int
 |0,e=>e
 |n+1,e=>f (itr f n e)
theorem HD(f:Int->Int) (m:Nat) (e:Int):∀n:Nat,itr f (n+m) e=itr f n (itr f m e)
 |0=>by rw[aU];rfl
 |n+1=>by rw[Nat.add_right_comm];show f (itr f (n+m) e)=f (itr f n (itr f m e));rw[HD f m e n]
theorem W9:∀(l E:Ϝ),l.Nodup->(∀x∈l,x∈E)->l.length<=E.length
 | [],E,_,_=>aE _
 |x::l,E,hn,h=>by
  have n:=az.mp hn;have r:=h x (ai ..);have h2:=W9 l (E.erase x) n.2 (λy s=>by
   refine(gU ?_).mpr (h y (mCo _ s));intro e;exact n.1 (e ▸ s))
  rw[List.length_erase_of_mem r]at h2;have:=dX r;rw[lCq];lia
def Tb{p:Nat->Prop}:∀n,p n->∃m,m<=n/\p m/\∀j,j<m->¬ p j:=by
 intro n
 induction n using fK with
 |_ n s =>
  intro h
  by_cases c:∃j,j<n/\p j
  .obtain ⟨j,l,r⟩:=c;obtain⟨m,h1,h2,t⟩:=s j l r;exact⟨m,by lia,h2,t⟩
  .exact ⟨n,ab _,h,λj l r=>c ⟨j,l,r⟩⟩
structure TC (f:Int->Int) (E:Ϝ):Prop where
 nd:E.Nodup
 to:∀e∈E,f e∈E
 inj:∀a∈E,∀b∈E,f a=f b->a=b
section
variable {f:Int->Int}{E:Ϝ}
theorem TC.itr_mem(h:TC f E) {e:Int}(l:e∈E):∀n,itr f n e∈E
 |0=>l
 |n+1=>h.to _ (h.itr_mem l n)
theorem TC.itr_inj(h:TC f E) {a b:Int}(ha:a∈E) (l:b∈E):∀n,itr f n a=itr f n b->a=b
 |0,e=>e
 |n+1,e=>h.itr_inj ha l n (h.inj _ (h.itr_mem ha n) _ (h.itr_mem l n) e)
def TC.cut(h:TC f E) {e:Int}(l:e∈E) {i j:Nat}(n:i<=j) (q:itr f i e=itr f j e):itr f (j-i) e=e:=by
 have r:itr f j e=itr f i (itr f (j-i) e):=by rw[←HD];congr 1;lia
 rw[r]at q;exact(h.itr_inj l (h.itr_mem l _) i q).symm
structure Cy (f:Int->Int) (e:Int) (l:Ϝ):Prop where
 len:1<=l.length
 get:l=(bJ l.length).map λn=>itr f n e
 back:itr f l.length e=e
 nd:l.Nodup
def TC.cy(h:TC f E) {e:Int}(s:e∈E):∃l,Cy f e l/\l.length<=E.length/\∀j,0<j->j<l.length->itr f j e≠e:=by
 have t:∃k,1<=k/\k<=E.length/\itr f k e=e:=by
  by_cases c:((bJ (E.length+1)).map λn=>itr f n e).Nodup
  .have:=W9 _ E c (λx B=>by obtain⟨n,_,rfl⟩:=mMq.mp B;exact h.itr_mem s n)
   rw[lMq,bw]at this;lia
  .rw [aG,aF]at c;have:∃i j,i<j/\j<E.length+1/\itr f i e=itr f j e:=by
    by_cases d:∃i j,i<j/\j<E.length+1/\itr f i e=itr f j e
    .exact d
    .exfalso;refine c ?_;refine bg.imp_of_mem (R:=λa b=>a<b) (λ{a b} ha hb hab q=>d ⟨a,b,hab,cZ.mp hb,q⟩) gK
   obtain⟨i,j,u,y,q⟩:=this;exact⟨j-i,by lia,by lia,h.cut s (bH u) q⟩
 obtain⟨k,h1,h2,C⟩:=t;obtain⟨m,m1,⟨m2,G⟩,z⟩:=Tb (p:=λk=>1<=k/\itr f k e=e) k ⟨h1,C⟩
 refine⟨(bJ m).map λn=>itr f n e,⟨by rw[lMq,bw];exact m2,by rw[lMq,bw],by rw[lMq,bw];exact G,?_⟩,by rw[lMq,bw];lia,λj y r q=>?_⟩
 .rw [aG,aF];refine bg.imp_of_mem (R:=λa b=>a<b) (λ{a b} ha hb hab q=>?_) gK
  have H:=cZ.mp hb;exact z (b-a) (by lia) ⟨by lia,h.cut s (bH hab) q⟩
 .rw [lMq,bw]at r;exact z j r ⟨y,q⟩
def Cy.at{e:Int}{l:Ϝ}(h:Cy f e l) {i:Nat}(r:i<l.length):l[i]?=some (itr f i e):=by
 have s:l[i]?=((bJ l.length).map λn=>itr f n e)[i]?:=congrArg (λx:Ϝ=>x[i]?) h.get
 rw[s,gMq,fY r];rfl
def Cy.self{e:Int}{l:Ϝ}(h:Cy f e l):e∈l:=mGq (h.at (i:=0) (by have:=h.len;lia))
structure Orb (f:Int->Int) (E:Ϝ) (L:Λ):Prop where
 cy:∀l∈L,∃e,Cy f e l
 dj:L.flatten.Nodup
 all:∀x,x∈L.flatten↔x∈E
end
end Zl
namespace K51
open PySem L2 Mr Z Xe
def ug:MS:=(oQ (pN 7 (kSc (tX (oq 2) (Ea xx (oq 6))))) (zC (tK (xM (oq 7) (oq 3))) (oQ (zx 3 (oq 7) (kSc (rC (.bl true)))) (zK 4 (oU 7))) qJ))
def wF:MS:=(oQ (Hh 5 (FY 4)) (BK 6 (P7 (tU 0) (oq 5)) ug))
def FI:MS:=(oQ (pN 2 (oZ Zl.wa (oB (oU 0) pD)))
 (oQ (pN 3 (HA (oq 1) (kSc (rC (.bl true)))))
 (oQ (pN 4 (uS (oB (oU 1) pD)))
 (oQ (tO (tK (pR MC (wb rB (ox (oq 4) oS)) (rC (.int 0)))) wF 100000)
 (qw (C0 (oq 3)))))))
def yF:MF:=rO 2 8 FI
def xP:MS:=(zx 1 (oq 5) (kSc (rC (.bl true))))
def uc:MS:=(zC (tK (xM (oq 3) (oq 1))) (oQ (pN 4 (oZ K51.yF (oB (oU 0) (oB (oU 3) pD)))) (oQ (BK 5 (oU 4) xP) (zK 2 (uu (zY (oU 4)) [0] qA (zy (lOf (P7 (tU 1) (oq 0)))))))) qJ)
def Dr:MS:=(oQ (pN 1 DI)
 (oQ (pN 2 (uS pD))
 (oQ (Br 3 (ox (wb rB (ox (oq 0) oS)) oS) uc)
 (qw (DS 2)))))
def tV:MF:=rO 1 6 Dr
def GC:MS:=(qw (uu (zY (oU 0)) [] qA (zy (tU 0))))
def zQ:MF:=rO 1 1 GC
end K51
namespace K31
open PySem L2 Mr Z Xe
def Ca:MS:=(oQ (pN 2 (kSc (rBM "list" Di (oq 0) (ox (oq 1) oS))))
 (qw (LB (lOf (Nt (tU 0) (wx (oq 2)) zz)) (lOf (Nt (tU 0) zz (wx (oq 2)))))))
def uK:MF:=rO 2 3 Ca
def mb_round_turns_0:MS:=(oQ (pN 7 (kSc (Ea xx (pR HU (oq 4) (oq 6))))) (oQ (pN 8 (kSc (tX (oq 2) (oq 7)))) (oQ (zC (tK (xM (oq 8) (oq 5))) (oQ (zx 5 (oq 8) (kSc (rC (.bl true)))) (oQ (zK 3 (oZ K31.uK (oB (P7 (tU 0) (oq 8)) (oB (oU 7) pD)))) (JC 4 (lOf (P7 (tU 3) (Ea xx (rC (.int 1)))))))) qJ) (VB 6 (λa b=>a+b) (rC (.int 1))))))
def CT:MS:=(oQ (pN 3 (kSc (rC (.int 1))))
 (oQ (pN 4 (kSc (rC (.int 0))))
 (oQ (zC (tK (pR MC (pR tS (oq 0) (rC (.int 3))) (rC (.int 0)))) (oQ (pN 3 (kSc (pR C6 (rC (.int 1)) (pR tS (pR zL (oq 0) (rC (.int 3))) (pR Jh (rC (.int 10)) (rC (.int 40))))))) (pN 4 (kSc (pR tS (pR zL (oq 1) (rC (.int 66))) (pR Jh (rC (.int 10)) (rC (.int 40))))))) qJ)
 (qw (kSc (pR C6 (pR CO (oq 3) (pR C6 (pR tS (pR C6 (pR CO (pR C6 (rC (.int 1)) (pR tS (oq 1) (rC (.int 66)))) (oq 2)) (oq 0)) (rC (.int 67))) (rC (.int 1)))) (oq 4)))))))
def tm:MF:=rO 3 5 CT
def sY:MS:=(VE 8 3 (ZK 3 (QC 3) (pR HU (oq 4) (pR Dq (wb rB (ox (oq 4) oS)) (rC (.int 1))))) (Kn 3 (GJ (tK (pR IQ (pR tS (oq 7) (rC (.int 4))) (rC (.int 1)))) (tK (pR MC (wb rB (ox (oq 4) oS)) (rC (.int 1))))) (λ_=>(Ik (FY 4))) (Kn 3 (GJ (tK (pR IQ (pR tS (oq 7) (rC (.int 4))) (rC (.int 2)))) (tK (pR MC (wb rB (ox (oq 5) oS)) (rC (.int 0))))) (Iy 3 (pN 9 (kSc (pR Dq (wb rB (ox (oq 5) oS)) (rC (.int 1))))) (Iy 3 (zC (tK (oq 2)) (pN 9 (kSc (pR tS (pR zL (oq 7) (rC (.int 8))) (wb rB (ox (oq 5) oS))))) qJ) (HJ 3 (zj 5 (oq 9))))) (Kn 3 (tK (pR MC (wb rB (ox (oq 6) oS)) (rC (.int 0)))) (Iy 3 (Hh 10 (UW CO (zj 6 (rC (.int 0))) (pR Dq (rC (.int 1)) (pR CO (rC (.int 2)) (pR tS (pR zL (oq 7) (rC (.int 4))) (rC (.int 2))))))) (λpath=>oQ ((Oe 3 (oU 10)) path) (zC (tK (pR IQ (pR tS (oq 7) (rC (.int 4))) (rC (.int 0)))) (oQ (zK 3 (uS (oB (kSc (Ea xx (oq 10))) pD))) (zK 4 (kSc (pR Dq (wb rB (ox (oq 3) oS)) (rC (.int 1)))))) (zK 5 (kSc (Ea xx (oq 10))))))) (λ_=>qJ)))))
def wD:MS:=(Lw 3 (ZK 3 (QC 3) (pR HU (oq 4) (pR Dq (wb rB (ox (oq 4) oS)) (rC (.int 1))))) (FY 5))
def EV:MS:=(oQ (pN 3 (uS (oB (uS pD) pD)))
 (oQ (pN 4 (uS (oB (kSc (rC (.int 0))) pD)))
 (oQ (pN 5 (uS pD))
 (oQ (pN 6 (zy (tU 1)))
 (oQ (BK 7 (oU 0) sY)
 (oQ (tO (tK (pR MC (wb rB (ox (oq 5) oS)) (rC (.int 0)))) wD 100000)
 (qw (DS 3))))))))
def vB:MF:=rO 3 11 EV
end K31
namespace K33
open PySem L2 Mr Z Xe
def B2:MS:=(qw (HL (lOf (uu (zY (oU 1)) [0] qA (kSc (tX (oq 1) (Ea xx (oq 0))))))))
def tP:MF:=rO 2 2 B2
def yO:MS:=(zx 1 (oq 3) (oU 2))
def Ee:MS:=(oQ (pN 1 DI)
 (oQ (M1 2 3 (oZ Zl.uM (oB (oU 0) pD)) yO)
 (qw (HL (lOf (uu (zY (oU 0)) [1] qA (oZ K33.tP (oB (oU 1) (oB (oU 0) pD)))))))))
def wV:MF:=rO 1 4 Ee
end K33
namespace K15
open PySem L2 Mr Z
def zf:MS:=(zx 1 (pR HU (oq 2) (oq 3)) (kSc (pR HU (oq 2) (pR tS (pR C6 (oq 3) (rC (.int 1))) (wb rB (ox (oq 2) oS))))))
def yN:MS:=(Br 3 (ox (wb rB (ox (oq 2) oS)) oS) zf)
def FA:MS:=(oQ (pN 1 DI)
 (oQ (BK 2 (oU 0) yN)
 (qw (DS 1))))
def yC:MF:=rO 1 4 FA
end K15
namespace K72
open PySem L2 Mr Z Xe
def FR:MS:=(qw (kSc (Yo (wb A6 (ox (oq 0) (ox (rC (.ty "int")) oS))) (Ym (wb A6 (ox (oq 0) (ox (rC (.ty "bool")) oS)))))))
def vv:MF:=rO 1 1 FR
end K72
namespace K44
open PySem L2 Mr Z
def vA:MS:=(oQ (pN 2 (kSc (pR C6 (pR C6 (oq 2) (rC (.int 1))) (pR tS (oq 0) (pR Jh (rC (.int 10)) (rC (.int 57))))))) (oQ (pN 0 (kSc (pR Qx (oq 0) (pR Jh (rC (.int 10)) (rC (.int 57)))))) (zK 3 (oU 2))))
def Ay:MS:=(oQ (pN 2 (kSc (rC (.int 0))))
 (oQ (pN 3 (uS pD))
 (oQ (Br 4 (ox (oq 1) oS) vA)
 (qw (DS 3)))))
def ux:MF:=rO 2 5 Ay
def yP:MS:=(oQ (RX 3 (zj 2 (pR tS (oq 0) (wb rB (ox (oq 2) oS))))) (pN 0 (kSc (pR zL (oq 0) (pR C6 (wb rB (ox (oq 2) oS)) (rC (.int 1)))))))
def Fe:MS:=(oQ (pN 2 (zy (tU 1)))
 (oQ (pN 3 (uS pD))
 (oQ (Br 4 (ox (wb rB (ox (oq 1) oS)) oS) yP)
 (qw (DS 3)))))
def yz:MF:=rO 2 5 Fe
def vh:MS:=(JC 2 (lOf (uS (oB (oU 3) (oB (kSc (Ea xx (oq 3))) pD)))))
def vd:MS:=(zK 8 (kSc (tX (oq 4) (pR HU (oq 8) (Ea xx (rC (.int 1)))))))
def ve:MS:=(zx 6 (oq 9) (kSc (rC (.bl true))))
def tW:MS:=(zC (tK (xM (oq 7) (oq 6))) (oQ (pN 8 (uS (oB (oU 7) pD))) (oQ (tO (tK (pR Le (tX (oq 4) (pR HU (oq 8) (Ea xx (rC (.int 1))))) (oq 7))) vd 100000) (oQ (BK 9 (oU 8) ve) (zK 5 (oU 8))))) qJ)
def Cr:MS:=(oQ (pN 2 (uS pD))
 (oQ (BK 3 (oU 1) vh)
 (oQ (pN 4 (kDZ (ox (oq 2) (ox (rOf (oZ K44.yz (oB (oU 0) (oB (oU 2) pD)))) oS))))
 (oQ (pN 5 (uS pD))
 (oQ (pN 6 DI)
 (oQ (BK 7 (oU 2) tW)
 (qw (DS 5))))))))
def xD:MF:=rO 2 10 Cr
end K44
namespace K40
open PySem L2 Mr Z
def uL:MS:=(zC (tK (pR Le (wb rB (ox (rOf (oZ K51.tV (oB (oU 0) pD))) oS)) (rC (.int 1)))) Dd qJ)
def rA:MF:=rO 1 1 uL
def mb_round_turns_0:MS:=(oQ (pN 7 (kSc (Ea xx (pR HU (oq 4) (oq 6))))) (oQ (pN 8 (kSc (tX (oq 2) (oq 7)))) (oQ (zC (tK (xM (oq 8) (oq 5))) (oQ (zx 5 (oq 8) (kSc (rC (.bl true)))) (oQ (zK 3 (oZ K31.uK (oB (P7 (tU 0) (oq 8)) (oB (oU 7) pD)))) (JC 4 (lOf (P7 (tU 3) (Ea xx (rC (.int 1)))))))) qJ) (VB 6 (λa b=>a+b) (rC (.int 1))))))
def Ad:MS:=(oQ (pN 2 (oZ Zl.wa (oB (oU 0) pD)))
 (oQ (zC (tK (xM (oq 1) (oq 2))) Dd qJ)
 (oQ (pN 3 (uS (oB (oZ K31.uK (oB (P7 (tU 0) (tX (oq 2) (oq 1))) (oB (oU 1) pD))) pD)))
 (oQ (pN 4 (zy (lOf (P7 (tU 3) (rC (.int 0))))))
 (oQ (pN 5 (HA (tX (oq 2) (oq 1)) (kSc (rC (.bl true)))))
 (oQ (pN 6 (kSc (rC (.int 0))))
 (oQ (tO (tK (pR Yz (oq 6) (wb rB (ox (oq 4) oS)))) mb_round_turns_0 100000)
 (qw (DS 3)))))))))
def uB:MF:=rO 2 9 Ad
def Ba:MS:=(qw (oZ Zl.uM (oB (oZ K40.uB (oB (oU 0) (oB (oU 1) pD))) pD)))
def wJ:MF:=rO 2 2 Ba
def Bi:MS:=(qw (oZ K33.wV (oB (oZ K40.uB (oB (oU 0) (oB (oU 1) pD))) pD)))
def qE:MF:=rO 2 2 Bi
def mb_L_pairs_0:MS:=(oQ (zC (A7 (yu (tK (wb A6 (ox (oq 1) (ox (rC (.ty "tuple")) oS))))) (tK (pR Le (wb rB (ox (oq 1) oS)) (rC (.int 2))))) (qw (kSc (rC (.bl false)))) qJ) (zC (A7 (yu (tK (sN K72.vv (ox (pR vV (oq 1) (rC (.int 0))) oS)))) (yu (tK (sN K72.vv (ox (pR vV (oq 1) (rC (.int 1))) oS))))) (qw (kSc (rC (.bl false)))) qJ))
def mf_L_pairs:MS:=(oQ (zC (yu (tK (wb A6 (ox (oq 0) (ox (rC (.ty "list")) oS))))) (qw (kSc (rC (.bl false)))) qJ)
 (oQ (BK 1 (oU 0) mb_L_pairs_0)
 (qw (kSc (rC (.bl true))))))
def f_L_pairs:MF:=rO 1 2 mf_L_pairs
def ue:MS:=(zC (A7 (tK (pR Le (tX (oq 5) (Ea xx (oq 6))) (Ea xx (tX (oq 5) (oq 6))))) (tK (pR Le (tX (oq 5) (LZ (oq 3) (oq 6))) (tX (oq 4) (tX (oq 5) (oq 6)))))) (qw (kSc (rC (.bl false)))) qJ)
def xg:MS:=(oQ (zC (A7 (yu (tK (sN K40.f_L_pairs (ox (oq 0) oS)))) (tK (pR BD (oq 0) (rOf (CN (tU 0)))))) (qw (kSc (rC (.bl false)))) qJ)
 (oQ (pN 3 (oZ K15.yC (oB (oU 1) pD)))
 (oQ (pN 4 (oZ K15.yC (oB (oU 2) pD)))
 (oQ (pN 5 (kDP (tU 0)))
 (oQ (zC (tK (pR BD (rOf (uu (zY (oU 0)) [] qA (kSc (pR vV (oq 0) (rC (.int 0)))))) (rOf (C0 (oq 3))))) (qw (kSc (rC (.bl false)))) qJ)
 (oQ (zC (tK (pR BD (rOf (Ij (lOf (uu (zY (oU 0)) [] qA (kSc (pR vV (oq 0) (rC (.int 1)))))))) (rOf (C0 (oq 4))))) (qw (kSc (rC (.bl false)))) qJ)
 (oQ (Qh 6 3 ue)
 (qw (kSc (rC (.bl true)))))))))))
def uy:MF:=rO 3 7 xg
end K40
namespace K37
open PySem L2 Mr Z
def xh:MS:=(oQ (pN 1 (oZ Zl.yq (oB (oU 0) pD)))
 (oQ (zC (tK (pR IQ (wb rB (ox (oq 1) oS)) (rC (.int 0)))) (qw (uS pD)) qJ)
 (qw (oZ K40.wJ (oB (oU 0) (oB (kSc (Hn 0 (tU 1) (oZ K40.qE (oB (oU 1) (oB (oU 0) pD))))) pD))))))
def tH:MF:=rO 1 2 xh
def yf:MS:=(oQ (So (kSc (sN K40.rA (ox (oq 0) oS))))
 (oQ (pN 1 (oZ Zl.yq (oB (oU 0) pD)))
 (oQ (zC (tK (pR IQ (wb rB (ox (oq 1) oS)) (rC (.int 0)))) (qw (oZ K33.wV (oB (oU 0) pD))) qJ)
 (qw (Qm (lOf (uu (zY (oU 1)) [0] qA (oZ K40.qE (oB (oU 1) (oB (oU 0) pD))))))))))
def rV:MF:=rO 1 2 yf
def Kf:MS:=(qw (LH (lOf (uu (zY (oZ K51.tV (oB (oU 0) pD))) [] qA (oZ K37.rV (oB (oU 0) pD))))))
def Cw:MF:=rO 1 1 Kf
def Dw:MS:=(qw (D4 K37.rV (lOf (oZ K51.tV (oB (oU 0) pD)))))
def xk:MF:=rO 1 1 Dw
def xW:MS:=(JC 2 (lOf (kLZ (ox (rOf (oZ K37.tH (oB (oU 3) pD))) (ox (rOf (oZ K37.tH (oB (oU 4) pD))) oS)))))
def Gx:MS:=(oQ (pN 2 (uS pD))
 (oQ (RQ 3 4 (oZ K37.xk (oB (oU 0) pD)) (oZ K37.xk (oB (oU 1) pD)) xW)
 (qw (CN (tU 2)))))
def CF:MF:=rO 2 5 Gx
def wY:MS:=(oQ (pN 6 (kSc (pR CO (pR HU (oq 2) (oq 5)) (pR Dq (rC (.int 1)) (pR CO (rC (.int 2)) (pR tS (pR zL (oq 3) (pR C6 (oq 5) (rC (.int 2)))) (rC (.int 2)))))))) (oQ (zx 4 (pR HU (oq 1) (oq 5)) (oU 6)) (zx 4 (Ea xx (pR HU (oq 1) (oq 5))) (kSc (Ea xx (oq 6))))))
def B7:MS:=(oQ (pN 4 DI)
 (oQ (Br 5 (ox (wb rB (ox (oq 1) oS)) oS) wY)
 (qw (uu (zY (oU 0)) [4] qA (uu (zY (oU 0)) [1] qA (kSc (tX (oq 1) (oq 0))))))))
def uJ:MF:=rO 4 7 B7
def Fv:MS:=(oQ (pN 3 (kSc (pR zL (wb rB (ox (oq 0) oS)) (rC (.int 2)))))
 (oQ (pN 4 (oZ K31.vB (oB (Nt (tU 0) zz (wx (oq 3))) (oB (Nt (tU 1) zz (wx (rC (.int 6)))) (oB (kSc (pR IQ (pR tS (oq 2) (rC (.int 2))) (rC (.int 1)))) pD)))))
 (oQ (pN 5 (oZ K31.vB (oB (Nt (tU 0) (wx (oq 3)) zz) (oB (Nt (tU 1) (wx (rC (.int 6))) (wx (rC (.int 12)))) (oB (kSc (pR IQ (pR tS (oq 2) (rC (.int 2))) (rC (.int 1)))) pD)))))
 (oQ (pN 6 (oZ K31.vB (oB (Nt (tU 0) zz (wx (oq 3))) (oB (Nt (tU 1) (wx (rC (.int 12))) zz) (oB (kSc (pR IQ (pR tS (oq 2) (rC (.int 2))) (rC (.int 1)))) pD)))))
 (oQ (pN 7 (Nt (lOf (uS (oB (oU 4) (oB (oU 5) (oB (oU 6) pD))))) zz (wx (pR C6 (rC (.int 1)) (pR tS (pR zL (oq 2) (rC (.int 2))) (rC (.int 3)))))))
 (qw (LB (DR 7) (lOf (uu (Yy (ox (pR tS (pR zL (oq 2) (rC (.int 6))) (rC (.int 3))) oS)) [] qA (uS (oB (uS pD) pD)))))))))))
def AL:MF:=rO 3 8 Fv
def yg:MS:=(JC 1 (DR 2))
def Dz:MS:=(oQ (pN 1 (uS pD))
 (oQ (BK 2 (oU 0) yg)
 (qw (oZ Zl.qq (oB (oU 1) pD)))))
def xp:MF:=rO 1 3 Dz
end K37
namespace K36
open PySem L2 Mr Z
def DP:MS:=(oQ (pN 2 (oZ K37.Cw (oB (oU 0) pD)))
 (oQ (pN 3 (oZ K37.Cw (oB (oU 1) pD)))
 (oQ (zC (tK (pR B6 (oq 2) (oq 3))) (qw (kTO "alike" (oZ K37.CF (oB (oU 0) (oB (oU 1) pD))))) qJ)
 (oQ Dd
 Dd))))
def yT:MF:=rO 2 5 DP
def Fy:MS:=(oQ (pN 2 (oZ K51.zQ (oB (oU 0) pD)))
 (oQ (pN 3 (oZ K51.zQ (oB (oU 1) pD)))
 (oQ (pN 4 (oZ K36.yT (oB (oU 2) (oB (oU 3) pD))))
 (oQ (zC (A7 (yu (tK (wb A6 (ox (oq 4) (ox (rC (.ty "tuple")) oS))))) (A7 (tK (pR Le (wb rB (ox (oq 4) oS)) (rC (.int 2)))) (A7 (tK (pR Le (pR vV (oq 4) (rC (.int 0))) (rC (.str "alike")))) (A7 (tK (pR BD (oq 2) (oq 0))) (tK (pR BD (oq 3) (oq 1))))))) (qw (kSc (rC .non))) qJ)
 (oQ (zC (yu (tK (sN K40.uy (ox (pR vV (oq 4) (rC (.int 1))) (ox (oq 0) (ox (oq 1) oS)))))) (qw (kSc (rC .non))) qJ)
 (qw (QW 4)))))))
def sG:MF:=rO 2 5 Fy
def wZ:MS:=(oQ (zK 2 (kSc (pR CO (oq 3) (pR Dq (rC (.int 1)) (pR CO (rC (.int 2)) (pR tS (oq 0) (rC (.int 2)))))))) (pN 0 (kSc (pR zL (oq 0) (rC (.int 2))))))
def CB:MS:=(oQ (pN 2 (uS pD))
 (oQ (BK 3 (oU 1) wZ)
 (qw (DS 2))))
def xN:MF:=rO 2 4 CB
def zN:MS:=(oQ (pN 1 (kSc (sN Zl.pI (ox (oq 0) (ox (rC (.int 0)) oS)))))
 (oQ (pN 2 (kSc (sN Zl.pI (ox (oq 0) (ox (rC (.int 1)) oS)))))
 (oQ (pN 3 (kSc (sN Zl.pI (ox (oq 0) (ox (rC (.int 2)) oS)))))
 (oQ (pN 4 (uu (Yy (ox (rC (.int 18)) oS)) [1,2] qA (kSc (sN K31.tm (ox (oq 1) (ox (oq 2) (ox (oq 0) oS)))))))
 (oQ (pN 5 (uu (Yy (ox (rC (.int 18)) oS)) [2,0] qA (kSc (sN K31.tm (ox (oq 1) (ox (sN Zl.pI (ox (oq 2) (ox (rC (.int 3)) oS))) (ox (oq 0) oS)))))))
 (oQ (pN 6 (oZ K37.AL (oB (Nt (tU 0) (wx (rC (.int 4))) (wx (rC (.int 67)))) (oB (oU 4) (oB (oU 3) pD)))))
 (oQ (pN 7 (oZ K37.xp (oB (uu (zY (oU 6)) [4,5,3] qA (oZ K37.uJ (oB (oU 0) (oB (oU 1) (oB (oU 2) (oB (kSc (pR zL (oq 3) (rC (.int 18)))) pD)))))) pD)))
 (qw (Hv (oB (oZ K37.xp (oB (oU 6) pD)) (oB (oU 7) pD)))))))))))
def uz:MF:=rO 1 8 zN
def Bf:MS:=(oQ (pN 1 (kSc (sN Zl.pI (ox (oq 0) (ox (rC (.int 0)) oS)))))
 (oQ (pN 2 (oZ K44.ux (oB (kSc (sN Zl.pI (ox (oq 0) (ox (rC (.int 1)) oS)))) (oB (kSc (pR tS (oq 1) (rC (.int 25)))) pD))))
 (oQ (pN 3 (oZ K44.xD (oB (kSc (sN Zl.pI (ox (oq 0) (ox (rC (.int 2)) oS)))) (oB (oU 2) pD))))
 (oQ (pN 4 (oZ K44.yz (oB (kSc (sN Zl.pI (ox (oq 0) (ox (rC (.int 4)) oS)))) (oB (oZ K44.ux (oB (kSc (sN Zl.pI (ox (oq 0) (ox (rC (.int 3)) oS)))) (oB (kSc (wb rB (ox (oq 2) oS))) pD))) pD))))
 (oQ (pN 4 (oZ K36.xN (oB (kSc (sN Zl.pI (ox (oq 0) (ox (rC (.int 5)) oS)))) (oB (oU 4) pD))))
 (oQ (pN 5 (uu (Yy (ox (pR tS (pR zL (oq 1) (rC (.int 25))) (rC (.int 4))) oS)) [] qA (uS pD)))
 (qw (Hv (oB (oZ Zl.qq (oB (LB (DR 3) (DR 5)) pD)) (oB (oZ Zl.qq (oB (LB (lOf (oZ K37.uJ (oB (oU 3) (oB (oU 2) (oB (oU 4) (oB (kSc (rC (.int 0))) pD)))))) (DR 5)) pD)) pD))))))))))
def vc:MF:=rO 1 6 Bf
def Sg:MS:=(oQ (G4 1 2 (oZ K36.uz (oB (oU 0) pD)))
 (oQ (zC (tK (pR IQ (pR tS (wb rB (ox (oq 0) oS)) (rC (.int 2))) (rC (.int 0)))) (G4 1 2 (oZ K36.vc (oB (oU 0) pD))) qJ)
 (oQ (pN 3 (oZ K36.sG (oB (oU 1) (oB (oU 2) pD))))
 (oQ (pN 4 (oZ K36.sG (oB (oU 2) (oB (oU 1) pD))))
 (oQ (zC (A7 (tK (pR HK (oq 3) (rC .non))) (A7 (tK (pR HK (oq 4) (rC .non))) (tK (pR HK (rOf (oZ K36.sG (oB (oU 1) (oB (oU 1) pD)))) (rC .non))))) (qw (kSc (rC (.bl false)))) qJ)
 (oQ (zC (Nd (tK (pR BD (oq 4) (rOf (CN (lOf (uu (zY (oU 3)) [] qA (Hv (oB (kSc (pR vV (oq 0) (rC (.int 1)))) (oB (kSc (pR vV (oq 0) (rC (.int 0)))) pD)))))))))) (qw (kSc (rC (.bl false)))) qJ)
 (oQ (pN 5 (zy (tU 3)))
 (oQ (zK 3 (Hv (oB (kSc (rC (.int 0))) (oB (kSc (rC (.int 0))) pD))))
 (qw (kSc (pR B6 (rOf (oZ K36.sG (oB (oU 1) (oB (oU 2) pD)))) (oq 5))))))))))))
def Nv:MF:=rO 1 6 Sg
def yQ(i:Nat):Stmt:=PySem.Challenge.pw_mapround_k36_whole_alike_is_laid.main.body.getD i (.Pass ⟨0,0,0,0⟩)
section
variable {P:jC}{w:jF}{K:Ζ}{mg:Str->Υ}{base:Heap}
abbrev xI:Stmt:=yQ 5
def ze:oW ["turns","told","turn"] ["turns"] (oH xI):=sC
abbrev xX(P w K mg base):=Fn P w K mg base 1 "told_ends" xI ["turns"] (rK K Zl.uM)
def Iz(D:ye K mg "told_ends" xI ["turns"] f fd) (B:Bt mg):xX P w K mg base f fd :=
 zA D ze λ_ _ _ _ _ _ hr n l=>⟨_,
   (oi (oV (i:=1) ze (rq oh))
   (oi (rY PassesOwn.never rfl (qp (pv 0)) (su (i:=2) ze)
    (oz (qM (tE aq dc de yL (pv 1) (oa (pv 2) oh)))))
   (oz (pH (pv 1))))),
   (oy (oO (i:=1) (rF oJ))
   (oy (wu (oD 0) (FG (i:=1) (Av 2)))
   (pK (ya 1))))⟩
abbrev AI:Stmt:=yQ 6
def Mm:oW ["m"] ["m"] (oH AI):=sC
abbrev C1(P w K mg base):=Fn P w K mg base 2 "ends_of" AI ["m"] (rK K Zl.yq)
def L7(D:ye K mg "ends_of" AI ["m"] f fd) (B:Bt mg) (l:xX P w K mg base u0 v0)  : C1 P w K mg base f fd :=
 zA D Mm λ_ _ _ _ _ _ hr r n=>⟨_,
   (oz (pH (oT Cf (by rfl) B.sorted bf (oa (pB l hr (oa (pv 0) oh)) oh)))),
   (pK (Js (SL.q (SK.lOf (oR (om (oD 0) oJ))))))⟩
abbrev xT:Stmt:=yQ 7
def uW:oW ["m","places","place","turn","end"] ["m"] (oH xT):=sC
abbrev zX(P w K mg base):=Fn P w K mg base 1 "places_at" xT ["m"] (rK K Zl.wa)
def Ie(D:ye K mg "places_at" xT ["m"] f fd) (B:Bt mg):zX P w K mg base f fd :=
 zA D uW λ_ _ _ _ _ _ hr n l=>⟨_,
   (oi (oV (i:=1) uW yy)
   (oi (rY PassesOwn.never rfl (N3 (by rfl) B.enum (oa (pv 0) oh)) (En rfl (uA (su (i:=2) uW) (uA (su (i:=3) uW) BO)))
    (oz (rY PassesOwn.never rfl (qp (pv 3)) (su (i:=4) uW)
    (oz (wR (sv hr) (pv 1) (pv 4) (pv 2) rfl)))))
   (oz (pH (pv 1))))),
   (oy (oO (i:=1) AK)
   (oy (On (oD 0) (wu (oD 3) (wA (i:=1) (oD 2) (oj 4))))
   (pK (ya 1))))⟩
abbrev AC:Stmt:=yQ 9
def uI:oW ["m","start","place_of","known","waiting","here","end","there"] ["m","start"] (oH AC):=sC
abbrev GL(P w K mg base):=Fn P w K mg base 2 "reached" AC ["m","start"] (rK K K51.yF)
def Mh(D:ye K mg "reached" AC ["m","start"] f fd) (B:Bt mg) (l:zX P w K mg base u2 v2)  : GL P w K mg base f fd :=
 zA D uI λ_ _ _ _ _ _ hr r n=>⟨_,
   (oi (oV (i:=2) uI (pB l hr (oa (pv 0) oh)))
   (oi (oV (i:=3) uI (NO (K1 (pv 1) vZ NZ) rfl rfl (by simp) (by decide)))
   (oi (oV (i:=4) uI (rq (oa (pv 1) oh)))
   (oi (B0 PassesOwn.never (pW Hd (oT pQ (by rfl) B.len PySem.boot_len (oa (pv 4) oh)) oA (qb _)) (oi (oV (i:=5) uI (Mg aq cU cV MU (pv 4))) (oz (rY PassesOwn.never rfl (qp (si rE (pv 0) (pv 5) (λ_ _=>rfl))) (su (i:=6) uI)
    (oi (oV (i:=7) uI (tL (sv hr) (pv 2) (yB vF (pv 6)) (by first|rfl|exact trivial|(intro _ _;rfl)))) (oz (rR (FB (ym (sv hr) (pv 7) (pv 3))) (oi (wR (sv hr) (pv 3) (pv 7) vZ rfl) (oz (qM (tE aq aH aJ qI (pv 4) (oa (pv 7) oh))))) qi)))))))
   (oz (pH (oT (yX rfl) (by rfl) B.sorted bf (oa (pv 3) oh)))))))),
   (oy (oO (i:=2) (oR (om (oD 0) oJ)))
   (oy (oO (i:=3) (Jq (oj 1) (SR.kSc vU)))
   (oy (oO (i:=4) (rF (om (oD 1) oJ)))
   (oy (Ce 100000 (pV (oE GH (qZ qL (ou (oj 4) oK)) oC)) (oy (Vt (i:=5) (Hk (i:=4))) (wu (He (rh 0) (oj 5)) (oy (oO (i:=7) (SR.kSc (uf (oj 2) (yr vo (oj 6))))) (tF (xQ (yI (oj 7) (oj 3))) (oy (wA (i:=3) (SR.kSc vU) (oj 7)) (xj (i:=4) (oD 7))) qr)))))
   (pK (FM (oj 3)))))))⟩
abbrev Cg:Stmt:=yQ 10
def wU:oW ["m","known","found","start","places","place"] ["m"] (oH Cg):=sC
abbrev Cz(P w K mg base):=Fn P w K mg base 3 "pieces" Cg ["m"] (rK K K51.tV)
def PZ(D:ye K mg "pieces" Cg ["m"] f fd) (B:Bt mg) (l:GL P w K mg base u3 v3)  : Cz P w K mg base f fd :=
 zA D wU λ_ _ _ _ _ _ hr r n=>⟨_,
   (oi (oV (i:=1) wU yy)
   (oi (oV (i:=2) wU (rq oh))
   (oi (rY PassesOwn.never rfl (ui (by rfl) B.range (oa (oT pQ (by rfl) B.len PySem.boot_len (oa (pv 0) oh)) oh)) (su (i:=3) wU)
    (oz (rR (FB (ym (sv hr) (pv 3) (pv 1))) (oi (oV (i:=4) wU (pB l hr (oa (pv 0) (oa (pv 3) oh)))) (oi (rY PassesOwn.never rfl (qp (pv 4)) (su (i:=5) wU)
    (oz (wR (sv hr) (pv 1) (pv 5) vZ rfl))) (oz (qM (tE aq aH aJ qI (pv 2) (oa (sF (N:=["place","m"]) (fr:=[0]) rfl rfl (by decide +kernel) rfl (by decide +kernel) rfl (tJ.of (by decide +kernel) rfl rfl (by exact⟨rfl,trivial⟩) (by repeat (first|exact trivial|refine⟨(by first|exact λ_=>⟨_,rfl⟩|exact λh=>(by rcases h with h|h <;> cases h)),?_⟩)) (by exact⟨⟨rfl,rfl,rfl⟩,trivial⟩)) (qp (pv 4)) (λ_ _ _ _=>tY) (λ_ _ _ _=>(uO uk (by rfl) B.list bY (oa (si rE (pv 1) (pv 0) (λ_ _=>rfl)) oh)))) oh)))))) qi)))
   (oz (pH (pv 2)))))),
   (oy (oO (i:=1) AK)
   (oy (oO (i:=2) (rF oJ))
   (oy (Ab (ou (qZ qL (ou (oj 0) oK)) oK) (tF (xQ (yI (oj 3) (oj 1))) (oy (oO (i:=4) (oR (om (oD 0) (om (oD 3) oJ)))) (oy (wu (oD 4) (wA (i:=1) (SR.kSc vU) (oj 5))) (xj (i:=2) (sH (oD 4) ud (AQ (SL.q (SK.lOf (He (rh 1) (oj 0))))))))) qr))
   (pK (ya 2)))))⟩
abbrev rG:Stmt:=yQ 11
def yi:oW ["m"] ["m"] (oH rG):=sC
abbrev uY(P w K mg base):=Fn P w K mg base 4 "refuse_not_one_piece" rG ["m"] (rK K K40.rA)
def yE(D:ye K mg "refuse_not_one_piece" rG ["m"] f fd) (B:Bt mg) (l:Cz P w K mg base u4 v4)  : uY P w K mg base f fd :=
 zA D yi λ_ _ _ _ _ _ hr r n=>⟨_,
   (oz (rR (pW Fq (oT pQ (by rfl) B.len PySem.boot_len (oa (pB l hr (oa (pv 0) oh)) oh)) oA (qb _)) (oz Ck) qi)),
   (tF (pV (oE Fc (qZ qL (ou (SK.rOf (oR (om (oD 0) oJ))) oK)) oC)) B5 qr)⟩
abbrev xV:Stmt:=yQ 13
def Co:oW ["turn","end","start"] ["turn","end"] (oH xV):=sC
abbrev DJ(P w K mg base):=Fn P w K mg base 1 "turn_from" xV ["turn","end"] (rK K K31.uK)
def HS(D:ye K mg "turn_from" xV ["turn","end"] f fd) (B:Bt mg):DJ P w K mg base f fd :=
 zA D Co λ_ _ _ _ _ _ hr n l=>⟨_,
   (oi (oV (i:=2) Co (tE aq fc gD Ki (pv 0) (oa (pv 1) oh)))
   (oz (pH (pJ ES (tD uD (pv 0) (tM (pv 2)) vN) (tD uD (pv 0) vN (tM (pv 2))))))),
   (oy (oO (i:=2) (SR.kSc (Wt (T := "list") Kz (oj 0) (ou (oj 1) oK))))
   (pK (ER (SK.lOf (zu (rh 0) (tI (oj 2)) vM)) (SK.lOf (zu (rh 0) vM (tI (oj 2)))))))⟩
abbrev vK:Stmt:=yQ 14
def qC:oW ["m","end","place_of","turns","ends","known","spot","other","there"] ["m","end"] (oH vK):=sC
abbrev xY(P w K mg base):=Fn P w K mg base 2 "round_turns" vK ["m","end"] (rK K K40.uB)
def Ft(D:ye K mg "round_turns" vK ["m","end"] f fd) (B:Bt mg) (n:zX P w K mg base u2 v2) (l:DJ P w K mg base u6 v6)  : xY P w K mg base f fd :=
 zA D qC λ_ _ _ _ _ _ hr s r=>⟨_,
   (oi (oV (i:=2) qC (pB n hr (oa (pv 0) oh)))
   (oi (rR (FB (ym (sv hr) (pv 1) (pv 2))) (oz Ck) qi)
   (oi (oV (i:=3) qC (rq (oa (pB l hr (oa (si rE (pv 0) (tL (sv hr) (pv 2) (pv 1) (by first|rfl|exact trivial|(intro _ _;rfl))) (λ_ _=>rfl)) (oa (pv 1) oh))) oh)))
   (oi (oV (i:=4) qC (uO uk (by rfl) B.list bY (oa (si rE (pv 3) oA (λ_ _=>rfl)) oh)))
   (oi (oV (i:=5) qC (NO (K1 (tL (sv hr) (pv 2) (pv 1) (by first|rfl|exact trivial|(intro _ _;rfl))) vZ NZ) rfl rfl (by simp) (by decide)))
   (oi (oV (i:=6) qC oA)
   (oi (B0 PassesOwn.never (pW VZ (pv 6) (oT pQ (by rfl) B.len PySem.boot_len (oa (pv 4) oh)) (qb _)) (oi (oV (i:=7) qC (yB vF (si rE (pv 4) (pv 6) (λ_ _=>rfl)))) (oi (oV (i:=8) qC (tL (sv hr) (pv 2) (pv 7) (by first|rfl|exact trivial|(intro _ _;rfl)))) (oi (rR (FB (ym (sv hr) (pv 8) (pv 5))) (oi (wR (sv hr) (pv 5) (pv 8) vZ rfl) (oi (qM (tE aq aH aJ qI (pv 3) (oa (pB l hr (oa (si rE (pv 0) (pv 8) (λ_ _=>rfl)) (oa (pv 7) oh))) oh))) (oz (qM (tE aq dc de yL (pv 4) (oa (si rE (pv 3) (yB vF oA) (λ_ _=>rfl)) oh)))))) qi) (oz (WG (i:=6) qC.nd rfl (by trivial) oA XG))))))
   (oz (pH (pv 3)))))))))),
   (oy (oO (i:=2) (oR (om (oD 0) oJ)))
   (oy (tF (xQ (yI (oj 1) (oj 2))) B5 qr)
   (oy (oO (i:=3) (rF (om (oR (om (He (rh 0) (uf (oj 2) (oj 1))) (om (oD 1) oJ))) oJ)))
   (oy (oO (i:=4) (AQ (SL.q (SK.lOf (He (rh 3) oC)))))
   (oy (oO (i:=5) (Jq (uf (oj 2) (oj 1)) (SR.kSc vU)))
   (oy (oO (i:=6) (SR.kSc oC))
   (oy (Ce 100000 (pV (oE VO (oj 6) (qZ qL (ou (oj 4) oK)))) (oy (oO (i:=7) (SR.kSc (yr vo (oE zZ (oj 4) (oj 6))))) (oy (oO (i:=8) (SR.kSc (uf (oj 2) (oj 7)))) (oy (tF (xQ (yI (oj 8) (oj 5))) (oy (wA (i:=5) (SR.kSc vU) (oj 8)) (oy (xj (i:=3) (oR (om (He (rh 0) (oj 8)) (om (oD 7) oJ)))) (FG (i:=4) (SK.lOf (He (rh 3) (yr vo oC)))))) qr) (Yw (i:=6) oC)))))
   (pK (ya 3)))))))))⟩
abbrev wK:Stmt:=yQ 15
def Gm:oW ["m","end"] ["m","end"] (oH wK):=sC
abbrev BX(P w K mg base):=Fn P w K mg base 3 "round_ends" wK ["m","end"] (rK K K40.wJ)
def Gg(D:ye K mg "round_ends" wK ["m","end"] f fd) (B:Bt mg) (n:xX P w K mg base u0 v0) (l:xY P w K mg base u7 v7)  : BX P w K mg base f fd :=
 zA D Gm λ_ _ _ _ _ _ hr s r=>⟨_,
   (oz (pH (pB n hr (oa (pB l hr (oa (pv 0) (oa (pv 1) oh))) oh)))),
   (pK (oR (om (oR (om (oD 0) (om (oD 1) oJ))) oJ)))⟩
abbrev xC:Stmt:=yQ 17
def Hj:oW ["spots","turn"] ["spots","turn"] (oH xC):=sC
abbrev DD(P w K mg base):=Fn P w K mg base 1 "turn_code" xC ["spots","turn"] (rK K K33.tP)
def II(D:ye K mg "turn_code" xC ["spots","turn"] f fd) (B:Bt mg) (l:mg "tuple" = none)   : DD P w K mg base f fd :=
 zA D Hj λ_ _ _ _ _ _ hr r n=>⟨_,
   (oz (pH (uO Bc (by rfl) l dS (oa (sF (N:=["end","spots"]) (fr:=[0]) rfl rfl (by decide +kernel) rfl (by decide +kernel) rfl (tJ.of (by decide +kernel) rfl rfl (by exact⟨rfl,trivial⟩) (by repeat (first|exact trivial|refine⟨(by first|exact λ_=>⟨_,rfl⟩|exact λh=>(by rcases h with h|h <;> cases h)),?_⟩)) (by exact⟨⟨rfl,rfl,rfl⟩,trivial⟩)) (qp (pv 1)) (λ_ _ _ _=>tY) (λ_ _ _ _=>(tL (sv hr) (pv 1) (yB vF (pv 0)) (by first|rfl|exact trivial|(intro _ _;rfl))))) oh)))),
   (pK (Ko (SL.q (SK.lOf (sH (oD 1) ud (SR.kSc (uf (oj 1) (yr vo (oj 0)))))))))⟩
abbrev AH:Stmt:=yQ 16
def zo:oW ["turns","spots","spot","end"] ["turns"] (oH AH):=sC
abbrev CQ(P w K mg base):=Fn P w K mg base 2 "code_of" AH ["turns"] (rK K K33.wV)
def LU(D:ye K mg "code_of" AH ["turns"] f fd) (B:Bt mg) (r:mg "tuple" = none) (l:xX P w K mg base u0 v0) (n:DD P w K mg base u9 v9)  : CQ P w K mg base f fd :=
 zA D zo λ_ _ _ _ _ _ hr t s=>⟨_,
   (oi (oV (i:=1) zo yy)
   (oi (rY PassesOwn.never rfl (N3 (by rfl) B.enum (oa (pB l hr (oa (pv 0) oh)) oh)) (En rfl (uA (su (i:=2) zo) (uA (su (i:=3) zo) BO)))
    (oz (wR (sv hr) (pv 1) (pv 3) (pv 2) rfl)))
   (oz (pH (uO Bc (by rfl) r dS (oa (sF (N:=["turn","spots"]) (fr:=[1]) rfl rfl (by decide +kernel) rfl (by decide +kernel) rfl (tJ.of (by decide +kernel) rfl rfl (by exact⟨rfl,trivial⟩) (by repeat (first|exact trivial|refine⟨(by first|exact λ_=>⟨_,rfl⟩|exact λh=>(by rcases h with h|h <;> cases h)),?_⟩)) (by exact⟨⟨rfl,rfl,rfl⟩,trivial⟩)) (qp (pv 0)) (λ_ _ _ _=>tY) (λ_ _ _ _=>(pB n hr (oa (pv 1) (oa (pv 0) oh))))) oh)))))),
   (oy (oO (i:=1) AK)
   (oy (On (oR (om (oD 0) oJ)) (wA (i:=1) (oD 2) (oj 3)))
   (pK (Ko (SL.q (SK.lOf (sH (oD 0) ud (oR (om (oD 1) (om (oD 0) oJ))))))))))⟩
abbrev wQ:Stmt:=yQ 18
def Ge:oW ["m","end"] ["m","end"] (oH wQ):=sC
abbrev yZ(P w K mg base):=Fn P w K mg base 3 "round_code" wQ ["m","end"] (rK K K40.qE)
def Gj(D:ye K mg "round_code" wQ ["m","end"] f fd) (B:Bt mg) (n:CQ P w K mg base u10 v10) (l:xY P w K mg base u7 v7)  : yZ P w K mg base f fd :=
 zA D Ge λ_ _ _ _ _ _ hr s r=>⟨_,
   (oz (pH (pB n hr (oa (pB l hr (oa (pv 0) (oa (pv 1) oh))) oh)))),
   (pK (oR (om (oR (om (oD 0) (om (oD 1) oJ))) oJ)))⟩
abbrev vJ:Stmt:=yQ 19
def As:oW ["m","ends"] ["m"] (oH vJ):=sC
abbrev Bp(P w K mg base):=Fn P w K mg base 6 "least_round" vJ ["m"] (rK K K37.tH)
def FS(D:ye K mg "least_round" vJ ["m"] f fd) {t u:Addr}(hC:fd.code = .ref t) (x:W.codeHdIn K t u=true) (y:(u,(("least_round" : Str) ++ ".<locals>.") ++ "<lambda>")∈vg K) (B:Bt mg) (r:C1 P w K mg base u1 v1) (l:BX P w K mg base u8 v8) (n:yZ P w K mg base u11 v11)  : Bp P w K mg base f fd :=
 ⟨D,okC D.F As (λ_ _ _ _=>Tg) λA outer s H z Q E hr h=>⟨_,(oi (oV (i:=1) As (pB r hr (oa (pv 0) oh))) (oi (rR (pW Bg (oT pQ (by rfl) B.len PySem.boot_len (oa (pv 1) oh)) oA (qb _)) (oz (pH (rq oh))) qi) (oz (pH (pB l hr (oa (pv 0) (oa (PB (i:=0) (k:=3) hr rfl (by rfl) B.min hC x y rfl rfl (DA.of rfl rfl rfl (by decide +kernel) rfl rfl ⟨_,rfl,rfl⟩ rfl) rfl (oa (pv 1) oh) (λ_ _ _ _=>rfl) (λ_ _ _ _ hr=>(pB n hr (oa (pv 1) (oa (pv 0) oh))))) oh))))))),JM _ (K:=K) (oy (oO (i:=1) (oR (om (oD 0) oJ))) (oy (tF (pV (oE Ap (qZ qL (ou (oj 1) oK)) oC)) (pK (rF oJ)) qr) (pK (oR (om (oD 0) (om (SR.kSc (Pl (i:=0) (rh 1) (oR (om (oD 1) (om (oD 0) oJ))))) oJ)))))) h⟩⟩
abbrev wz:Stmt:=yQ 20
def Bd:oW ["m","ends"] ["m"] (oH wz):=sC
abbrev zi(P w K mg base):=Fn P w K mg base 5 "least_code" wz ["m"] (rK K K37.rV)
def Gf(D:ye K mg "least_code" wz ["m"] f fd) (B:Bt mg) (l:uY P w K mg base u5 v5) (r:C1 P w K mg base u1 v1) (s:CQ P w K mg base u10 v10) (n:yZ P w K mg base u11 v11)  : zi P w K mg base f fd :=
 zA D Bd λ_ _ _ _ _ _ hr u t=>⟨_,
   (oi (qM (pB l hr (oa (pv 0) oh)))
   (oi (oV (i:=1) Bd (pB r hr (oa (pv 0) oh)))
   (oi (rR (pW Bg (oT pQ (by rfl) B.len PySem.boot_len (oa (pv 1) oh)) oA (qb _)) (oz (pH (pB s hr (oa (pv 0) oh)))) qi)
   (oz (pH (oT (O7 rfl u) (by rfl) B.min gO (oa (sF (N:=["end","m"]) (fr:=[0]) rfl rfl (by decide +kernel) rfl (by decide +kernel) rfl (tJ.of (by decide +kernel) rfl rfl (by exact⟨rfl,trivial⟩) (by repeat (first|exact trivial|refine⟨(by first|exact λ_=>⟨_,rfl⟩|exact λh=>(by rcases h with h|h <;> cases h)),?_⟩)) (by exact⟨⟨rfl,rfl,rfl⟩,trivial⟩)) (qp (pv 1)) (λ_ _ _ _=>tY) (λ_ _ _ _=>(pB n hr (oa (pv 1) (oa (pv 0) oh))))) oh))))))),
   (oy (Ue (SR.kSc (rQ (ou (oj 0) oK))))
   (oy (oO (i:=1) (oR (om (oD 0) oJ)))
   (oy (tF (pV (oE Ap (qZ qL (ou (oj 1) oK)) oC)) (pK (oR (om (oD 0) oJ))) qr)
   (pK (Um (SL.q (SK.lOf (sH (oD 1) ud (oR (om (oD 1) (om (oD 0) oJ)))))))))))⟩
abbrev DX:Stmt:=yQ 21
def Tc:oW ["m"] ["m"] (oH DX):=sC
abbrev Na(P w K mg base):=Fn P w K mg base 6 "codes" DX ["m"] (rK K K37.Cw)
def QX(D:ye K mg "codes" DX ["m"] f fd) (B:Bt mg) (G_least_code:zi P w K mg base u13 v13) (l:Cz P w K mg base u4 v4)  : Na P w K mg base f fd :=
 zA D Tc λ_ _ _ _ _ _ hr r n=>⟨_,
   (oz (pH (oT (HX r) (by rfl) B.sorted bf (oa (sF (cl:=[]) (N:=["piece"]) (fr:=[]) rfl rfl (by decide +kernel) rfl (by decide +kernel) rfl (tJ.none (by decide +kernel)) (qp (pB l hr (oa (pv 0) oh))) (λ_ _ _ _=>tY) (λ_ _ _ _=>(pB G_least_code hr (oa (pv 0) oh)))) oh)))),
   (pK (Rz (SL.q (SK.lOf (sH (oR (om (oD 0) oJ)) ud (oR (om (oD 0) oJ)))))))⟩
abbrev yS:Stmt:=yQ 23
def K3:oW ["m"] ["m"] (oH yS):=sC
abbrev Eu(P w K mg base):=Fn P w K mg base 8 "by_codes" yS ["m"] (rK K K37.xk)
def Kb(D:ye K mg "by_codes" yS ["m"] f fd) (B:Bt mg) (l:Cz P w K mg base u4 v4) (G_least_code:zi P w K mg base u13 v13)  : Eu P w K mg base f fd :=
 zA D K3 λ_ _ _ _ _ _ hr r n=>⟨_,
   (oz (pH (JF G_least_code.ok (hr.mono (by decide)) (by rfl) B.sorted (by rfl) G_least_code.D.m G_least_code.D.b (λ_ _ _ _ h=>h) (oa (pB l hr (oa (pv 0) oh)) oh)))),
   (pK (PD (SL.q (SK.lOf (oR (om (oD 0) oJ))))))⟩
abbrev Cq:Stmt:=yQ 24
def AG:oW ["m","n","pairs","one","two"] ["m","n"] (oH Cq):=sC
abbrev Ku(P w K mg base):=Fn P w K mg base 9 "laying" Cq ["m","n"] (rK K K37.CF)
def O8(D:ye K mg "laying" Cq ["m","n"] f fd) (B:Bt mg) (n:Eu P w K mg base u15 v15) (l:Bp P w K mg base u12 v12)  : Ku P w K mg base f fd :=
 zA D AG λ_ _ _ _ _ _ hr s r=>⟨_,
   (oi (oV (i:=2) AG (rq oh))
   (oi (rY PassesOwn.never rfl (Xa (by rfl) B.zip (oa (pB n hr (oa (pv 0) oh)) (oa (pB n hr (oa (pv 1) oh)) oh))) (En rfl (uA (su (i:=3) AG) (uA (su (i:=4) AG) BO)))
    (oz (qM (tE aq dc de yL (pv 2) (oa (UR rfl (by rfl) B.list (by rfl) B.zip (oa (pB l hr (oa (pv 3) oh)) (oa (pB l hr (oa (pv 4) oh)) oh))) oh)))))
   (oz (pH (oT zt (by rfl) B.sorted bf (oa (pv 2) oh)))))),
   (oy (oO (i:=2) (rF oJ))
   (oy (U7 (oR (om (oD 0) oJ)) (oR (om (oD 1) oJ)) (FG (i:=2) (SK.lOf (Vl (ou (SK.rOf (oR (om (oD 3) oJ))) (ou (SK.rOf (oR (om (oD 4) oJ))) oK))))))
   (pK (FH (rh 2)))))⟩
abbrev yR:Stmt:=yQ 26
def Aq:oW ["m","n","ones","others","code"] ["m","n"] (oH yR):=sC
abbrev FE(P w K mg base):=Fn P w K mg base 10 "compared" yR ["m","n"] (rK K K36.yT)
def Jp(D:ye K mg "compared" yR ["m","n"] f fd) (B:Bt mg) (l:Na P w K mg base u14 v14) (n:Ku P w K mg base u16 v16)  : FE P w K mg base f fd :=
 zA D Aq λ_ _ _ _ _ _ hr s r=>⟨_,
   (oi (oV (i:=2) Aq (pB l hr (oa (pv 0) oh)))
   (oi (oV (i:=3) Aq (pB l hr (oa (pv 1) oh)))
   (oi (rR (pW (QT s) (pv 2) (pv 3) (qb _)) (oz (pH (Ec (oa R7 (oa (pB n hr (oa (pv 0) (oa (pv 1) oh))) oh))))) qi)
   (oi Ck
   (oz Ck))))),
   (oy (oO (i:=2) (oR (om (oD 0) oJ)))
   (oy (oO (i:=3) (oR (om (oD 1) oJ)))
   (oy (tF (pV (oE SU (oj 2) (oj 3))) (pK (ZO (oR (om (oD 0) (om (oD 1) oJ))))) qr)
   (oy B5
   B5))))⟩
abbrev CJ:Stmt:=yQ 28
def Ow:oW ["_law_script","_law_k"] ["_law_script","_law_k"] (oH CJ):=sC
abbrev EB(P w K mg base):=Fn P w K mg base 1 "_law_cell" CJ ["_law_script","_law_k"] (rK K Zl.pI)
def PQ(D:ye K mg "_law_cell" CJ ["_law_script","_law_k"] f fd) (B:Bt mg):EB P w K mg base f fd :=
 zA D Ow λ_ _ _ _ _ _ hr n l=>⟨_,
   (oi (rR (pW VZ (pv 1) (oT pQ (by rfl) B.len PySem.boot_len (oa (pv 0) oh)) (qb _)) (oz (pH (si rE (pv 0) (pv 1) (λ_ _=>rfl)))) qi)
   (oz (pH oA))),
   (oy (tF (pV (oE VO (oj 1) (qZ qL (ou (oj 0) oK)))) (pK (SR.kSc (oE zZ (oj 0) (oj 1)))) qr)
   (pK (SR.kSc oC)))⟩
abbrev Cm:Stmt:=yQ 29
def yj:oW ["_law_one","_law_two","_law_k","_law_step","_law_shift"] ["_law_one","_law_two","_law_k"] (oH Cm):=sC
abbrev JK(P w K mg base):=Fn P w K mg base 1 "_law_name" Cm ["_law_one","_law_two","_law_k"] (rK K K31.tm)
def OI(D:ye K mg "_law_name" Cm ["_law_one","_law_two","_law_k"] f fd) (B:Bt mg):JK P w K mg base f fd :=
 zA D yj λ_ _ _ _ _ _ hr n l=>⟨_,
   (oi (oV (i:=3) yj oA)
   (oi (oV (i:=4) yj oA)
   (oi (rR (pW Hd (pJ rJ (pv 0) oA) oA (qb _)) (oi (oV (i:=3) yj (pJ xw oA (pJ rJ (pJ uG (pv 0) oA) (pJ HG oA oA)))) (oz (oV (i:=4) yj (pJ rJ (pJ uG (pv 1) oA) (pJ HG oA oA))))) qi)
   (oz (pH (pJ xw (pJ zV (pv 3) (pJ xw (pJ rJ (pJ xw (pJ zV (pJ xw oA (pJ rJ (pv 1) oA)) (pv 2)) (pv 0)) oA) oA)) (pv 4))))))),
   (oy (oO (i:=3) (SR.kSc oC))
   (oy (oO (i:=4) (SR.kSc oC))
   (oy (tF (pV (oE GH (oE rL (oj 0) oC) oC)) (oy (oO (i:=3) (SR.kSc (oE xq oC (oE rL (oE wt (oj 0) oC) (oE IB oC oC))))) (oO (i:=4) (SR.kSc (oE rL (oE wt (oj 1) oC) (oE IB oC oC))))) qr)
   (pK (SR.kSc (oE xq (oE Ah (oj 3) (oE xq (oE rL (oE xq (oE Ah (oE xq oC (oE rL (oj 1) oC)) (oj 2)) (oj 0)) oC) oC)) (oj 4)))))))⟩
abbrev AX:Stmt:=yQ 30
def rZ:oW ["_law_cells","_law_names","_law_wild","_law_turns_here","_law_way","_law_loose","_law_left","_law_cell_here","_law_here","_law_at","_law_end"] ["_law_cells","_law_names","_law_wild"] (oH AX):=sC
abbrev G9(P w K mg base):=Fn P w K mg base 1 "_law_turns" AX ["_law_cells","_law_names","_law_wild"] (rK K K31.vB)
def LM(D:ye K mg "_law_turns" AX ["_law_cells","_law_names","_law_wild"] f fd) (B:Bt mg):G9 P w K mg base f fd :=
 zA D rZ λ_ _ _ _ _ _ hr n l=>⟨_,
   (oi (oV (i:=3) rZ (rq (oa (rq oh) oh)))
   (oi (oV (i:=4) rZ (rq (oa oA oh)))
   (oi (oV (i:=5) rZ (rq oh))
   (oi (oV (i:=6) rZ (uO uk (by rfl) B.list bY (oa (pv 1) oh)))
   (oi (rY PassesOwn.never rfl (qp (pv 0)) (su (i:=7) rZ)
    (oi (oV (i:=8) rZ (si rE (pv 3) (si rE (pv 4) (pJ BC (oT pQ (by rfl) B.len PySem.boot_len (oa (pv 4) oh)) oA) (λ_ _=>rfl)) (λ_ _=>rfl))) (oz (rR (PW.pt (Ql (pW Bg (pJ rJ (pv 7) oA) oA (qb _)) (Oo (pW Hd (oT pQ (by rfl) B.len PySem.boot_len (oa (pv 4) oh)) oA (qb _))))) (oz (qM (Mg aq cU cV MU (pv 4)))) (oz (rR (PW.pt (Ql (pW Bg (pJ rJ (pv 7) oA) oA (qb _)) (Oo (pW Hd (oT pQ (by rfl) B.len PySem.boot_len (oa (pv 5) oh)) oA (qb _))))) (oi (oV (i:=9) rZ (pJ BC (oT pQ (by rfl) B.len PySem.boot_len (oa (pv 5) oh)) oA)) (oi (rR (Az (pv 2)) (oz (oV (i:=9) rZ (pJ rJ (pJ uG (pv 7) oA) (oT pQ (by rfl) B.len PySem.boot_len (oa (pv 5) oh))))) qi) (oz (qM (tE aq aH aJ qI (pv 8) (oa (tE aq cU cV El (pv 5) (oa (pv 9) oh)) oh)))))) (oz (rR (pW Hd (oT pQ (by rfl) B.len PySem.boot_len (oa (pv 6) oh)) oA (qb _)) (oi (oV (i:=10) rZ (pJ zV (tE aq cU cV El (pv 6) (oa oA oh)) (pJ BC oA (pJ zV oA (pJ rJ (pJ uG (pv 7) oA) oA))))) (oi (qM (tE aq aH aJ qI (pv 8) (oa (pv 10) oh))) (oz (rR (pW Bg (pJ rJ (pv 7) oA) oA (qb _)) (oi (qM (tE aq aH aJ qI (pv 3) (oa (rq (oa (yB vF (pv 10)) oh)) oh))) (oz (qM (tE aq aH aJ qI (pv 4) (oa (pJ BC (oT pQ (by rfl) B.len PySem.boot_len (oa (pv 3) oh)) oA) oh))))) (oz (qM (tE aq aH aJ qI (pv 5) (oa (yB vF (pv 10)) oh)))))))) qi))))))))
   (oi (B0 PassesOwn.never (pW Hd (oT pQ (by rfl) B.len PySem.boot_len (oa (pv 5) oh)) oA (qb _)) (oz (qM (tE aq aH aJ qI (si rE (pv 3) (si rE (pv 4) (pJ BC (oT pQ (by rfl) B.len PySem.boot_len (oa (pv 4) oh)) oA) (λ_ _=>rfl)) (λ_ _=>rfl)) (oa (Mg aq cU cV MU (pv 5)) oh)))))
   (oz (pH (pv 3))))))))),
   (oy (oO (i:=3) (rF (om (rF oJ) oJ)))
   (oy (oO (i:=4) (rF (om (SR.kSc oC) oJ)))
   (oy (oO (i:=5) (rF oJ))
   (oy (oO (i:=6) (AQ (rh 1)))
   (oy (wu (oD 0) (WB (Te (Oa 3) (oE zZ (oj 4) (oE BH (qZ qL (ou (oj 4) oK)) oC))) (Q6 (Rt (pV (oE Ap (oE rL (oj 7) oC) oC)) (pV (oE GH (qZ qL (ou (oj 4) oK)) oC))) (V7 (Qp (Hk (i:=4)))) (Q6 (Rt (pV (oE Ap (oE rL (oj 7) oC) oC)) (pV (oE GH (qZ qL (ou (oj 5) oK)) oC))) (Lm (MV (SR.kSc (oE BH (qZ qL (ou (oj 5) oK)) oC)) (by decide)) (Lm (WQ (xQ (oj 2)) (MV (SR.kSc (oE rL (oE wt (oj 7) oC) (qZ qL (ou (oj 5) oK)))) (by decide)) (QS (λ_ _ _ h=>h))) (U1 (Fw (i:=5) (oj 9))))) (Q6 (pV (oE GH (qZ qL (ou (oj 6) oK)) oC)) (Lm (Qu (Zq Ah (Fw (i:=6) oC) (oE BH oC (oE Ah oC (oE rL (oE wt (oj 7) oC) oC)))) (by decide)) (Wz (Xf (oD 10)) (tF (pV (oE Ap (oE rL (oj 7) oC) oC)) (oy (xj (i:=3) (rF (om (SR.kSc (yr vo (oj 10))) oJ))) (xj (i:=4) (SR.kSc (oE BH (qZ qL (ou (oj 3) oK)) oC)))) (xj (i:=5) (SR.kSc (yr vo (oj 10))))))) (V7 qr))))))
   (oy (Ce 100000 (pV (oE GH (qZ qL (ou (oj 5) oK)) oC)) (RN (Te (Oa 3) (oE zZ (oj 4) (oE BH (qZ qL (ou (oj 4) oK)) oC))) (Hk (i:=5))))
   (pK (ya 3))))))))⟩
abbrev za:Stmt:=yQ 31
def DO:oW ["_law_turn","_law_at"] ["_law_turn"] (oH za):=sC
abbrev FL(P w K mg base):=Fn P w K mg base 1 "_law_turned" za ["_law_turn"] (rK K Zl.yH)
def JW(D:ye K mg "_law_turned" za ["_law_turn"] f fd) (B:Bt mg):FL P w K mg base f fd :=
 zA D DO λ_ _ _ _ _ _ hr n l=>⟨_,
   (oi (rR (pW Bg (oT pQ (by rfl) B.len PySem.boot_len (oa (pv 0) oh)) oA (qb _)) (oz (pH (rq oh))) qi)
   (oi (oV (i:=1) DO (tE aq fc gD Ki (pv 0) (oa (oT (PU rfl) (by rfl) B.min gO (oa (pv 0) oh)) oh)))
   (oz (pH (pJ ES (tD uD (pv 0) (tM (pv 1)) vN) (tD uD (pv 0) vN (tM (pv 1)))))))),
   (oy (tF (pV (oE Ap (qZ qL (ou (oj 0) oK)) oC)) (pK (rF oJ)) qr)
   (oy (oO (i:=1) (SR.kSc (Wt (T := "list") Kz (oj 0) (ou (qZ X2 (ou (oj 0) oK)) oK))))
   (pK (ER (SK.lOf (zu (rh 0) (tI (oj 1)) vM)) (SK.lOf (zu (rh 0) vM (tI (oj 1))))))))⟩
abbrev B8:Stmt:=yQ 32
def OX:oW ["_law_turns_here"] ["_law_turns_here"] (oH B8):=sC
abbrev EL(P w K mg base):=Fn P w K mg base 2 "_law_good" B8 ["_law_turns_here"] (rK K Zl.qq)
def P2(D:ye K mg "_law_good" B8 ["_law_turns_here"] f fd) (B:Bt mg) (n:FL P w K mg base u21 v21)  : EL P w K mg base f fd :=
 zA D OX λ_ _ _ _ _ _ hr r l=>⟨_,
   (oz (pH (oT (Im r) (by rfl) B.sorted bf (oa (sF (cl:=[]) (N:=["_law_turn"]) (fr:=[]) rfl rfl (by decide +kernel) rfl (by decide +kernel) rfl (tJ.none (by decide +kernel)) (qp (pv 0)) (λ_ _ _ _=>tY) (λ_ _ _ _=>(pB n hr (oa (pv 0) oh)))) oh)))),
   (pK (OJ (sH (oD 0) ud (oR (om (oD 0) oJ)))))⟩
abbrev Ct:Stmt:=yQ 33
def Pa:oW ["_law_m"] ["_law_m"] (oH Ct):=sC
abbrev Kt(P w K mg base):=Fn P w K mg base 1 "_law_copy" Ct ["_law_m"] (rK K K51.zQ)
def PR(D:ye K mg "_law_copy" Ct ["_law_m"] f fd) (B:Bt mg):Kt P w K mg base f fd :=
 zA D Pa λ_ _ _ _ _ _ hr n l=>⟨_,
   (oz (pH (sF (cl:=[]) (N:=["_law_turn"]) (fr:=[]) rfl rfl (by decide +kernel) rfl (by decide +kernel) rfl (tJ.none (by decide +kernel)) (qp (pv 0)) (λ_ _ _ _=>tY) (λ_ _ _ _=>(uO uk (by rfl) B.list bY (oa (pv 0) oh)))))),
   (pK (sH (oD 0) ud (AQ (rh 0))))⟩
abbrev xO:Stmt:=yQ 34
def wC:oW ["_law_turns_here","_law_names","_law_others","_law_bits","_law_new","_law_k","_law_end"] ["_law_turns_here","_law_names","_law_others","_law_bits"] (oH xO):=sC
abbrev Af(P w K mg base):=Fn P w K mg base 1 "_law_renamed" xO ["_law_turns_here","_law_names","_law_others","_law_bits"] (rK K K37.uJ)
def Iv(D:ye K mg "_law_renamed" xO ["_law_turns_here","_law_names","_law_others","_law_bits"] f fd) (B:Bt mg):Af P w K mg base f fd :=
 zA D wC λ_ _ _ _ _ _ hr n l=>⟨_,
   (oi (oV (i:=4) wC yy)
   (oi (rY PassesOwn.never rfl (ui (by rfl) B.range (oa (oT pQ (by rfl) B.len PySem.boot_len (oa (pv 1) oh)) oh)) (su (i:=5) wC)
    (oi (oV (i:=6) wC (pJ zV (si rE (pv 2) (pv 5) (λ_ _=>rfl)) (pJ BC oA (pJ zV oA (pJ rJ (pJ uG (pv 3) (pJ xw (pv 5) oA)) oA))))) (oi (wR (sv hr) (pv 4) (si rE (pv 1) (pv 5) (λ_ _=>rfl)) (pv 6) rfl) (oz (wR (sv hr) (pv 4) (yB vF (si rE (pv 1) (pv 5) (λ_ _=>rfl))) (yB vF (pv 6)) rfl)))))
   (oz (pH (sF (N:=["_law_turn","_law_new"]) (fr:=[4]) rfl rfl (by decide +kernel) rfl (by decide +kernel) rfl (tJ.of (by decide +kernel) rfl rfl (by exact⟨rfl,trivial⟩) (by repeat (first|exact trivial|refine⟨(by first|exact λ_=>⟨_,rfl⟩|exact λh=>(by rcases h with h|h <;> cases h)),?_⟩)) (by exact⟨⟨rfl,rfl,rfl⟩,trivial⟩)) (qp (pv 0)) (λ_ _ _ _=>tY) (λ_ _ _ _=>(sF (N:=["_law_end","_law_new"]) (fr:=[1]) rfl rfl (by decide +kernel) rfl (by decide +kernel) rfl (tJ.of (by decide +kernel) rfl rfl (by exact⟨rfl,trivial⟩) (by repeat (first|exact trivial|refine⟨(by first|exact λ_=>⟨_,rfl⟩|exact λh=>(by rcases h with h|h <;> cases h)),?_⟩)) (by exact⟨⟨rfl,rfl,rfl⟩,trivial⟩)) (qp (pv 0)) (λ_ _ _ _=>tY) (λ_ _ _ _=>(tL (sv hr) (pv 1) (pv 0) (by first|rfl|exact trivial|(intro _ _;rfl))))))))))),
   (oy (oO (i:=4) AK)
   (oy (Ab (ou (qZ qL (ou (oj 1) oK)) oK) (oy (oO (i:=6) (SR.kSc (oE Ah (oE zZ (oj 2) (oj 5)) (oE BH oC (oE Ah oC (oE rL (oE wt (oj 3) (oE xq (oj 5) oC)) oC)))))) (oy (wA (i:=4) (oD 6) (oE zZ (oj 1) (oj 5))) (wA (i:=4) (SR.kSc (yr vo (oj 6))) (yr vo (oE zZ (oj 1) (oj 5)))))))
   (pK (sH (oD 0) ud (sH (oD 0) ud (SR.kSc (uf (oj 1) (oj 0))))))))⟩
abbrev AZ:Stmt:=yQ 35
def LQ:oW ["_law_found"] ["_law_found"] (oH AZ):=sC
abbrev GB(P w K mg base):=Fn P w K mg base 1 "_law_whole" AZ ["_law_found"] (rK K K72.vv)
def LF(D:ye K mg "_law_whole" AZ ["_law_found"] f fd) (B:Bt mg):GB P w K mg base f fd :=
 zA D LQ λ_ _ _ _ _ _ hr n l=>⟨_,
   (oz (pH (WV (oT zU (by rfl) B.isi cC (oa (pv 0) (oa (BW (v:=.ty "int") (by rfl) B.int jv rfl) oh))) (Xm (Yn (oT zU (by rfl) B.isi cC (oa (pv 0) (oa (BW (v:=.ty "bool") (by rfl) B.bool jr rfl) oh)))))))),
   (pK (SR.kSc (Wx (qZ Ew (ou (oj 0) (ou K7 oK))) (Xn (qZ Ew (ou (oj 0) (ou K7 oK)))))))⟩
abbrev zk:Stmt:=yQ 36
def xU:oW ["_law_m","_law_follow_here","_law_turn","_law_k"] ["_law_m"] (oH zk):=sC
abbrev EM(P w K mg base):=Fn P w K mg base 1 "_law_follow" zk ["_law_m"] (rK K K15.yC)
def JG(D:ye K mg "_law_follow" zk ["_law_m"] f fd) (B:Bt mg):EM P w K mg base f fd :=
 zA D xU λ_ _ _ _ _ _ hr n l=>⟨_,
   (oi (oV (i:=1) xU yy)
   (oi (rY PassesOwn.never rfl (qp (pv 0)) (su (i:=2) xU)
    (oz (rY PassesOwn.never rfl (ui (by rfl) B.range (oa (oT pQ (by rfl) B.len PySem.boot_len (oa (pv 2) oh)) oh)) (su (i:=3) xU)
    (oz (wR (sv hr) (pv 1) (si rE (pv 2) (pv 3) (λ_ _=>rfl)) (si rE (pv 2) (pJ rJ (pJ xw (pv 3) oA) (oT pQ (by rfl) B.len PySem.boot_len (oa (pv 2) oh))) (λ_ _=>rfl)) rfl)))))
   (oz (pH (pv 1))))),
   (oy (oO (i:=1) AK)
   (oy (wu (oD 0) (Ab (ou (qZ qL (ou (oj 2) oK)) oK) (wA (i:=1) (SR.kSc (oE zZ (oj 2) (oE rL (oE xq (oj 3) oC) (qZ qL (ou (oj 2) oK))))) (oE zZ (oj 2) (oj 3)))))
   (pK (ya 1))))⟩
abbrev A3:Stmt:=yQ 37
def Ej:oW ["_law_found","_law_pair"] ["_law_found"] (oH A3):=sC
abbrev Hc(P w K mg base):=Fn P w K mg base 2 "_law_pairs" A3 ["_law_found"] (rK K K40.f_L_pairs)
def Mc(D:ye K mg "_law_pairs" A3 ["_law_found"] f fd) (B:Bt mg) (l:mg "tuple" = none) (n:GB P w K mg base u25 v25)  : Hc P w K mg base f fd :=
 zA D Ej λ_ _ _ _ _ _ hr s r=>⟨_,
   (oi (rR (Bs (Az (oT zU (by rfl) B.isi cC (oa (pv 0) (oa (BW (v:=.ty "list") (by rfl) B.list bY rfl) oh))))) (oz (pH vZ)) qi)
   (oi (rY PassesOwn.never rfl (qp (pv 0)) (su (i:=1) Ej)
    (oi (rR (PW.pt (Bj (Bs (Az (oT zU (by rfl) B.isi cC (oa (pv 1) (oa (BW (v:=.ty "tuple") (by rfl) l dS rfl) oh))))) (Dc (pW Fq (oT pQ (by rfl) B.len PySem.boot_len (oa (pv 1) oh)) oA (qb _))))) (oz (pH vZ)) qi) (oz (rR (PW.pt (Bj (Bs (Az (pB n hr (oa (si zd (pv 1) oA (λ_ _=>rfl)) oh)))) (Dc (Bs (Az (pB n hr (oa (si zd (pv 1) oA (λ_ _=>rfl)) oh))))))) (oz (pH vZ)) qi))))
   (oz (pH vZ)))),
   (oy (tF (BL (xQ (qZ Ew (ou (oj 0) (ou K7 oK))))) (pK (SR.kSc vU)) qr)
   (oy (wu (oD 0) (oy (tF (A9 (BL (xQ (qZ Ew (ou (oj 1) (ou K7 oK))))) (pV (oE Fc (qZ qL (ou (oj 1) oK)) oC))) (pK (SR.kSc vU)) qr) (tF (A9 (BL (xQ (rQ (ou (oE Ar (oj 1) oC) oK)))) (BL (xQ (rQ (ou (oE Ar (oj 1) oC) oK))))) (pK (SR.kSc vU)) qr)))
   (pK (SR.kSc vU))))⟩
abbrev vG:Stmt:=yQ 38
def tQ:oW ["_law_found","_law_m","_law_n","_law_ones","_law_others","_law_image","_law_end"] ["_law_found","_law_m","_law_n"] (oH vG):=sC
abbrev Bl(P w K mg base):=Fn P w K mg base 3 "_law_is_laying" vG ["_law_found","_law_m","_law_n"] (rK K K40.uy)
def Fi(D:ye K mg "_law_is_laying" vG ["_law_found","_law_m","_law_n"] f fd) (B:Bt mg) (n:EM P w K mg base u26 v26) (s:Hc P w K mg base u27 v27)  : Bl P w K mg base f fd :=
 zA D tQ λ_ _ _ _ _ _ hr l r=>⟨_,
   (oi (rR (PW.pt (Bj (Bs (Az (pB s hr (oa (pv 0) oh)))) (Dc (pW (CZ l) (pv 0) (oT zt (by rfl) B.sorted bf (oa (pv 0) oh)) (qb _))))) (oz (pH vZ)) qi)
   (oi (oV (i:=3) tQ (pB n hr (oa (pv 1) oh)))
   (oi (oV (i:=4) tQ (pB n hr (oa (pv 2) oh)))
   (oi (oV (i:=5) tQ (YV rfl (by rfl) B.dict (oa (pv 0) oh)))
   (oi (rR (pW (CZ l) (sF (cl:=[]) (N:=["_law_pair"]) (fr:=[]) rfl rfl (by decide +kernel) rfl (by decide +kernel) rfl (tJ.none (by decide +kernel)) (qp (pv 0)) (λ_ _ _ _=>tY) (λ_ _ _ _=>(si zd (pv 0) oA (λ_ _=>rfl)))) (oT (yX rfl) (by rfl) B.sorted bf (oa (pv 3) oh)) (qb _)) (oz (pH vZ)) qi)
   (oi (rR (pW (CZ l) (oT Cf (by rfl) B.sorted bf (oa (sF (cl:=[]) (N:=["_law_pair"]) (fr:=[]) rfl rfl (by decide +kernel) rfl (by decide +kernel) rfl (tJ.none (by decide +kernel)) (qp (pv 0)) (λ_ _ _ _=>tY) (λ_ _ _ _=>(si zd (pv 0) oA (λ_ _=>rfl)))) oh)) (oT (yX rfl) (by rfl) B.sorted bf (oa (pv 4) oh)) (qb _)) (oz (pH vZ)) qi)
   (oi (rY PassesOwn.never rfl (Xe.T4 (pv 3)) (su (i:=6) tQ)
    (oz (rR (PW.pt (Bj (pW Fq (tL (sv hr) (pv 5) (yB vF (pv 6)) (by first|rfl|exact trivial|(intro _ _;rfl))) (yB vF (tL (sv hr) (pv 5) (pv 6) (by first|rfl|exact trivial|(intro _ _;rfl)))) (qb _)) (Dc (pW Fq (tL (sv hr) (pv 5) (tL (sv hr) (pv 3) (pv 6) (by first|rfl|exact trivial|(intro _ _;rfl))) (by first|rfl|exact trivial|(intro _ _;rfl))) (tL (sv hr) (pv 4) (tL (sv hr) (pv 5) (pv 6) (by first|rfl|exact trivial|(intro _ _;rfl))) (by first|rfl|exact trivial|(intro _ _;rfl))) (qb _))))) (oz (pH vZ)) qi)))
   (oz (pH vZ))))))))),
   (oy (tF (A9 (BL (xQ (rQ (ou (oj 0) oK)))) (pV (oE C5 (oj 0) (SK.rOf (FH (rh 0)))))) (pK (SR.kSc vU)) qr)
   (oy (oO (i:=3) (oR (om (oD 1) oJ)))
   (oy (oO (i:=4) (oR (om (oD 2) oJ)))
   (oy (oO (i:=5) (Y9 (rh 0)))
   (oy (tF (pV (oE C5 (SK.rOf (sH (oD 0) ud (SR.kSc (oE Ar (oj 0) oC)))) (SK.rOf (FM (oj 3))))) (pK (SR.kSc vU)) qr)
   (oy (tF (pV (oE C5 (SK.rOf (Js (SL.q (SK.lOf (sH (oD 0) ud (SR.kSc (oE Ar (oj 0) oC))))))) (SK.rOf (FM (oj 4))))) (pK (SR.kSc vU)) qr)
   (oy (Vd (x:=6) (i:=3) (tF (A9 (pV (oE Fc (uf (oj 5) (yr vo (oj 6))) (yr vo (uf (oj 5) (oj 6))))) (pV (oE Fc (uf (oj 5) (SI (oj 3) (oj 6))) (uf (oj 4) (uf (oj 5) (oj 6)))))) (pK (SR.kSc vU)) qr))
   (pK (SR.kSc vU)))))))))⟩
abbrev AE:Stmt:=yQ 39
def vy:oW ["_law_cells","_law_names","_law_kind","_law_half","_law_one","_law_two","_law_again","_law_built_here"] ["_law_cells","_law_names","_law_kind"] (oH AE):=sC
abbrev GK(P w K mg base):=Fn P w K mg base 2 "_law_built" AE ["_law_cells","_law_names","_law_kind"] (rK K K37.AL)
def Ma(D:ye K mg "_law_built" AE ["_law_cells","_law_names","_law_kind"] f fd) (B:Bt mg) (l:G9 P w K mg base u20 v20)  : GK P w K mg base f fd :=
 zA D vy λ_ _ _ _ _ _ hr r n=>⟨_,
   (oi (oV (i:=3) vy (pJ uG (oT pQ (by rfl) B.len PySem.boot_len (oa (pv 0) oh)) oA))
   (oi (oV (i:=4) vy (pB l hr (oa (tD uD (pv 0) vN (tM (pv 3))) (oa (tD uD (pv 1) vN (tM oA)) (oa (D0 Bg (pJ rJ (pv 2) oA) oA (qb _)) oh)))))
   (oi (oV (i:=5) vy (pB l hr (oa (tD uD (pv 0) (tM (pv 3)) vN) (oa (tD uD (pv 1) (tM oA) (tM oA)) (oa (D0 Bg (pJ rJ (pv 2) oA) oA (qb _)) oh)))))
   (oi (oV (i:=6) vy (pB l hr (oa (tD uD (pv 0) vN (tM (pv 3))) (oa (tD uD (pv 1) (tM oA) vN) (oa (D0 Bg (pJ rJ (pv 2) oA) oA (qb _)) oh)))))
   (oi (oV (i:=7) vy (tD uD (rq (oa (pv 4) (oa (pv 5) (oa (pv 6) oh)))) vN (tM (pJ xw oA (pJ rJ (pJ uG (pv 2) oA) oA)))))
   (oz (pH (pJ ES (pv 7) (sF (cl:=[]) (N:=["_law_k"]) (fr:=[]) rfl rfl (by decide +kernel) rfl (by decide +kernel) rfl (tJ.none (by decide +kernel)) (ui (by rfl) B.range (oa (pJ rJ (pJ uG (pv 2) oA) oA) oh)) (λ_ _ _ _=>tY) (λ_ _ _ _=>(rq (oa (rq oh) oh)))))))))))),
   (oy (oO (i:=3) (SR.kSc (oE wt (qZ qL (ou (oj 0) oK)) oC)))
   (oy (oO (i:=4) (oR (om (zu (rh 0) vM (tI (oj 3))) (om (zu (rh 1) vM (tI oC)) (om (SR.kSc (oE Ap (oE rL (oj 2) oC) oC)) oJ)))))
   (oy (oO (i:=5) (oR (om (zu (rh 0) (tI (oj 3)) vM) (om (zu (rh 1) (tI oC) (tI oC)) (om (SR.kSc (oE Ap (oE rL (oj 2) oC) oC)) oJ)))))
   (oy (oO (i:=6) (oR (om (zu (rh 0) vM (tI (oj 3))) (om (zu (rh 1) (tI oC) vM) (om (SR.kSc (oE Ap (oE rL (oj 2) oC) oC)) oJ)))))
   (oy (oO (i:=7) (zu (SL.q (SK.lOf (rF (om (oD 4) (om (oD 5) (om (oD 6) oJ)))))) vM (tI (oE xq oC (oE rL (oE wt (oj 2) oC) oC)))))
   (pK (ER (Av 7) (SK.lOf (A4 (ou (oE rL (oE wt (oj 2) oC) oC) oK) ud (rF (om (rF oJ) oJ)))))))))))⟩
abbrev zr:Stmt:=yQ 40
def zO:oW ["_law_built_here","_law_turns_here","_law_piece"] ["_law_built_here"] (oH zr):=sC
abbrev D8(P w K mg base):=Fn P w K mg base 3 "_law_joined" zr ["_law_built_here"] (rK K K37.xp)
def Je(D:ye K mg "_law_joined" zr ["_law_built_here"] f fd) (B:Bt mg) (n:EL P w K mg base u22 v22)  : D8 P w K mg base f fd :=
 zA D zO λ_ _ _ _ _ _ hr r l=>⟨_,
   (oi (oV (i:=1) zO (rq oh))
   (oi (rY PassesOwn.never rfl (qp (pv 0)) (su (i:=2) zO)
    (oz (qM (tE aq dc de yL (pv 1) (oa (pv 2) oh)))))
   (oz (pH (pB n hr (oa (pv 1) oh)))))),
   (oy (oO (i:=1) (rF oJ))
   (oy (wu (oD 0) (FG (i:=1) (Av 2)))
   (pK (oR (om (oD 1) oJ)))))⟩
abbrev AN:Stmt:=yQ 41
def yY:oW ["_law_m","_law_n","_law_ones","_law_others","_law_found"] ["_law_m","_law_n"] (oH AN):=sC
abbrev G7(P w K mg base):=Fn P w K mg base 11 "_law_alike" AN ["_law_m","_law_n"] (rK K K36.sG)
def Ll(D:ye K mg "_law_alike" AN ["_law_m","_law_n"] f fd) (B:Bt mg) (n:mg "tuple" = none) (r:Kt P w K mg base u23 v23) (l:FE P w K mg base u17 v17) (u:Bl P w K mg base u28 v28)  : G7 P w K mg base f fd :=
 zA D yY λ_ _ _ _ _ _ hr s t=>⟨_,
   (oi (oV (i:=2) yY (pB r hr (oa (pv 0) oh)))
   (oi (oV (i:=3) yY (pB r hr (oa (pv 1) oh)))
   (oi (oV (i:=4) yY (pB l hr (oa (pv 2) (oa (pv 3) oh))))
   (oi (rR (PW.pt (Bj (Bs (Az (oT zU (by rfl) B.isi cC (oa (pv 4) (oa (BW (v:=.ty "tuple") (by rfl) n dS rfl) oh))))) (Bj (pW Fq (oT pQ (by rfl) B.len PySem.boot_len (oa (pv 4) oh)) oA (qb _)) (Bj (pW Fq (si zd (pv 4) oA (λ_ _=>rfl)) R7 (qb _)) (Bj (pW (CZ s) (pv 2) (pv 0) (qb _)) (Dc (pW (CZ s) (pv 3) (pv 1) (qb _)))))))) (oz (pH FX)) qi)
   (oi (rR (Bs (Az (pB u hr (oa (si zd (pv 4) oA (λ_ _=>rfl)) (oa (pv 0) (oa (pv 1) oh)))))) (oz (pH FX)) qi)
   (oz (pH (si zd (pv 4) oA (λ_ _=>rfl))))))))),
   (oy (oO (i:=2) (oR (om (oD 0) oJ)))
   (oy (oO (i:=3) (oR (om (oD 1) oJ)))
   (oy (oO (i:=4) (oR (om (oD 2) (om (oD 3) oJ))))
   (oy (tF (A9 (BL (xQ (qZ Ew (ou (oj 4) (ou K7 oK))))) (A9 (pV (oE Fc (qZ qL (ou (oj 4) oK)) oC)) (A9 (pV (oE Fc (oE Ar (oj 4) oC) X1)) (A9 (pV (oE C5 (oj 2) (oj 0))) (pV (oE C5 (oj 3) (oj 1))))))) (pK (SR.kSc E8)) qr)
   (oy (tF (BL (xQ (rQ (ou (oE Ar (oj 4) oC) (ou (oj 0) (ou (oj 1) oK)))))) (pK (SR.kSc E8)) qr)
   (pK (UQ 4)))))))⟩
abbrev vH:Stmt:=yQ 42
def sM:oW ["_law_cell_here","_law_many","_law_total","_law_names","_law_k"] ["_law_cell_here","_law_many"] (oH vH):=sC
abbrev Bk(P w K mg base):=Fn P w K mg base 1 "_law_gap_names" vH ["_law_cell_here","_law_many"] (rK K K44.ux)
def Eg(D:ye K mg "_law_gap_names" vH ["_law_cell_here","_law_many"] f fd) (B:Bt mg):Bk P w K mg base f fd :=
 zA D sM λ_ _ _ _ _ _ hr n l=>⟨_,
   (oi (oV (i:=2) sM oA)
   (oi (oV (i:=3) sM (rq oh))
   (oi (rY PassesOwn.never rfl (ui (by rfl) B.range (oa (pv 1) oh)) (su (i:=4) sM)
    (oi (oV (i:=2) sM (pJ xw (pJ xw (pv 2) oA) (pJ rJ (pv 0) (pJ HG oA oA)))) (oi (oV (i:=0) sM (pJ RC (pv 0) (pJ HG oA oA))) (oz (qM (tE aq aH aJ qI (pv 3) (oa (pv 2) oh)))))))
   (oz (pH (pv 3)))))),
   (oy (oO (i:=2) (SR.kSc oC))
   (oy (oO (i:=3) (rF oJ))
   (oy (Ab (ou (oj 1) oK) (oy (oO (i:=2) (SR.kSc (oE xq (oE xq (oj 2) oC) (oE rL (oj 0) (oE IB oC oC))))) (oy (oO (i:=0) (SR.kSc (oE Vo (oj 0) (oE IB oC oC)))) (xj (i:=3) (oD 2)))))
   (pK (ya 3)))))⟩
abbrev AY:Stmt:=yQ 43
def xr:oW ["_law_cell_here","_law_things","_law_left","_law_found","_law_k"] ["_law_cell_here","_law_things"] (oH AY):=sC
abbrev Dm(P w K mg base):=Fn P w K mg base 1 "_law_dealt" AY ["_law_cell_here","_law_things"] (rK K K44.yz)
def Lj(D:ye K mg "_law_dealt" AY ["_law_cell_here","_law_things"] f fd) (B:Bt mg):Dm P w K mg base f fd :=
 zA D xr λ_ _ _ _ _ _ hr n l=>⟨_,
   (oi (oV (i:=2) xr (uO uk (by rfl) B.list bY (oa (pv 1) oh)))
   (oi (oV (i:=3) xr (rq oh))
   (oi (rY PassesOwn.never rfl (ui (by rfl) B.range (oa (oT pQ (by rfl) B.len PySem.boot_len (oa (pv 1) oh)) oh)) (su (i:=4) xr)
    (oi (qM (tE aq aH aJ qI (pv 3) (oa (tE aq cU cV El (pv 2) (oa (pJ rJ (pv 0) (oT pQ (by rfl) B.len PySem.boot_len (oa (pv 2) oh))) oh)) oh))) (oz (oV (i:=0) xr (pJ uG (pv 0) (pJ xw (oT pQ (by rfl) B.len PySem.boot_len (oa (pv 2) oh)) oA))))))
   (oz (pH (pv 3)))))),
   (oy (oO (i:=2) (AQ (rh 1)))
   (oy (oO (i:=3) (rF oJ))
   (oy (Ab (ou (qZ qL (ou (oj 1) oK)) oK) (oy (UV (i:=3) (Fw (i:=2) (oE rL (oj 0) (qZ qL (ou (oj 2) oK))))) (oO (i:=0) (SR.kSc (oE wt (oj 0) (oE xq (qZ qL (ou (oj 2) oK)) oC))))))
   (pK (ya 3)))))⟩
abbrev xJ:Stmt:=yQ 44
def rD:oW ["_law_cell_here","_law_names","_law_ends","_law_name_here","_law_follow_here","_law_turns_here","_law_met","_law_end","_law_turn","_law_each"] ["_law_cell_here","_law_names"] (oH xJ):=sC
abbrev DF(P w K mg base):=Fn P w K mg base 2 "_law_any_map" xJ ["_law_cell_here","_law_names"] (rK K K44.xD)
def HM(D:ye K mg "_law_any_map" xJ ["_law_cell_here","_law_names"] f fd) (B:Bt mg) (n:Dm P w K mg base u33 v33)  : DF P w K mg base f fd :=
 zA D rD λ_ _ _ _ _ _ hr r l=>⟨_,
   (oi (oV (i:=2) rD (rq oh))
   (oi (rY PassesOwn.never rfl (qp (pv 1)) (su (i:=3) rD)
    (oz (qM (tE aq dc de yL (pv 2) (oa (rq (oa (pv 3) (oa (yB vF (pv 3)) oh))) oh)))))
   (oi (oV (i:=4) rD (ZS rfl (by rfl) B.dict (by rfl) B.zip (oa (pv 2) (oa (pB n hr (oa (pv 0) (oa (pv 2) oh))) oh))))
   (oi (oV (i:=5) rD (rq oh))
   (oi (oV (i:=6) rD yy)
   (oi (rY PassesOwn.never rfl (qp (pv 2)) (su (i:=7) rD)
    (oz (rR (FB (ym (sv hr) (pv 7) (pv 6))) (oi (oV (i:=8) rD (rq (oa (pv 7) oh))) (oi (B0 PassesOwn.never (pW Fq (tL (sv hr) (pv 4) (si rE (pv 8) (yB vF oA) (λ_ _=>rfl)) (by first|rfl|exact trivial|(intro _ _;rfl))) (pv 7) (qb _)) (oz (qM (tE aq aH aJ qI (pv 8) (oa (tL (sv hr) (pv 4) (si rE (pv 8) (yB vF oA) (λ_ _=>rfl)) (by first|rfl|exact trivial|(intro _ _;rfl))) oh))))) (oi (rY PassesOwn.never rfl (qp (pv 8)) (su (i:=9) rD)
    (oz (wR (sv hr) (pv 6) (pv 9) vZ rfl))) (oz (qM (tE aq aH aJ qI (pv 5) (oa (pv 8) oh))))))) qi)))
   (oz (pH (pv 5))))))))),
   (oy (oO (i:=2) (rF oJ))
   (oy (wu (oD 1) (FG (i:=2) (SK.lOf (rF (om (oD 3) (om (SR.kSc (yr vo (oj 3))) oJ))))))
   (oy (oO (i:=4) (ZP (ou (oj 2) (ou (SK.rOf (oR (om (oD 0) (om (oD 2) oJ)))) oK))))
   (oy (oO (i:=5) (rF oJ))
   (oy (oO (i:=6) AK)
   (oy (wu (oD 2) (tF (xQ (yI (oj 7) (oj 6))) (oy (oO (i:=8) (rF (om (oD 7) oJ))) (oy (Ce 100000 (pV (oE Fc (uf (oj 4) (oE zZ (oj 8) (yr vo oC))) (oj 7))) (xj (i:=8) (SR.kSc (uf (oj 4) (oE zZ (oj 8) (yr vo oC)))))) (oy (wu (oD 8) (wA (i:=6) (SR.kSc vU) (oj 9))) (xj (i:=5) (oD 8))))) qr))
   (pK (ya 5))))))))⟩
abbrev xB:Stmt:=yQ 45
def wN:oW ["_law_cell_here","_law_names","_law_found","_law_name_here"] ["_law_cell_here","_law_names"] (oH xB):=sC
abbrev DL(P w K mg base):=Fn P w K mg base 1 "_law_flipped" xB ["_law_cell_here","_law_names"] (rK K K36.xN)
def Hs(D:ye K mg "_law_flipped" xB ["_law_cell_here","_law_names"] f fd) (B:Bt mg):DL P w K mg base f fd :=
 zA D wN λ_ _ _ _ _ _ hr n l=>⟨_,
   (oi (oV (i:=2) wN (rq oh))
   (oi (rY PassesOwn.never rfl (qp (pv 1)) (su (i:=3) wN)
    (oi (qM (tE aq aH aJ qI (pv 2) (oa (pJ zV (pv 3) (pJ BC oA (pJ zV oA (pJ rJ (pv 0) oA)))) oh))) (oz (oV (i:=0) wN (pJ uG (pv 0) oA)))))
   (oz (pH (pv 2))))),
   (oy (oO (i:=2) (rF oJ))
   (oy (wu (oD 1) (oy (xj (i:=2) (SR.kSc (oE Ah (oj 3) (oE BH oC (oE Ah oC (oE rL (oj 0) oC)))))) (oO (i:=0) (SR.kSc (oE wt (oj 0) oC)))))
   (pK (ya 2))))⟩
abbrev vO:Stmt:=yQ 46
def qX:oW ["_law_script","_law_one","_law_two","_law_kind","_law_names","_law_others","_law_built_here","_law_n"] ["_law_script"] (oH vO):=sC
abbrev Be(P w K mg base):=Fn P w K mg base 4 "_law_some_pair" vO ["_law_script"] (rK K K36.uz)
def FT(D:ye K mg "_law_some_pair" vO ["_law_script"] f fd) (B:Bt mg) (l:EB P w K mg base u18 v18) (t:GK P w K mg base u29 v29) (n:D8 P w K mg base u30 v30) (r:JK P w K mg base u19 v19) (u:Af P w K mg base u24 v24)  : Be P w K mg base f fd :=
 zA D qX λ_ _ _ _ _ _ hr x s=>⟨_,
   (oi (oV (i:=1) qX (pB l hr (oa (pv 0) (oa oA oh))))
   (oi (oV (i:=2) qX (pB l hr (oa (pv 0) (oa oA oh))))
   (oi (oV (i:=3) qX (pB l hr (oa (pv 0) (oa oA oh))))
   (oi (oV (i:=4) qX (sF (N:=["_law_k","_law_one","_law_two"]) (fr:=[1,2]) rfl rfl (by decide +kernel) rfl (by decide +kernel) rfl (tJ.of (by decide +kernel) rfl rfl (by exact⟨rfl,rfl,trivial⟩) (by repeat (first|exact trivial|refine⟨(by first|exact λ_=>⟨_,rfl⟩|exact λh=>(by rcases h with h|h <;> cases h)),?_⟩)) (by exact⟨⟨rfl,rfl,rfl⟩,⟨rfl,rfl,rfl⟩,trivial⟩)) (ui (by rfl) B.range (oa oA oh)) (λ_ _ _ _=>tY) (λ_ _ _ _=>(pB r hr (oa (pv 1) (oa (pv 2) (oa (pv 0) oh)))))))
   (oi (oV (i:=5) qX (sF (N:=["_law_k","_law_two","_law_script"]) (fr:=[2,0]) rfl rfl (by decide +kernel) rfl (by decide +kernel) rfl (tJ.of (by decide +kernel) rfl rfl (by exact⟨rfl,rfl,trivial⟩) (by repeat (first|exact trivial|refine⟨(by first|exact λ_=>⟨_,rfl⟩|exact λh=>(by rcases h with h|h <;> cases h)),?_⟩)) (by exact⟨⟨rfl,rfl,rfl⟩,⟨rfl,rfl,rfl⟩,trivial⟩)) (ui (by rfl) B.range (oa oA oh)) (λ_ _ _ _=>tY) (λ_ _ _ _=>(pB r hr (oa (pv 1) (oa (pB l hr (oa (pv 2) (oa oA oh))) (oa (pv 0) oh)))))))
   (oi (oV (i:=6) qX (pB t hr (oa (tD uD (pv 0) (tM oA) (tM oA)) (oa (pv 4) (oa (pv 3) oh)))))
   (oi (oV (i:=7) qX (pB n hr (oa (sF (N:=["_law_piece","_law_names","_law_others","_law_kind"]) (fr:=[4,5,3]) rfl rfl (by decide +kernel) rfl (by decide +kernel) rfl (tJ.of (by decide +kernel) rfl rfl (by exact⟨rfl,rfl,rfl,trivial⟩) (by repeat (first|exact trivial|refine⟨(by first|exact λ_=>⟨_,rfl⟩|exact λh=>(by rcases h with h|h <;> cases h)),?_⟩)) (by exact⟨⟨rfl,rfl,rfl⟩,⟨rfl,rfl,rfl⟩,⟨rfl,rfl,rfl⟩,trivial⟩)) (qp (pv 6)) (λ_ _ _ _=>tY) (λ_ _ _ _=>(pB u hr (oa (pv 0) (oa (pv 1) (oa (pv 2) (oa (pJ uG (pv 3) oA) oh))))))) oh)))
   (oz (pH (Ec (oa (pB n hr (oa (pv 6) oh)) (oa (pv 7) oh)))))))))))),
   (oy (oO (i:=1) (SR.kSc (rQ (ou (oj 0) (ou oC oK)))))
   (oy (oO (i:=2) (SR.kSc (rQ (ou (oj 0) (ou oC oK)))))
   (oy (oO (i:=3) (SR.kSc (rQ (ou (oj 0) (ou oC oK)))))
   (oy (oO (i:=4) (A4 (ou oC oK) ud (SR.kSc (rQ (ou (oj 1) (ou (oj 2) (ou (oj 0) oK)))))))
   (oy (oO (i:=5) (A4 (ou oC oK) ud (SR.kSc (rQ (ou (oj 1) (ou (rQ (ou (oj 2) (ou oC oK))) (ou (oj 0) oK)))))))
   (oy (oO (i:=6) (oR (om (zu (rh 0) (tI oC) (tI oC)) (om (oD 4) (om (oD 3) oJ)))))
   (oy (oO (i:=7) (oR (om (sH (oD 6) ud (oR (om (oD 0) (om (oD 1) (om (oD 2) (om (SR.kSc (oE wt (oj 3) oC)) oJ)))))) oJ)))
   (pK (Hl (om (oR (om (oD 6) oJ)) (om (oD 7) oJ)))))))))))⟩
abbrev wM:Stmt:=yQ 47
def rX:oW ["_law_script","_law_size","_law_names","_law_turns_here","_law_others","_law_bare"] ["_law_script"] (oH wM):=sC
abbrev BS(P w K mg base):=Fn P w K mg base 3 "_law_any_pair" wM ["_law_script"] (rK K K36.vc)
def Ga(D:ye K mg "_law_any_pair" wM ["_law_script"] f fd) (B:Bt mg) (l:EB P w K mg base u18 v18) (n:Bk P w K mg base u32 v32) (t:DF P w K mg base u34 v34) (u:Dm P w K mg base u33 v33) (x:DL P w K mg base u35 v35) (r:EL P w K mg base u22 v22) (y:Af P w K mg base u24 v24)  : BS P w K mg base f fd :=
 zA D rX λ_ _ _ _ _ _ hr z s=>⟨_,
   (oi (oV (i:=1) rX (pB l hr (oa (pv 0) (oa oA oh))))
   (oi (oV (i:=2) rX (pB n hr (oa (pB l hr (oa (pv 0) (oa oA oh))) (oa (pJ rJ (pv 1) oA) oh))))
   (oi (oV (i:=3) rX (pB t hr (oa (pB l hr (oa (pv 0) (oa oA oh))) (oa (pv 2) oh))))
   (oi (oV (i:=4) rX (pB u hr (oa (pB l hr (oa (pv 0) (oa oA oh))) (oa (pB n hr (oa (pB l hr (oa (pv 0) (oa oA oh))) (oa (oT pQ (by rfl) B.len PySem.boot_len (oa (pv 2) oh)) oh))) oh))))
   (oi (oV (i:=4) rX (pB x hr (oa (pB l hr (oa (pv 0) (oa oA oh))) (oa (pv 4) oh))))
   (oi (Ub (i:=5) (cl:=[]) (N:=["_law_k"]) (fr:=[]) rfl rX.nd rfl (by trivial) rfl (by decide +kernel) rfl (by decide +kernel) rfl (tJ.none (by decide +kernel)) (ui (by rfl) B.range (oa (pJ rJ (pJ uG (pv 1) oA) oA) oh)) (λ_ _ _ _=>tY) (λ_ _ _ _=>(rq oh)))
   (oz (pH (Ec (oa (pB r hr (oa (pJ ES (pv 3) (pv 5)) oh)) (oa (pB r hr (oa (pJ ES (pB y hr (oa (pv 3) (oa (pv 2) (oa (pv 4) (oa oA oh))))) (pv 5)) oh)) oh))))))))))),
   (oy (oO (i:=1) (SR.kSc (rQ (ou (oj 0) (ou oC oK)))))
   (oy (oO (i:=2) (oR (om (SR.kSc (rQ (ou (oj 0) (ou oC oK)))) (om (SR.kSc (oE rL (oj 1) oC)) oJ))))
   (oy (oO (i:=3) (oR (om (SR.kSc (rQ (ou (oj 0) (ou oC oK)))) (om (oD 2) oJ))))
   (oy (oO (i:=4) (oR (om (SR.kSc (rQ (ou (oj 0) (ou oC oK)))) (om (oR (om (SR.kSc (rQ (ou (oj 0) (ou oC oK)))) (om (SR.kSc (qZ qL (ou (oj 2) oK))) oJ))) oJ))))
   (oy (oO (i:=4) (oR (om (SR.kSc (rQ (ou (oj 0) (ou oC oK)))) (om (oD 4) oJ))))
   (oy (oO (i:=5) (A4 (ou (oE rL (oE wt (oj 1) oC) oC) oK) ud (rF oJ)))
   (pK (Hl (om (oR (om (ER (Av 3) (Av 5)) oJ)) (om (oR (om (ER (SK.lOf (oR (om (oD 3) (om (oD 2) (om (oD 4) (om (SR.kSc oC) oJ)))))) (Av 5)) oJ)) oJ))))))))))⟩
abbrev Bh:Stmt:=yQ 48
def Aa:oW ["_law_script","_law_m","_law_n","_law_there","_law_back","_law_kept"] ["_law_script"] (oH Bh):=sC
abbrev ZR(P w K mg base):=Fn P w K mg base 12 "law" Bh ["_law_script"] (rK K K36.Nv)
def XN(D:ye K mg "law" Bh ["_law_script"] f fd) (B:Bt mg) (s:Be P w K mg base u36 v36) (l:G7 P w K mg base u31 v31) (t:BS P w K mg base u37 v37)  : ZR P w K mg base f fd :=
 zA D Aa λ_ _ _ _ _ _ hr n r=>⟨_,
   (oi (QL (pB s hr (oa (pv 0) oh)) (En rfl (uA (su (i:=1) Aa) (uA (su (i:=2) Aa) BO))))
   (oi (rR (pW Bg (pJ rJ (oT pQ (by rfl) B.len PySem.boot_len (oa (pv 0) oh)) oA) oA (qb _)) (oz (QL (pB t hr (oa (pv 0) oh)) (En rfl (uA (su (i:=1) Aa) (uA (su (i:=2) Aa) BO))))) qi)
   (oi (oV (i:=3) Aa (pB l hr (oa (pv 1) (oa (pv 2) oh))))
   (oi (oV (i:=4) Aa (pB l hr (oa (pv 2) (oa (pv 1) oh))))
   (oi (rR (PW.pt (Bj (pW MQ (pv 3) FX (qb _)) (Bj (pW MQ (pv 4) FX (qb _)) (Dc (pW MQ (pB l hr (oa (pv 1) (oa (pv 1) oh))) FX (qb _)))))) (oz (pH vZ)) qi)
   (oi (rR (pW (CZ n) (pv 4) (oT zt (by rfl) B.sorted bf (oa (sF (cl:=[]) (N:=["_law_pair"]) (fr:=[]) rfl rfl (by decide +kernel) rfl (by decide +kernel) rfl (tJ.none (by decide +kernel)) (qp (pv 3)) (λ_ _ _ _=>tY) (λ_ _ _ _=>(Ec (oa (si zd (pv 0) oA (λ_ _=>rfl)) (oa (si zd (pv 0) oA (λ_ _=>rfl)) oh))))) oh)) (qb _)) (oz (pH vZ)) qi)
   (oi (oV (i:=5) Aa (uO uk (by rfl) B.list bY (oa (pv 3) oh)))
   (oi (qM (tE aq aH aJ qI (pv 3) (oa (Ec (oa oA (oa oA oh))) oh)))
   (oz (pH (D0 (QT n) (pB l hr (oa (pv 1) (oa (pv 2) oh))) (pv 5) (qb _)))))))))))),
   (oy (N1 (i:=1) (j:=2) (oR (om (oD 0) oJ)))
   (oy (tF (pV (oE Ap (oE rL (qZ qL (ou (oj 0) oK)) oC) oC)) (N1 (i:=1) (j:=2) (oR (om (oD 0) oJ))) qr)
   (oy (oO (i:=3) (oR (om (oD 1) (om (oD 2) oJ))))
   (oy (oO (i:=4) (oR (om (oD 2) (om (oD 1) oJ))))
   (oy (tF (A9 (pV (oE Lv (oj 3) E8)) (A9 (pV (oE Lv (oj 4) E8)) (pV (oE Lv (SK.rOf (oR (om (oD 1) (om (oD 1) oJ)))) E8)))) (pK (SR.kSc vU)) qr)
   (oy (tF (TH (pV (oE C5 (oj 4) (SK.rOf (FH (SL.q (SK.lOf (sH (oD 3) ud (Hl (om (SR.kSc (oE Ar (oj 0) oC)) (om (SR.kSc (oE Ar (oj 0) oC)) oJ))))))))))) (pK (SR.kSc vU)) qr)
   (oy (oO (i:=5) (AQ (rh 3)))
   (oy (xj (i:=3) (Hl (om (SR.kSc oC) (om (SR.kSc oC) oJ))))
   (pK (SR.kSc (oE SU (SK.rOf (oR (om (oD 1) (om (oD 2) oJ)))) (oj 5))))))))))))⟩
end
end K36
namespace K39
open PySem L2 Mr Z Xe
def mb_L_pairs_0:MS:=(oQ (zC (A7 (yu (tK (wb A6 (ox (oq 1) (ox (rC (.ty "tuple")) oS))))) (tK (pR Le (wb rB (ox (oq 1) oS)) (rC (.int 2))))) (qw (kSc (rC (.bl false)))) qJ) (zC (A7 (yu (tK (sN K72.vv (ox (pR vV (oq 1) (rC (.int 0))) oS)))) (yu (tK (sN K72.vv (ox (pR vV (oq 1) (rC (.int 1))) oS))))) (qw (kSc (rC (.bl false)))) qJ))
def mf_L_pairs:MS:=(oQ (zC (yu (tK (wb A6 (ox (oq 0) (ox (rC (.ty "list")) oS))))) (qw (kSc (rC (.bl false)))) qJ)
 (oQ (BK 1 (oU 0) mb_L_pairs_0)
 (qw (kSc (rC (.bl true))))))
def f_L_pairs:MF:=rO 1 2 mf_L_pairs
end K39
namespace K13
open PySem L2 Mr Z Xe Zl
def oM(rs:Λ):AV:=.ow (rs.map λr=>.sh (dI r))
end K13
namespace K12
open PySem L2 Mr Z Xe Zl
abbrev aP(part:Λ):AV:=.ow (part.map aI)
def Sx{α β:Type}(f:α->β) (l:List α) (i:Nat) (a:α):(l.map f).set i (f a)=(l.set i a).map f:=by rw[List.map_set]
structure Wd where
 P0:List Λ
 last:Λ
 t0:Θ
 h:Nat
 left:Ϝ
 used:Nat
abbrev cN(ks:Θ):Ϝ:=ks.map λn:Nat=>(n:Int)
def st(v0 v1:Option AV) (w:Wd) (v6 v7 v8 v9:Option AV):AS:=[v0,v1,some (.ow ((w.P0++[w.last]).map aP)),some (aI (cN (w.t0++[w.h]))),some (aI w.left),some (.sh (.int (w.used:Int))),v6,v7,v8,v9]
section
variable {nm:Ϝ}{P0:List Λ}{last:Λ}{t0:Θ}{hd:Nat}{left r:Ϝ}{used:Nat}{c e:Int}{v0 v1 v8:Option AV}
def E7(r:Ϝ) (e:Int):(r.map λn=>AV.sh (.int n))++[.sh (.int e)]=(r++[e]).map λn=>.sh (.int n):=by rw[mBq];rfl
def TQ(l:Λ) (e:Int):l.map aI++[.ow [.sh (.int e)]]=(l++[[e]]).map aI:=by rw[mBq];rfl
def We(ks:Θ) (n:Nat):(cN ks).map (λn=>AV.sh (.int n))++[.sh (.int (n:Int))]=(cN (ks++[n])).map λn=>.sh (.int n):=by unfold cN;rw[mBq,mBq];rfl
theorem RL{α β:Type}(f:α->β):∀(l:List α) (i:Nat),(l.map f).eraseIdx i=(l.eraseIdx i).map f
 | [],i=>rfl
 |x::l,0=>rfl
 |x::l,i+1=>by rw[ax,bS,bS,RL f l i,ax]
end
theorem CI{x r:Ϝ}(a:Int):∀{l:Λ}{h:Nat},l[h]?=some r->(l.set h (r++x)).flatten.count a=l.flatten.count a+x.count a
 | [],_,h=>by simp at h
 |s::l,0,h=>by
  cases h;rw[eZ,fCq,fCq,cAq,cAq,cAq];lia
 |s::l,h+1,e=>by
  rw[fb,fCq,fCq,cAq,cAq,CI a (by simpa using e)]
  lia
theorem Dt(a:Int):∀{l:Ϝ}{j:Nat},j<l.length->(l.eraseIdx j).count a+[l.getD j 0].count a=l.count a
 | [],_,h=>by simp at h
 |x::l,0,_=>by
  rw[fg,show x::l=[x]++l from rfl,cAq]
  show l.count a+[x].count a=_;lia
 |x::l,j+1,h=>by
  have n:=Dt a (l:=l) (j:=j) (by simpa using h)
  rw[bS,show x::l.eraseIdx j=[x]++l.eraseIdx j from rfl,show (x::l).getD (j+1) 0=l.getD j 0 from rfl,show x::l=[x]++l from rfl,cAq,cAq]
  lia
def NA{l:Λ}{h:Nat}{r:Ϝ}(e:l[h]?=some r):r.length<=l.flatten.length:=bT.length_le (aB (mGq e))
def OU(st sh a b k:Int):Int:=st*((a*k+b) % 67+1)+sh
def NB{st sh a b:Int}(h1:1<=st) (h2:1<=a) (x:a<=66) {j k:Nat}(y:j<67) (hk:k<67) (h:OU st sh a b j=OU st sh a b k):j=k:=by
 unfold OU at h;have n:st*((a*j+b) % 67+1)=st*((a*k+b) % 67+1):=by lia
 have z:=Int.eq_of_mul_eq_mul_left (by lia) n
 have r:((a*j+b)-(a*k+b)) % 67=0:=Int.emod_eq_emod_iff_emod_sub_eq_zero.mp (by lia)
 have s:(a*((j:Int)-k)) % 67=0:=by
  rw[←r];congr 1;rw[Int.mul_sub];lia
 obtain⟨l,rfl⟩:∃l:Nat,a=(l:Int)+1:=⟨(a-1).toNat,by lia⟩
 rcases iy j k with q|q|q
 .exfalso;refine Mr.Ny ⟨l,by lia⟩ ⟨k-j,by lia⟩ (by show 0<k-j;lia) ?_
  show (l+1)*(k-j) % 67=0;have t:(((l:Int)+1)*((k:Int)-j)) % 67=0:=by
   have:((l:Int)+1)*((k:Int)-j) = -(((l:Int)+1)*((j:Int)-k)):=by
    rw[←iS];congr 1;lia
   rw[this];lia
  have u:(((l+1)*(k-j) % 67:Nat):Int)=0:=by
   rw[←t];push_cast [bH q];rfl
  lia
 .exact q
 .exfalso;refine Mr.Ny ⟨l,by lia⟩ ⟨j-k,by lia⟩ (by show 0<j-k;lia) ?_
  show (l+1)*(j-k) % 67=0;have u:(((l+1)*(j-k) % 67:Nat):Int)=0:=by
   rw[←s];push_cast [bH q];rfl
  lia
theorem Cc:∀{l:Ϝ},l.Nodup->(∀x∈l,1<=x)->(l.flatMap λx=>[x, -x]).Nodup
 | [],_,_=>aT
 |x::l,hn,hp=>by
  have n:=az.mp hn;have t:=hp x (ai ..);rw[bE,nAq];refine⟨?_,Cc n.2 λy r=>hp y (mCo _ r),λa ha b s e=>?_⟩
  .rw [az];refine⟨?_,by simp⟩
   rw[mSq];lia
  .subst e;obtain⟨y,r,q⟩:=bC.mp s;have py:=hp y (mCo _ r);simp at ha q;have:y=x:=by lia
   exact n.1 (this ▸ r)
end K12
namespace K51
open PySem L2 Mr Z Xe Zl
def M5{rs:Λ}(hl:rs.length<=500000):zQ [dM rs]=some (.ow (rs.map aI)):=by
 have key:=qO (te:=zy (tU 0)) (cap:=[]) (λd=>match d with|.list l=>.ow (l.map .sh)|_=>.sh .non) (ds:=rs.map dI) (by
  intro d hd;obtain⟨r,_,rfl⟩:=mMq.mp hd;refine⟨[some (.sh (dI r))],?_⟩
  simp_arith [dI])
 have h1:rs.length<=rH:=by show _<=16777216;lia
 have e:(rs.map dI).map (λd=>match d with|D.list l=>AV.ow (l.map .sh)|_=>.sh .non)=rs.map aI:=by
  rw[mPq];refine mCq λr _=>?_
  show AV.ow ((r.map D.int).map .sh)=aI r;rw[mPq];rfl
 rw[e]at key
 simp_arith [zQ,GC,dM,key,h1]
def kd(ks:Θ):List (pE×D):=ks.map λk:Nat=>((ar (k:Int):pE),D.bl true)
def wd(ws:Θ):List AV:=ws.map λk:Nat=>AV.sh (.int (k:Int))
def kd_any(ks:Θ) (t:Nat):(kd ks).any (λkv=>decide (kv.1=(ar (t:Int):pE)))=decide (t∈ks):=by
 induction ks with
 |nil=>simp[kd]
 |cons k ks l =>
  unfold kd at l ⊢;rw[ax,eM,l]
  by_cases h:t=k
  .subst h;simp
  .have n:¬ (ar (k:Int):pE)=ar (t:Int):=λq=>h (by have:=ar.inj q;lia)
   simp[n,h]
def kd_get(ks:Θ) (t:Nat):(getD (kd ks) (ar (t:Int))).isSome=decide (t∈ks):=by
 unfold getD;rw[eg,←kd_any,cu,gq,fD]
def Re{ks:Θ}{t:Nat}(h:t∉ks):wI (kd ks) (ar (t:Int)) (.bl true)=kd (ks++[t]):=by
 unfold wI;rw[kd_any,decide_eq_false h,qh (by simp)]
 simp[kd]
def Lu{kvs:List (pE×D)}{ks ws:Θ}{e:Int}{t:Nat}{v0 v1 v5 v7:Option AV}(r:getD kvs (ar (-e))=some (.int (t:Int))) (hk:ks.length<500000) (hw:ws.length<500000) :
  ug [v0,v1,some (.owd kvs),some (.owd (kd ks)),some (.ow (wd ws)),v5,some (.sh (.int e)),v7]=some (.nx [v0,v1,some (.owd kvs),some (.owd (kd (if t∈ks then ks else ks++[t]))),some (.ow (wd (if t∈ks then ws else ws++[t]))),v5,some (.sh (.int e)),some (.sh (.int (t:Int)))]):=by
 have l1:(kd ks).length<rH:=by unfold kd;rw[lMq];show _<16777216;lia
 have l2:(wd ws).length<rH:=by unfold wd;rw[lMq];show _<16777216;lia
 have l:=kd_get ks t
 by_cases h:t∈ks
 .rw [decide_eq_true h]at l
  simp_arith [ug,r,l,h]
 .rw [decide_eq_false h]at l;have s:=Re h;have n:wd ws++[.sh (.int (t:Int))]=wd (ws++[t]):=by simp[wd]
  simp_arith [ug,r,l,h,s,l1,l2,n]
def D2(pl:Int->Nat) (x:List Nat×Θ) (e:Int):List Nat×Θ:=if pl (-e)∈x.1 then x else (x.1++[pl (-e)],x.2++[pl (-e)])
theorem N6(pl:Int->Nat):∀(r:Ϝ) (x:List Nat×Θ),(r.foldl (D2 pl) x).1.length<=x.1.length+r.length/\(r.foldl (D2 pl) x).2.length<=x.2.length+r.length
 | [],x=>⟨ab _,ab _⟩
 |e::r,x=>by
  obtain⟨h1,h2⟩:=N6 pl r (D2 pl x e);have l:(D2 pl x e).1.length<=x.1.length+1/\(D2 pl x e).2.length<=x.2.length+1:=by
   unfold D2;split
   .exact ⟨bz _,bz _⟩
   .simp
  rw[bA,lCq];lia
def P5{kvs:List (pE×D)}{ks ws:Θ}{r:Ϝ}{pl:Int->Nat}{v0 v1 v5 v6 v7:Option AV}(z:∀e∈r,getD kvs (ar (-e))=some (.int (pl (-e):Int))) (hk:ks.length+r.length<500000) (hw:ws.length+r.length<500000) :
  ∃n l,ur 6 ug (r.map D.int) [v0,v1,some (.owd kvs),some (.owd (kd ks)),some (.ow (wd ws)),v5,v6,v7]=some (.nx [v0,v1,some (.owd kvs),some (.owd (kd (r.foldl (D2 pl) (ks,ws)).1)),some (.ow (wd (r.foldl (D2 pl) (ks,ws)).2)),v5,n,l]):=by
 have key:=uV (x:=6) (body:=ug) (λi S=>∃n l,S=[v0,v1,some (.owd kvs),some (.owd (kd ((r.take i).foldl (D2 pl) (ks,ws)).1)),some (.ow (wd ((r.take i).foldl (D2 pl) (ks,ws)).2)),v5,n,l]) (ds:=r.map D.int) (S:=[v0,v1,some (.owd kvs),some (.owd (kd ks)),some (.ow (wd ws)),v5,v6,v7])
  ⟨v6,v7,rfl⟩ (by
  rintro i d S hd ⟨n,l,rfl⟩;rw[gMq]at hd;obtain⟨e,s,rfl⟩:=oMq.mp hd;have t:i<r.length:=(gSq.mp s).1;have B:e∈r:=mGq s;obtain⟨u,y⟩:=N6 pl (r.take i) (ks,ws);rw[lTq]at u y;have C:((r.take i).foldl (D2 pl) (ks,ws)).1.length<=ks.length+min i r.length:=u;have E:((r.take i).foldl (D2 pl) (ks,ws)).2.length<=ws.length+min i r.length:=y;have step:=Lu (v0:=v0) (v1:=v1) (v5:=v5) (v7:=l) (z e B) (ks:=((r.take i).foldl (D2 pl) (ks,ws)).1) (ws:=((r.take i).foldl (D2 pl) (ks,ws)).2) (by lia) (by lia)
  have G:(r.take (i+1)).foldl (D2 pl) (ks,ws)=D2 pl ((r.take i).foldl (D2 pl) (ks,ws)) e:=by
   have:r[i]'t=e:=by rw[gEg t]at s;exact aN.inj s
   rw[dJ t,fi,this];rfl
  refine⟨_,step,some (.sh (.int e)),some (.sh (.int (pl (-e):Int))),?_⟩;rw[G];unfold D2;split <;> rfl)
 obtain⟨H,e,n,l,rfl⟩:=key;rw[lMq,bh]at e;exact⟨n,l,e⟩
theorem TB:∀(N:Nat) (l:Θ),l.Nodup->(∀x∈l,x<N)->l.length<=N
 |0,l,_,h=>by
  cases l with
  |nil=>exact ab _
  |cons x l=>exact absurd (h x (ai ..)) (cw _)
 |N+1,l,hn,h=>by
  have h2:=TB N (l.erase N) (hn.erase N) (λx n=>by
   have:=(hn.mem_erase_iff).mp n;have:=h x this.2;lia)
  rw[List.length_erase]at h2;split at h2 <;> lia
def plc(rs:Λ) (e:Int):Nat:=rs.findIdx λr=>decide (e∈r)
def same_place{rs:Λ}(hn:rs.flatten.Nodup) {i j:Nat}{r s:Ϝ}{e:Int}(l:rs[i]?=some r) (n:rs[j]?=some s) (h1:e∈r) (h2:e∈s):i=j:=by
 have a:=zc 0 hn l h1;have b:=zc 0 hn n h2;rw[a]at b;have:=D.int.inj (aN.inj b);lia
def plc_eq{rs:Λ}(hn:rs.flatten.Nodup) {i:Nat}{r:Ϝ}{e:Int}(l:rs[i]?=some r) (h1:e∈r):plc rs e=i:=by
 have hl:rs.findIdx (λr=>decide (e∈r))<rs.length:=fq ⟨r,mGq l,decide_eq_true h1⟩
 have h2:=gT (xs:=rs) (p:=λr=>decide (e∈r)) (w:=hl)
 exact same_place hn (gEg hl) l (of_decide_eq_true h2) h1
structure Mp (rs:Λ):Prop where
 hn:rs.flatten.Nodup
 hl:rs.flatten.length<=63
 hr:rs.length<=63
 hneg:∀e∈rs.flatten, -e∈rs.flatten
def Mp.at{rs:Λ}(h:Mp rs) {e:Int}(n:e∈rs.flatten):∃r,rs[plc rs e]?=some r/\e∈r:=by
 obtain⟨r,h1,h2⟩:=mFq.mp n;obtain⟨i,l⟩:=ak.mp h1;exact⟨r,by rw[plc_eq h.hn l h2];exact l,h2⟩
def Mp.other{rs:Λ}(h:Mp rs) {k:Nat}{r:Ϝ}{e:Int}(hk:rs[k]?=some r) (l:e∈r):-e∈rs.flatten:=h.hneg e (mFq.mpr ⟨r,mGq hk,l⟩)
def Mp.kv{rs:Λ}(h:Mp rs) {e:Int}(l:e∈rs.flatten):getD (qK 0 rs) (ar e)=some (.int (plc rs e:Int)):=by
 obtain⟨r,h1,h2⟩:=h.at l;have:=zc 0 h.hn h1 h2
 rwa [aU]at this
def Mp.lt{rs:Λ}(h:Mp rs) {e:Int}(l:e∈rs.flatten):plc rs e<rs.length:=by
 obtain⟨r,h1,_⟩:=h.at l;exact(gSq.mp h1).1
def Mp.row{rs:Λ}(h:Mp rs) {k:Nat}{r:Ϝ}(hk:rs[k]?=some r):r.length<=1000:=by
 have:=bT.length_le (aB (mGq hk));have:=h.hl;lia
inductive IS (rs:Λ) (s:Nat):Nat->Prop
 |base:IS rs s s
 |step {k:Nat}{r:Ϝ}{e:Int}:IS rs s k->rs[k]?=some r->e∈r->IS rs s (plc rs (-e))
theorem EG(pl:Int->Nat):∀(r:Ϝ) (ks ws:Θ),∃a,r.foldl (D2 pl) (ks,ws)=(ks++a,ws++a)/\(∀k∈a,∃e∈r,k=pl (-e))/\(∀e∈r,pl (-e)∈ks++a)/\(ks.Nodup->(ks++a).Nodup)
 | [],ks,ws=>⟨[],by simp,by simp,by simp,by simp⟩
 |e::r,ks,ws=>by
  rw[bA]
  by_cases h:pl (-e)∈ks
  .have n:D2 pl (ks,ws) e=(ks,ws):=by unfold D2;rw[qd h]
   rw[n];obtain⟨a,h1,h2,s,t⟩:=EG pl r ks ws;refine⟨a,h1,λk hk=>?_,λx l=>?_,t⟩
   .obtain ⟨x,l,q⟩:=h2 k hk;exact⟨x,mCo _ l,q⟩
   .rcases ah.mp l with rfl|l
    .exact mAq.mpr (.inl h)
    .exact s x l
  .have n:D2 pl (ks,ws) e=(ks++[pl (-e)],ws++[pl (-e)]):=by unfold D2;rw[qh h]
   rw[n];obtain⟨a,h1,h2,s,t⟩:=EG pl r (ks++[pl (-e)]) (ws++[pl (-e)]);refine⟨pl (-e)::a,by rw[h1,aV,aV];rfl,λk hk=>?_,λx l=>?_,λhn=>?_⟩
   .rcases ah.mp hk with rfl|hk
    .exact ⟨e,ai ..,rfl⟩
    .obtain ⟨x,l,q⟩:=h2 k hk;exact⟨x,mCo _ l,q⟩
   .rcases ah.mp l with rfl|l
    .exact mAq.mpr (.inr (ai ..))
    .have:=s x l
     rwa [aV]at this
   .have:=t (by
     rw[nAq];exact⟨hn,by simp,λx l y u q=>h (by rw[mSq.mp u]at q;rw[←q];exact l)⟩)
    rwa [aV]at this
structure Inv (rs:Λ) (s:Nat) (ks ws:Θ):Prop where
 nd:ks.Nodup
 lt:∀k∈ks,k<rs.length
 st:s∈ks
 rc:∀k∈ks,IS rs s k
 sub:∀w∈ws,w∈ks
 cl:∀k∈ks,k∉ws->∀r e,rs[k]?=some r->e∈r->plc rs (-e)∈ks
 few:2*(rs.length-ks.length)+ws.length<=2*rs.length+1
def Inv.go{rs:Λ}(u:Mp rs) {s h:Nat}{ks ws:Θ}{r:Ϝ}(l:Inv rs s ks (ws++[h])) (hr:rs[h]?=some r):∃a,r.foldl (D2 (plc rs)) (ks,ws)=(ks++a,ws++a)/\Inv rs s (ks++a) (ws++a)/\2*(rs.length-(ks++a).length)+(ws++a).length<2*(rs.length-ks.length)+(ws++[h]).length:=by
 obtain⟨a,h1,h2,x,y⟩:=EG (plc rs) r ks ws;have hh:h∈ks:=l.sub h (by simp)
 have nd:=y l.nd;have lt:∀k∈ks++a,k<rs.length:=by
  intro k hk;rcases mAq.mp hk with q|q
  .exact l.lt k q
  .obtain ⟨e,t,rfl⟩:=h2 k q;exact u.lt (u.other hr t)
 have B:=TB _ _ nd lt;have C:=l.few;rw[lAq]at B;rw[lAq,lSq]at C;have key:2*(rs.length-(ks++a).length)+(ws++a).length<2*(rs.length-ks.length)+(ws++[h]).length:=by
  rw[lAq,lAq,lAq,lSq];lia
 refine⟨a,h1,⟨nd,lt,mAq.mpr (.inl l.st),λk hk=>?_,λw hw=>?_,λk hk hw=>?_,?_⟩,key⟩
 .rcases mAq.mp hk with q|q
  .exact l.rc k q
  .obtain ⟨e,t,rfl⟩:=h2 k q;exact .step (l.rc h hh) hr t
 .rcases mAq.mp hw with q|q
  .exact mAq.mpr (.inl (l.sub w (mAq.mpr (.inl q))))
  .exact mAq.mpr (.inr q)
 .intro E e n t;have G:k∈ks:=(mAq.mp hk).resolve_right λq=>hw (mAq.mpr (.inr q))
  by_cases q:k=h
  .subst q;rw[hr]at n;cases n;exact x e t
  .exact mAq.mpr (.inl (l.cl k G (λz=>by
    rcases mAq.mp z with z|z
    .exact hw (mAq.mpr (.inl z))
    .exact q (mSq.mp z)) E e n t))
 .rw [lAq,lAq]at key ⊢;rw[lAq,lSq]at key;lia
def mu(N:Nat):AS->Nat
 | [_,_,_,some (.owd kv),some (.ow w),_,_,_]=>2*(N-kv.length)+w.length
 |_=>0
def Ld{rs:Λ}(t:Mp rs) {s:Nat}(H:s<rs.length):∃S',tO (tK (pR MC (wb rB (ox (oq 4) oS)) (rC (.int 0)))) wF 100000 [some (.sh (dM rs)),some (.sh (.int (s:Int))),some (.owd (qK 0 rs)),some (.owd (kd [s])),some (.ow (wd [s])),none,none,none]=some (.nx S') /\
  ∃ks v5 v6 v7,S'=[some (.sh (dM rs)),some (.sh (.int (s:Int))),some (.owd (qK 0 rs)),some (.owd (kd ks)),some (.ow (wd [])),v5,v6,v7]/\Inv rs s ks []:=by
 have u:=t.hr;refine Ae (c:=tK (pR MC (wb rB (ox (oq 4) oS)) (rC (.int 0)))) (body:=wF) (λS=>∃ks l v5 v6 v7,S=[some (.sh (dM rs)),some (.sh (.int (s:Int))),some (.owd (qK 0 rs)),some (.owd (kd ks)),some (.ow (wd l)),v5,v6,v7]/\Inv rs s ks l) (mu rs.length) (λS'=>∃ks v5 v6 v7,S'=[some (.sh (dM rs)),some (.sh (.int (s:Int))),some (.owd (qK 0 rs)),some (.owd (kd ks)),some (.ow (wd [])),v5,v6,v7]/\Inv rs s ks []) ?_ 100000 _ ⟨[s],[s],none,none,none,rfl,?_⟩ ?_
 .rintro S ⟨ks,l,v5,v6,v7,rfl,n⟩;rcases eB l with rfl|⟨l,h,rfl⟩
  .refine ⟨false,_,?_,λq=>(nomatch q),λ_=>⟨ks,v5,v6,v7,rfl,n⟩⟩
   simp_arith [wd]
   rfl
  .rw [eC]at n ⊢;have x:h<rs.length:=n.lt h (n.sub h (by simp))
   have hr:rs[h]?=some rs[h]:=gEg x;obtain⟨a,I,y,z⟩:=n.go t hr;have few:=n.few;have P:=TB _ _ n.nd n.lt;have Q:=t.row hr;rw[lAq,lSq]at few;obtain⟨B,C,G⟩:=P5 (kvs:=qK 0 rs) (ks:=ks) (ws:=l) (r:=rs[h]) (pl:=plc rs) (v0:=some (.sh (dM rs))) (v1:=some (.sh (.int (s:Int)))) (v5:=some (.sh (.int (h:Int)))) (v6:=v6) (v7:=v7) (λe J=>t.kv (t.other hr J)) (by lia) (by lia)
   rw[I]at G;have hw:wd (l++[h])=wd l++[.sh (.int (h:Int))]:=by simp[wd]
   have R:(wd l).length=l.length:=by simp[wd]
   have L:(0:Int)<((wd l++[AV.sh (.int (h:Int))]).length:Int):=by
    rw[lAq,lSq];lia
   have M:(wd l++[AV.sh (.int (h:Int))])[(wd l++[AV.sh (.int (h:Int))]).length-1]?=some (.sh (.int (h:Int))):=by
    rw[lAq,lSq,gYq (by lia)]
    simp
   have O:(wd l++[AV.sh (.int (h:Int))]).dropLast=wd l:=dG;have E:atI (rs.map dI) (h:Int)=some (dI rs[h]):=wH (by rw[gMq,hr];rfl)
   refine⟨true,[some (.sh (dM rs)),some (.sh (.int (s:Int))),some (.owd (qK 0 rs)),some (.owd (kd ks)),some (.ow (wd l++[.sh (.int (h:Int))])),v5,v6,v7],?_,λ_=>⟨[some (.sh (dM rs)),some (.sh (.int (s:Int))),some (.owd (qK 0 rs)),some (.owd (kd (ks++a))),some (.ow (wd (l++a))),some (.sh (.int (h:Int))),B,C],?_,⟨_,_,_,_,_,rfl,y⟩,?_⟩,λq=>(nomatch q)⟩
   .simp_arith [hw,L]
   .simp_arith [wF,M,O,dM,E,G]
   .show 2*(rs.length-(kd (ks++a)).length)+(wd (l++a)).length<2*(rs.length-(kd ks).length)+(wd (l++[h])).length;unfold kd wd;rw[lMq,lMq,lMq,lMq];exact z
 .refine ⟨by simp,?_,by simp,?_,λw h=>h,?_,?_⟩
  .intro k hk;rw[mSq.mp hk];exact H
  .intro k hk;rw[mSq.mp hk];exact .base
  .intro k hk hn;exact absurd hk hn
  .simp only [lSq];lia
 .show 2*(rs.length-(kd [s]).length)+(wd [s]).length<100000;simp only[kd,wd,lMq,lSq];lia
def MG{rs:Λ}(l:Mp rs) {s:Nat}(t:s<rs.length):∃ks,Inv rs s ks []/\yF [dM rs,.int (s:Int)]=some (aI (qj (ks.map λk:Nat=>(k:Int)))):=by
 obtain⟨B,e,ks,C,E,G,rfl,n⟩:=Ld l t;have hl:=l.hl;have u:=B4 l.hn (by lia)
 have x:[((ar (s:Int):pE),D.bl true)]=kd [s]:=rfl;have y:[AV.sh (.int (s:Int))]=wd [s]:=rfl;have z:An (kd ks)=some (ks.map λk:Nat=>(k:Int)):=Df (λk:Nat=>(k:Int)) (λ_=>D.bl true) ks
 have l1:(wd [s]).length<=rH:=by show 1<=16777216;decide
 have r:(ks.length<64)=True:=eq_true (by have:=TB _ _ n.nd n.lt;have:=l.hr;lia)
 refine⟨ks,n,?_⟩
 simp_arith [yF,FI,u,x,y,e,z,l1,r]
def T7(ks:Θ):∃ps:Θ,ps.Perm ks/\ps.Pairwise (·<=·)/\qj (ks.map λk:Nat=>(k:Int))=ps.map λk:Nat=>(k:Int):=by
 have l:=qH (ks.map λk:Nat=>(k:Int))
 have n:=xA (ks.map λk:Nat=>(k:Int))
 have r:(qj (ks.map λk:Nat=>(k:Int)))=((qj (ks.map λk:Nat=>(k:Int))).map gP).map λk:Nat=>(k:Int):=by
  rw[mPq]
  conv=>lhs;rw[←dn (qj (ks.map λk:Nat=>(k:Int)))]
  refine mCq λz s=>?_
  obtain⟨k,_,rfl⟩:=mMq.mp (l.mem_iff.mp s);rfl
 refine⟨(qj (ks.map λk:Nat=>(k:Int))).map gP,?_,?_,r⟩
 .have:=l.map gP;rw[mPq]at this;have e:ks.map (gP∘λk:Nat=>(k:Int))=ks:=by
   conv=>rhs;rw[←dn ks]
   refine mCq λk _=>?_
   show gP (k:Int)=k;exact df k
  rwa [e]at this
 .rw [aF];refine bg.imp (λh=>?_) n
  lia
structure Pc (rs:Λ) (s:Nat) (ps:Θ):Prop where
 nd:ps.Nodup
 so:ps.Pairwise (·<=·)
 lt:∀k∈ps,k<rs.length
 iff:∀k,k∈ps↔IS rs s k
def EA{rs:Λ}(n:Mp rs) {s:Nat}(r:s<rs.length):∃ps,Pc rs s ps/\yF [dM rs,.int (s:Int)]=some (aI (ps.map λk:Nat=>(k:Int))):=by
 obtain⟨t,l,e⟩:=MG n r;obtain⟨ps,h1,h2,u⟩:=T7 t;rw[u]at e;refine⟨ps,⟨h1.symm.nodup l.nd,h2,λk hk=>l.lt k (h1.mem_iff.mp hk),λk=>⟨λhk=>l.rc k (h1.mem_iff.mp hk),λhk=>h1.mem_iff.mpr ?_⟩⟩,e⟩
 induction hk with
 |base=>exact l.st
 |step _ a b c=>exact l.cl _ c (bB) _ _ a b
def addN(kn:Θ) (t:Nat):Θ:=if t∈kn then kn else kn++[t]
def kd_put2(ks:Θ) (t:Nat):wI (kd ks) (ar (t:Int)) (.bl true)=kd (addN ks t):=by
 unfold addN
 by_cases h:t∈ks
 .rw [qd h];unfold wI;rw[kd_any,decide_eq_true h,qd rfl];unfold kd;rw[mPq];refine mCq λk _=>?_
  show (if _ then _ else _)=_
  split <;> rfl
 .rw [qh h];exact Re h
def QH(kn:Θ) (t:Nat):(addN kn t).length<=kn.length+1:=by
 unfold addN;split
 .lia
 .simp
theorem fold_len:∀(ps kn:Θ),(ps.foldl addN kn).length<=kn.length+ps.length
 | [],kn=>ab _
 |p::ps,kn=>by
  have h1:=fold_len ps (addN kn p);have h2:=QH kn p;rw[bA,lCq];lia
def Rx{kn:Θ}{t k:Nat}:k∈addN kn t↔k∈kn∨k=t:=by
 unfold addN;split
 .rename_i h;exact⟨.inl,λq=>q.elim id λq=>q ▸ h⟩
 .simp
theorem sU:∀{ps kn:Θ}{k:Nat},k∈ps.foldl addN kn↔k∈kn∨k∈ps
 | [],kn,k=>by simp
 |p::ps,kn,k=>by
  rw[bA,sU,Rx,ah,or_assoc]
def US{kn:Θ}{t:Nat}(h:kn.Nodup):(addN kn t).Nodup:=by
 unfold addN;split
 .exact h
 .rename_i q;rw[nAq];exact⟨h,by simp,λx l y n z=>q (by rw[mSq.mp n]at z;rw[←z];exact l)⟩
theorem Ih:∀{ps kn:Θ},kn.Nodup->(ps.foldl addN kn).Nodup
 | [],kn,h=>h
 |p::ps,kn,h=>by
  rw[bA];exact Ih (US h)
def GG{ps kn:Θ}{v0 v2 v3 v4 v5:Option AV}(hk:kn.length+ps.length<500000):∃l,ur 5 xP ((ps.map λk:Nat=>(k:Int)).map D.int) [v0,some (.owd (kd kn)),v2,v3,v4,v5]=some (.nx [v0,some (.owd (kd (ps.foldl addN kn))),v2,v3,v4,l]):=by
 have key:=uV (x:=5) (body:=xP) (λi S=>∃l,S=[v0,some (.owd (kd ((ps.take i).foldl addN kn))),v2,v3,v4,l]) (ds:=(ps.map λk:Nat=>(k:Int)).map D.int) (S:=[v0,some (.owd (kd kn)),v2,v3,v4,v5]) ⟨v5,rfl⟩ (by
  rintro i d S hd ⟨l,rfl⟩;rw[gMq,gMq]at hd;obtain⟨z,t,rfl⟩:=oMq.mp hd;obtain⟨k,n,rfl⟩:=oMq.mp t;have r:i<ps.length:=(gSq.mp n).1;have u:=fold_len (ps.take i) kn;rw[lTq]at u;have l1:(kd ((ps.take i).foldl addN kn)).length<rH:=by unfold kd;rw[lMq];show _<16777216;lia
  have y:(ps.take (i+1)).foldl addN kn=addN ((ps.take i).foldl addN kn) k:=by
   have:ps[i]'r=k:=by rw[gEg r]at n;exact aN.inj n
   rw[dJ r,fi,this];rfl
  have s:=kd_put2 ((ps.take i).foldl addN kn) k;rw[←y]at s;refine⟨_,?_,some (.sh (.int (k:Int))),rfl⟩
  simp_arith [xP,l1,s])
 obtain⟨B,e,l,rfl⟩:=key;rw[lMq,lMq,bh]at e;exact⟨l,e⟩
def Fg{rs:Λ}{ps:Θ}(h:∀k∈ps,k<rs.length):qY qA (zy (lOf (P7 (tU 1) (oq 0)))) [some (.sh (dM rs))] ((ps.map λk:Nat=>(k:Int)).map D.int)=some (ps.map λk=>aI (rs.getD k [])):=by
 have key:=qO (te:=zy (lOf (P7 (tU 1) (oq 0)))) (cap:=[some (.sh (dM rs))]) (λd=>match d with|.int k=>aI (rs.getD k.toNat [])|_=>.sh .non) (ds:=(ps.map λk:Nat=>(k:Int)).map D.int) (by
  intro d hd;rw[mPq]at hd;obtain⟨k,hk,rfl⟩:=mMq.mp hd;have l:=Zb (h k hk);refine⟨[some (.sh (.int (k:Int))),some (.sh (dM rs))],?_⟩
  simp_arith [dM,l,Function.comp,df,dI,aI,mPq]
  rfl)
 rw[key,mPq,mPq];rfl
def pA(rs:Λ) (ps:Θ):AV:=.ow (ps.map λk=>aI (rs.getD k []))
def IS.trans{rs:Λ}{a b c:Nat}(h:IS rs a b) (h2:IS rs b c):IS rs a c:=by
 induction h2 with
 |base=>exact h
 |step _ p q r=>exact .step r p q
def IS.symm{rs:Λ}(l:Mp rs) {a b:Nat}(h:IS rs a b):IS rs b a:=by
 induction h with
 |base=>exact .base
 | @step k r e _ p q n =>
  obtain⟨t,h1,h2⟩:=l.at (l.other p q);have:=IS.step (s:=plc rs (-e)) .base h1 h2;rw[eW,plc_eq l.hn p q]at this;exact this.trans n
structure Ps (rs:Λ) (i:Nat) (kn:Θ) (PS:List Θ):Prop where
 sub:∀ps∈PS,∀k∈ps,k∈kn
 dj:PS.Pairwise λa b=>∀k∈a,k∉b
 pc:∀ps∈PS,∃s,s<rs.length/\Pc rs s ps
 all:∀k,k<i->k∈kn
 mem:∀k,k∈kn->∃ps∈PS,k∈ps
 nd:kn.Nodup
 lt:∀k∈kn,k<rs.length
 len:PS.length<=i
def pieces_ok{rs:Λ}(C:Mp rs):∃kn PS,Ps rs rs.length kn PS/\tV [dM rs]=some (.ow (PS.map (pA rs))):=by
 have E:=C.hr;have key:=uV (x:=3) (body:=uc) (λi S=>∃kn PS G z u,S=[some (.sh (dM rs)),some (.owd (kd kn)),some (.ow (PS.map (pA rs))),G,z,u]/\Ps rs i kn PS) (ds:=qc 0 rs.length) (S:=[some (.sh (dM rs)),some (.owd []),some (.ow []),none,none,none])
  ⟨[],[],none,none,none,rfl,⟨by simp,by simp,by simp,by simp,by simp,by simp,by simp,by simp⟩⟩ (by
  rintro i d S hd ⟨kn,PS,G,z,u,rfl,l⟩;have H:i<rs.length:=by
   have:=(gSq.mp hd).1
   rwa [pX]at this
  rw[zh H,gC]at hd;cases hd;have B:=kd_get kn i
  by_cases c:i∈kn
  .rw [decide_eq_true c]at B;refine⟨[some (.sh (dM rs)),some (.owd (kd kn)),some (.ow (PS.map (pA rs))),some (.sh (.int (i:Int))),z,u],?_,kn,PS,_,_,_,rfl,l.sub,l.dj,l.pc,?_,l.mem,l.nd,l.lt,?_⟩
   .simp_arith [uc,B]
   .intro k hk;rcases cz.mp hk with q|rfl
    .exact l.all k q
    .exact c
   .have:=l.len;lia
  .rw [decide_eq_false c]at B;obtain⟨ps,h1,L⟩:=EA C H;have U:=TB _ _ l.nd l.lt;have X:=TB _ _ h1.nd h1.lt;have Y:=l.len;have l2:ps.length<=rH:=by show _<=16777216;lia
   have M:PS.length<rH:=by show _<16777216;lia
   obtain⟨I,O⟩:=GG (ps:=ps) (kn:=kn) (v0:=some (.sh (dM rs))) (v2:=some (.ow (PS.map (pA rs)))) (v3:=some (.sh (.int (i:Int)))) (v4:=some (.sh (dI (ps.map λk:Nat=>(k:Int))))) (v5:=u) (by lia)
   have P:=Fg h1.lt;refine⟨[some (.sh (dM rs)),some (.owd (kd (ps.foldl addN kn))),some (.ow ((PS++[ps]).map (pA rs))),some (.sh (.int (i:Int))),some (.sh (dI (ps.map λk:Nat=>(k:Int)))),I],?_,ps.foldl addN kn,PS++[ps],_,_,_,rfl,?_,?_,?_,?_,?_,Ih l.nd,?_,?_⟩
   .simp_arith [uc,B,L,O,P,l2,M,mBq,pA]
   .intro r t k hk;rcases mAq.mp t with q|q
    .exact sU.mpr (.inl (l.sub r q k hk))
    .rw [mSq.mp q]at hk;exact sU.mpr (.inr hk)
   .rw [fF];refine⟨l.dj,dR ..,λr t b Q k hk y=>c ?_⟩
    rw[mSq.mp Q]at y;obtain⟨s,hs,J⟩:=l.pc r t;exact l.sub r t i ((J.iff i).mpr (((J.iff k).mp hk).trans (((h1.iff k).mp y).symm C)))
   .intro r t;rcases mAq.mp t with q|q
    .exact l.pc r q
    .rw [mSq.mp q];exact⟨i,H,h1⟩
   .intro k hk;rcases cz.mp hk with q|rfl
    .exact sU.mpr (.inl (l.all k q))
    .exact sU.mpr (.inr ((h1.iff k).mpr .base))
   .intro k hk;rcases sU.mp hk with q|q
    .obtain ⟨r,a,b⟩:=l.mem k q;exact⟨r,mAq.mpr (.inl a),b⟩
    .exact ⟨ps,mAq.mpr (.inr (mSq.mpr rfl)),q⟩
   .intro k hk;rcases sU.mp hk with q|q
    .exact l.lt k q
    .exact h1.lt k q
   .rw [lAq,lSq];lia)
 obtain⟨S',e,kn,PS,G,z,u,rfl,l⟩:=key;rw[pX]at l;have R:=wL (n:=rs.length) (by lia)
 refine⟨kn,PS,l,?_⟩
 simp_arith [tV,Dr,dM,R,e]
end K51
namespace K12
open PySem L2 Mr Z Xe Zl
abbrev gm(p:Λ):Λ:=Do (p.map wc)
def qt(p:Λ):(gm p).Perm (p.map wc):=Ci _
def WK{P Q:List Λ}(l:Q.Perm (P.map gm)):Q.flatten.Perm (P.flatten.map wc):=by
 refine l.flatten.trans ?_
 clear l
 induction P with
 |nil=>exact .refl _
 |cons p P n =>
  rw[ax,fCq,fCq,mBq];exact(qt p).append n
theorem flat_nd:∀{PS:List Θ},(∀ps∈PS,ps.Nodup)->(PS.Pairwise λa b=>∀k∈a,k∉b)->PS.flatten.Nodup
 | [],_,_=>aT
 |p::PS,h1,h2=>by
  obtain⟨n,r⟩:=cX.mp h2;rw[fCq,nAq];refine⟨h1 p (ai ..),flat_nd (λps s=>h1 ps (mCo _ s)) r,λa ha b t e=>?_⟩
  obtain⟨q,u,l⟩:=mFq.mp t;exact n q u a ha (e ▸ l)
def Jm{rs:Λ}{kn:Θ}{PS:List Θ}(l:K51.Ps rs rs.length kn PS):(PS.map λps=>ps.map λk=>rs.getD k []).flatten.Perm rs:=by
 have r:(PS.map λps=>ps.map λk=>rs.getD k []).flatten=PS.flatten.map λk=>rs.getD k []:=by rw[←fE]
 rw[r];have nd:PS.flatten.Nodup:=flat_nd (λps h=>by obtain⟨s,_,q⟩:=l.pc ps h;exact q.nd) l.dj
 have pm:PS.flatten.Perm (bJ rs.length):=(eK nd gw).mpr λk=>by
  rw[cZ,mFq];constructor
  .rintro ⟨ps,h1,h2⟩;obtain⟨s,_,q⟩:=l.pc ps h1;exact q.lt k h2
  .intro hk;exact l.mem k (l.all k hk)
 have t:(bJ rs.length).map (λk=>rs.getD k [])=rs:=by
  refine dh λi=>?_
  rw[gMq]
  by_cases n:i<rs.length
  .rw [fY n,gEg n,dg,gDq,gEg n];rfl
  .rw [bp (by simpa using n),bp (by lia)]
   rfl
 have:=pm.map (λk=>rs.getD k [])
 rwa [t]at this
end K12
namespace K11
open PySem L2 Mr Z Xe Zl K12
def zG(p:Λ):Prop:=∀k,0<k->k<p.length->∃j e,j<k/\e∈p.getD j []/\-e∈p.getD k []
structure Cn (p:Λ):Prop where
 ne:p≠[]
 clo:∀z∈p.flatten, -z∈p.flatten
 tr:zG p
def Cb{l:Λ}{h:Nat}{r x:Ϝ}(hr:l[h]?=some r) {k:Nat}{e:Int}(n:e∈l.getD k []):e∈(l.set h (r++x)).getD k []:=by
 rw[gDq]at n ⊢
 by_cases q:h=k
 .subst q;have s:=(gSq.mp hr).1;rw[aM s];rw[hr]at n;exact cE _ n
 .rw [aD q];exact n
def HC{l:Λ}{h:Nat}{r x:Ϝ}(hr:l[h]?=some r) {e:Int}(s:e∈x):e∈(l.set h (r++x)).getD h []:=by
 have n:=(gSq.mp hr).1;rw[gDq,aM n];exact ay _ s
theorem zG.set{l:Λ}{h:Nat}{r x:Ϝ}(t:zG l) (hr:l[h]?=some r):zG (l.set h (r++x)):=λk n hk=>by
 rw[lZq]at hk;obtain⟨j,e,h1,h2,s⟩:=t k n hk;exact⟨j,e,h1,Cb hr h2,Cb hr s⟩
def getD_app{l:Λ}{x:Ϝ}{k:Nat}(h:k<l.length):(l++[x]).getD k []=l.getD k []:=by
 rw[gDq,gDq,gZq h]
def S5{l:Λ}{x:Ϝ}:(l++[x]).getD l.length []=x:=by
 rw[gDq,gYq (ab _),dr];rfl
def zG.add{l:Λ}{h:Nat}{e:Int}(t:zG l) (hh:h<l.length) (n:e∈l.getD h []):zG (l++[[-e]]):=λk r hk=>by
 rw[lAq,lSq]at hk
 by_cases q:k<l.length
 .obtain ⟨j,s,h1,h2,u⟩:=t k r q;exact⟨j,s,h1,by rw[getD_app (by lia)];exact h2,by rw[getD_app q];exact u⟩
 .have x:k=l.length:=by lia
  subst x;exact⟨h,e,hh,by rw[getD_app hh];exact n,by rw[S5];simp⟩
def JP(r:Ϝ):zG [r]:=λk l hk=>by
 rw[lSq]at hk;lia
end K11
namespace K31
open PySem L2 Mr Z Xe Zl K12
def Ob(one two:Int):∃st sh a b:Int,1<=st/\st<=10 ^ 40/\0<=sh/\sh<10 ^ 40/\1<=a/\a<=66/\∀k:Nat,tm [.int one,.int two,.int (k:Int)]=some (.sh (.int (OU st sh a b k))):=by
 have E:0<=two % 66:=aX _ (by decide)
 have G:two % 66<66:=aW _ (by decide)
 have H:0<=one / 3 % 10 ^ 40:=aX _ (by decide)
 have I:one / 3 % 10 ^ 40<10 ^ 40:=aW _ (by decide)
 have z:0<=two / 66 % 10 ^ 40:=aX _ (by decide)
 have B:two / 66 % 10 ^ 40<10 ^ 40:=aW _ (by decide)
 have u:=λi:Int=>rW (i:=i) (j:=3) (by decide)
 have l:=λi:Int=>rW (i:=i) (j:=66) (by decide)
 have n:=λi:Int=>rW (i:=i) (j:=67) (by decide)
 have r:=λi:Int=>rW (i:=i) (j:=10 ^ 40) (by decide)
 have C:=λi:Int=>vD (i:=i) (j:=3) (by decide) (by decide)
 have s:=λi:Int=>vD (i:=i) (j:=66) (by decide) (by decide)
 have x:=λk:Nat=>IX (i:=1+two % 66) (j:=(k:Int)) (by lia) (by lia)
 by_cases y:0<one % 3
 .refine ⟨1+one / 3 % 10 ^ 40,two / 66 % 10 ^ 40,1+two % 66,one,by lia,by lia,z,B,by lia,by lia,λk=>?_⟩
  have b1:0<=((1+two % 66)*(k:Int)+one) % 67:=aX _ (by decide)
  have b2:((1+two % 66)*(k:Int)+one) % 67<67:=aW _ (by decide)
  have t:=GX (i:=1+one / 3 % 10 ^ 40) (j:=((1+two % 66)*(k:Int)+one) % 67+1) (by lia) (by lia)
  simp_arith [tm,CT,y,u,l,n,r,C,s,x,t,p40,OU]
 .refine ⟨1,0,1+two % 66,one,by decide,by decide,by decide,by decide,by lia,by lia,λk=>?_⟩
  have b1:0<=((1+two % 66)*(k:Int)+one) % 67:=aX _ (by decide)
  have b2:((1+two % 66)*(k:Int)+one) % 67<67:=aW _ (by decide)
  have t:=GX (i:=1) (j:=((1+two % 66)*(k:Int)+one) % 67+1) (by lia) (by lia)
  simp_arith [tm,CT,y,u,l,n,x,t,OU]
def Dx{T:Λ}{h:Nat}{r:Ϝ}(hr:T[h]?=some r):qF (.ow (T.map aI)) [h]=some (r.map λn=>.sh (.int n)):=by
 rw[Kk,gMq,hr];rfl
def Us{T:Λ}{h:Nat}{r r':Ϝ}(hr:T[h]?=some r):putAt (.ow (T.map aI)) [h] (r'.map λn=>.sh (.int n)) = .ow ((T.set h r').map aI):=by
 rw[L9 (a:=aI r) (by rw[gMq,hr];rfl)]
 show AV.ow ((T.map aI).set h (aI r'))=_;rw[Sx]
structure Wd where
 T:Λ
 t0:Θ
 h:Nat
 loose:Ϝ
 left:Ϝ
def Gu(wild:Bool) (c:Int) (loose:Ϝ):Nat:=if wild then (c / 8 % loose.length).toNat else loose.length-1
def sg(c x:Int):Int:=x*(1-2*(c / 4 % 2))
def yt(wild:Bool) (w:Wd) (c:Int):Wd :=
 let r:=w.T.getD w.h []
 if c % 4=1/\w.t0≠[] then { w with t0:=w.t0.dropLast,h:=w.t0.getLast?.getD 0 }
 else if c % 4=2/\w.loose≠[] then { w with T:=w.T.set w.h (r++[w.loose.getD (Gu wild c w.loose) 0]),loose:=w.loose.eraseIdx (Gu wild c w.loose) }
 else match w.left with
  | []=>w
  |x::left=>if c % 4=0 then { w with T:=w.T.set w.h (r++[sg c x])++[[-(sg c x)]],t0:=w.t0++[w.h],h:=w.T.length,left:=left }
   else { w with T:=w.T.set w.h (r++[sg c x]),loose:=w.loose++[-(sg c x)],left:=left }
def st(v0 v1:Option AV) (wild:Bool) (w:Wd) (v7 v8 v9 v10:Option AV):AS:=[v0,v1,some (.sh (.bl wild)),some (.ow (w.T.map aI)),some (aI (cN (w.t0++[w.h]))),some (aI w.loose),some (aI w.left),v7,v8,v9,v10]
section
variable {T:Λ}{t0:Θ}{hd:Nat}{loose left r:Ϝ}{c:Int}{wild:Bool}{v0 v1 v8 v9 v10:Option AV}
def RD:atI ((cN (t0++[hd])).map D.int) (((t0++[hd]).length:Int)-1)=some (.int (hd:Int)):=by
 have:((t0++[hd]).length:Int)-1=(t0.length:Int):=by rw[lAq,lSq];lia
 rw[this];refine wH ?_;unfold cN;rw[mBq,mBq,gYq (by simp)]
 simp
def EN(l:Θ):(cN l).length=l.length:=lMq ..
def Qd:Θ->MS:=(Kn 3 (tK (pR MC (wb rB (ox (oq 6) oS)) (rC (.int 0)))) (Iy 3 (Hh 10 (UW CO (zj 6 (rC (.int 0))) (pR Dq (rC (.int 1)) (pR CO (rC (.int 2)) (pR tS (pR zL (oq 7) (rC (.int 4))) (rC (.int 2))))))) (λpath=>oQ ((Oe 3 (oU 10)) path) (zC (tK (pR IQ (pR tS (oq 7) (rC (.int 4))) (rC (.int 0)))) (oQ (zK 3 (uS (oB (kSc (Ea xx (oq 10))) pD))) (zK 4 (kSc (pR Dq (wb rB (ox (oq 3) oS)) (rC (.int 1)))))) (zK 5 (kSc (Ea xx (oq 10))))))) (λ_=>qJ))
def RV:Θ->MS:=(Kn 3 (GJ (tK (pR IQ (pR tS (oq 7) (rC (.int 4))) (rC (.int 1)))) (tK (pR MC (wb rB (ox (oq 4) oS)) (rC (.int 1))))) (λ_=>(Ik (FY 4))) (Kn 3 (GJ (tK (pR IQ (pR tS (oq 7) (rC (.int 4))) (rC (.int 2)))) (tK (pR MC (wb rB (ox (oq 5) oS)) (rC (.int 0))))) (Iy 3 (pN 9 (kSc (pR Dq (wb rB (ox (oq 5) oS)) (rC (.int 1))))) (Iy 3 (zC (tK (oq 2)) (pN 9 (kSc (pR tS (pR zL (oq 7) (rC (.int 8))) (wb rB (ox (oq 5) oS))))) qJ) (HJ 3 (zj 5 (oq 9))))) Qd))
def UD:sY=(VE 8 3 (ZK 3 (QC 3) (pR HU (oq 4) (pR Dq (wb rB (ox (oq 4) oS)) (rC (.int 1))))) RV):=rfl
def R6(hr:T[hd]?=some r):sY (st v0 v1 wild ⟨T,t0,hd,loose,left⟩ (some (.sh (.int c))) v8 v9 v10)=RV [hd] (st v0 v1 wild ⟨T,t0,hd,loose,left⟩ (some (.sh (.int c))) none v9 v10):=by
 have hh:hd<T.length:=(gSq.mp hr).1;have n:=Dx hr;have s:Jx T.length (hd:Int)=some hd:=Nl hh;have t:=oY (cN (t0++[hd]));have l:=RD (t0:=t0) (hd:=hd);have cl:=EN (t0++[hd]);have q:((8:Nat)≠3/\8<11)=True:=by simp
 rw[UD]
 simp_arith [st,n,s,t,dI,l,cl,q]
def UU{t:Θ}{h':Nat}(hr:T[hd]?=some r) (h1:c % 4=1):RV [hd] (st v0 v1 wild ⟨T,t++[h'],hd,loose,left⟩ (some (.sh (.int c))) v8 v9 v10)=some (.nx (st v0 v1 wild ⟨T,t,h',loose,left⟩ (some (.sh (.int c))) v8 v9 v10)):=by
 have l:=rW (i:=c) (j:=4) (by decide)
 have s:=Dx hr;have u:=oY (cN (t++[h']++[hd]));have cl:=EN (t++[h']++[hd]);have x:(1:Int)<((t++[h']++[hd]).length:Int):=by simp;lia
 have y:(cN (t++[h']++[hd])).map (λn=>AV.sh (.int n))=(cN (t++[h'])).map (λn=>AV.sh (.int n))++[.sh (.int (hd:Int))]:=(We (t++[h']) hd).symm
 have z:((cN (t++[h'])).map (λn=>AV.sh (.int n))++[AV.sh (.int (hd:Int))])[((cN (t++[h'])).map (λn=>AV.sh (.int n))++[AV.sh (.int (hd:Int))]).length-1]?=some (.sh (.int (hd:Int))):=by
  rw[lAq,lSq,gYq (by lia)]
  simp
 have B:((cN (t++[h'])).map (λn=>AV.sh (.int n))++[AV.sh (.int (hd:Int))]).dropLast=(cN (t++[h'])).map (λn=>AV.sh (.int n)):=dG
 simp_arith [RV,st,l,h1,s,u,dI,cl,x,eq_self,y,z,B]
def T6(hr:T[hd]?=some r) (J:r.length<500000) (L:loose.length<500000) (h1:¬ c % 4=1) (h2:c % 4=2) (t:loose≠[]):RV [hd] (st v0 v1 wild ⟨T,t0,hd,loose,left⟩ (some (.sh (.int c))) v8 v9 v10)=some (.nx (st v0 v1 wild ⟨T.set hd (r++[loose.getD (Gu wild c loose) 0]),t0,hd,loose.eraseIdx (Gu wild c loose),left⟩ (some (.sh (.int c))) v8 (some (.sh (.int (Gu wild c loose:Nat)))) v10)):=by
 have x:=rW (i:=c) (j:=4) (by decide)
 have M:=vD (i:=c) (j:=8) (by decide) (by decide)
 have y:0<loose.length:=du.mpr t;have ml:=rW (i:=c / 8) (j:=(loose.length:Int)) (by lia)
 have z:=Dx hr;have l1:r.length<rH:=by show _<16777216;lia
 have B:=oY loose;have C:(0:Int)<(loose.length:Int):=by lia
 have l:Gu wild c loose<loose.length:=by
  unfold Gu;have O:0<=c / 8 % (loose.length:Int):=aX _ (by lia)
  have b1:c / 8 % (loose.length:Int)<(loose.length:Int):=aW _ (by lia)
  split <;> lia
 have ll:loose.length<=rH:=by show _<=16777216;lia
 have E:(loose.map λn=>AV.sh (.int n))[Gu wild c loose]?=some (.sh (.int (loose.getD (Gu wild c loose) 0))):=by
  rw[gMq,gEg l,gDq,gEg l];rfl
 have g2:(loose.map λn=>AV.sh (.int n)).eraseIdx (Gu wild c loose)=(loose.eraseIdx (Gu wild c loose)).map λn=>.sh (.int n):=RL _ _ _
 have G:=Us (r':=r++[loose.getD (Gu wild c loose) 0]) hr;have H:=E7 r (loose.getD (Gu wild c loose) 0);have q:(0<=((Gu wild c loose:Nat):Int)/\((Gu wild c loose:Nat):Int)<(loose.length:Int)/\loose.length<=rH)=True:=by simp[ll,l]
 have I:((Gu wild c loose:Nat):Int).toNat=Gu wild c loose:=df _;have s:¬ (2:Int)=1:=by decide
 cases wild with
 |true =>
  have u:c / 8 % (loose.length:Int)=((Gu true c loose:Nat):Int):=by
   have O:0<=c / 8 % (loose.length:Int):=aX _ (by lia)
   show _=(((c / 8 % (loose.length:Int)).toNat:Nat):Int);lia
  simp_arith [RV,st,x,h2,s,z,B,dI,C,eq_self,M,ml,u,q,I,E,g2,l1,H,G,true_and]
 |false =>
  have u:(loose.length:Int)-1=((Gu false c loose:Nat):Int):=by
   show _=((loose.length-1:Nat):Int);lia
  simp_arith [RV,st,x,h2,s,z,B,dI,C,eq_self,u,q,I,E,g2,l1,H,G,true_and]
def Se(hr:T[hd]?=some r) (h1:¬ (c % 4=1/\t0≠[])) (h2:¬ (c % 4=2/\loose≠[])):RV [hd] (st v0 v1 wild ⟨T,t0,hd,loose,left⟩ (some (.sh (.int c))) v8 v9 v10)=Qd [hd] (st v0 v1 wild ⟨T,t0,hd,loose,left⟩ (some (.sh (.int c))) v8 v9 v10):=by
 have l:=rW (i:=c) (j:=4) (by decide)
 have n:=Dx hr;have s:=oY loose;have t:=oY (cN (t0++[hd]));have cl:=EN (t0++[hd]);have E:c % 4=1->decide ((1:Int)<((t0++[hd]).length:Int))=false:=λh=>by
  by_cases hn:t0=[]
  .subst hn;simp
  .exact absurd ⟨h,hn⟩ h1
 have G:c % 4=2->decide ((0:Int)<(loose.length:Int))=false:=λh=>by
  by_cases hn:loose=[]
  .subst hn;simp
  .exact absurd ⟨h,hn⟩ h2
 have u:¬ (2:Int)=1:=by decide
 have x:¬ (1:Int)=2:=by decide
 by_cases y:c % 4=1
 .have z:=E y
  simp_arith [RV,Qd,st,l,y,x,n,s,t,cl,dI,z,eq_self]
 .by_cases B:c % 4=2
  .have C:=G B
   simp_arith [RV,Qd,st,l,B,u,n,s,t,cl,dI,C,eq_self]
  .simp_arith [RV,Qd,st,l,y,B,n,s,t,cl,dI,eq_self]
def UE(hr:T[hd]?=some r):Qd [hd] (st v0 v1 wild ⟨T,t0,hd,loose,[]⟩ (some (.sh (.int c))) v8 v9 v10)=some (.nx (st v0 v1 wild ⟨T,t0,hd,loose,[]⟩ (some (.sh (.int c))) v8 v9 v10)):=by
 have l:=Dx hr;have n:decide ((0:Int)<((0:Nat):Int))=false:=by decide
 have s:=oY []
 simp_arith [Qd,st,l,s,dI,n]
def Xi{x:Int}(hr:T[hd]?=some r) (t:r.length<500000) (u:T.length<500000) (y:t0.length<500000) (z:left.length<500000) (B:c % 4=0):Qd [hd] (st v0 v1 wild ⟨T,t0,hd,loose,x::left⟩ (some (.sh (.int c))) v8 v9 v10)=some (.nx (st v0 v1 wild ⟨T.set hd (r++[sg c x])++[[-(sg c x)]],t0++[hd],T.length,loose,left⟩ (some (.sh (.int c))) v8 v9 (some (.sh (.int (sg c x)))))):=by
 have C:=rW (i:=c) (j:=4) (by decide)
 have E:=vD (i:=c) (j:=4) (by decide) (by decide)
 have m2:=rW (i:=c / 4) (j:=2) (by decide)
 have U:0<=c / 4 % 2:=aX _ (by decide)
 have b1:c / 4 % 2<2:=aW _ (by decide)
 have G:=IX (i:=2) (j:=c / 4 % 2) (by lia) (by lia)
 have H:=GX (i:=x) (j:=1-2*(c / 4 % 2)) (by lia) (by lia)
 have I:=Dx hr;have J:=oY (x::left);have L:(0:Int)<((x::left).length:Int):=by rw[lCq];lia
 have n:(0:Int)<((left.length+1:Nat):Int):=by lia
 have l1:r.length<rH:=by show _<16777216;lia
 have q:(0:Int)<=0:=gk _;have M:left.length+1<=rH:=by show _<=16777216;lia
 have s:(0:Int).toNat=0:=rfl;have O:x*(1-2*(c / 4 % 2))=sg c x:=rfl;have P:=E7 r (sg c x);have Q:=Us (r':=r++[sg c x]) hr;have lT:(T.set hd (r++[sg c x])).length=T.length:=lZq;have l2:T.length<rH:=by show _<16777216;lia
 have R:=TQ (T.set hd (r++[sg c x])) (-(sg c x));have l:((T.set hd (r++[sg c x])++[[-(sg c x)]]).length:Int)-1=(T.length:Int):=by rw[lAq,lT,lSq];lia
 have lw:(t0++[hd]).length<rH:=by rw[lAq,lSq];show t0.length+1<16777216;lia
 have S:=We (t0++[hd]) T.length;have cl:=EN (t0++[hd])
 simp_arith [Qd,st,C,B,E,m2,G,H,I,J,dI,L,n,q,M,true_and,s,O,eq_self,l1,P,Q,lT,l2,R,l,cl,lw,S,fg]
def Qs{x:Int}(hr:T[hd]?=some r) (s:r.length<500000) (t:loose.length<500000) (u:left.length<500000) (y:¬ c % 4=0):Qd [hd] (st v0 v1 wild ⟨T,t0,hd,loose,x::left⟩ (some (.sh (.int c))) v8 v9 v10)=some (.nx (st v0 v1 wild ⟨T.set hd (r++[sg c x]),t0,hd,loose++[-(sg c x)],left⟩ (some (.sh (.int c))) v8 v9 (some (.sh (.int (sg c x)))))):=by
 have z:=rW (i:=c) (j:=4) (by decide)
 have B:=vD (i:=c) (j:=4) (by decide) (by decide)
 have m2:=rW (i:=c / 4) (j:=2) (by decide)
 have Q:0<=c / 4 % 2:=aX _ (by decide)
 have b1:c / 4 % 2<2:=aW _ (by decide)
 have C:=IX (i:=2) (j:=c / 4 % 2) (by lia) (by lia)
 have E:=GX (i:=x) (j:=1-2*(c / 4 % 2)) (by lia) (by lia)
 have G:=Dx hr;have H:=oY (x::left);have I:(0:Int)<((x::left).length:Int):=by rw[lCq];lia
 have l:(0:Int)<((left.length+1:Nat):Int):=by lia
 have l1:r.length<rH:=by show _<16777216;lia
 have q:(0:Int)<=0:=gk _;have J:left.length+1<=rH:=by show _<=16777216;lia
 have n:(0:Int).toNat=0:=rfl;have L:x*(1-2*(c / 4 % 2))=sg c x:=rfl;have M:=E7 r (sg c x);have O:=Us (r':=r++[sg c x]) hr;have l2:loose.length<rH:=by show _<16777216;lia
 have P:=E7 loose (-(sg c x))
 simp_arith [Qd,st,z,y,B,m2,C,E,G,H,dI,I,l,q,J,true_and,n,L,eq_self,l1,M,O,l2,P,fg]
end
def wj(l:Ϝ):Ϝ:=l.flatMap λx=>[x, -x]
def E5(x:Int) (l:Ϝ) (a:Int):(wj (x::l)).count a=[x, -x].count a+(wj l).count a:=by
 unfold wj;rw[bE,cAq]
theorem Ig:∀l:Ϝ,(wj l).length=2*l.length
 | []=>rfl
 |x::l=>by
  unfold wj;have:=Ig l;unfold wj at this;rw[bE,lAq,this];show 2+2*l.length=2*(l.length+1);lia
def U2{l:Ϝ}{z:Int}:z∈wj l↔∃x∈l,z=x∨z = -x:=by
 unfold wj;rw[bC];simp
def Q2(a c x:Int):[sg c x].count a+[-(sg c x)].count a=[x, -x].count a:=by
 have l:0<=c / 4 % 2:=aX _ (by decide)
 have b1:c / 4 % 2<2:=aW _ (by decide)
 rw[show [x, -x]=[x]++[-x] from rfl,cAq]
 unfold sg;have h:c / 4 % 2=0∨c / 4 % 2=1:=by lia
 rcases h with h|h
 .rw [h,show (1:Int)-2*0=1 from rfl,gh]
 .rw [h,show (1:Int)-2*1 = -1 from rfl,iS,gh,eW]
  lia
structure Vc (nm:Ϝ) (w:Wd) (n:Nat):Prop where
 hh:w.h<w.T.length
 ht:∀k∈w.t0,k<w.T.length
 lw:w.t0.length<=n
 lT:w.T.length<=n+1
 lf:w.left.length<=nm.length
 cnt:∀a,w.T.flatten.count a+w.loose.count a+(wj w.left).count a=(wj nm).count a
 tr:K11.zG w.T
def Vc.len{nm:Ϝ}{w:Wd}{n:Nat}(h:Vc nm w n):w.T.flatten.length+w.loose.length+(wj w.left).length=2*nm.length:=by
 have:(w.T.flatten++w.loose++wj w.left).Perm (wj nm):=by
  rw[dv];intro a;rw[cAq,cAq];exact h.cnt a
 have:=this.length_eq;rw[lAq,lAq,Ig nm]at this;exact this
def Vc.step{nm:Ϝ}{w:Wd}{n:Nat}{wild:Bool}(h:Vc nm w n) (c:Int):Vc nm (yt wild w c) (n+1):=by
 obtain⟨T,t0,hd,loose,left⟩:=w;obtain⟨hh,ht,lw,lT,lf,cnt,tr⟩:=h;simp only at hh ht lw lT lf cnt tr;have hr:T[hd]?=some (T.getD hd []):=by rw[gDq,gEg hh];rfl
 unfold yt;simp only;split
 .rename_i q;rcases eB t0 with z|⟨t,u,z⟩
  .exact absurd z q.2
  .subst z;rw[eC]at ht lw ⊢;rw[dG,gV];simp only[gF,jd,bK];rw[lAq,lSq]at lw;exact⟨ht _ (by simp),λk hk=>ht k (by simp[hk]),(by simp only;lia),(by simp only;lia),lf,cnt,tr⟩
 .split
  .rename_i q;have r:0<loose.length:=du.mpr q.2;have l:Gu wild c loose<loose.length:=by
    unfold Gu;have y:0<=c / 8 % (loose.length:Int):=aX _ (by lia)
    have b1:c / 8 % (loose.length:Int)<(loose.length:Int):=aW _ (by lia)
    split <;> lia
   refine⟨?_,?_,?_,?_,lf,λa=>?_,?_⟩
   .simp only [lZq];exact hh
   .simp only [lZq];exact ht
   .simp only;lia
   .simp only [lZq];lia
   .simp only;rw[CI a hr,←cnt a,←Dt a l];lia
   .exact tr.set hr
  .cases left with
   |nil=>exact⟨hh,ht,(by simp only;lia),(by simp only;lia),lf,cnt,tr⟩
   |cons x left =>
    simp only;rw[lCq]at lf;have s:=λa=>E5 x left a
    split
    .refine ⟨?_,?_,?_,?_,(by simp only;lia),λa=>?_,?_⟩
     .simp only [lAq,lZq,lSq];lia
     .intro k hk;simp only[lAq,lZq,lSq]at hk ⊢;rcases mAq.mp hk with hk|hk
      .have:=ht k hk;lia
      .rw [mSq.mp hk];lia
     .simp only [lAq,lSq];lia
     .simp only [lAq,lZq,lSq];lia
     .simp only;rw[fAq,aS,cAq,CI a hr];have:=cnt a;rw[s a,←Q2 a c x]at this;lia
     .exact (tr.set hr).add (by rw[lZq];exact hh) (K11.HC hr (by simp))
    .refine ⟨?_,?_,?_,?_,(by simp only;lia),λa=>?_,?_⟩
     .simp only [lZq];exact hh
     .simp only [lZq];exact ht
     .simp only;lia
     .simp only [lZq];lia
     .simp only;rw[CI a hr,cAq];have:=cnt a;rw[s a,←Q2 a c x]at this;lia
     .exact tr.set hr
def OC{nm:Ϝ}{w:Wd}{n:Nat}{wild:Bool}{c:Int}{v0 v1 v8 v9 v10:Option AV}(h:Vc nm w n) (hn:n<1000) (G:nm.length<=1000):∃B C r,sY (st v0 v1 wild w (some (.sh (.int c))) v8 v9 v10)=some (.nx (st v0 v1 wild (yt wild w c) (some (.sh (.int c))) B C r)):=by
 have s:=h.len;obtain⟨T,t0,hd,loose,left⟩:=w;obtain⟨hh,ht,lw,lT,lf,cnt,tr⟩:=h;simp only at hh ht lw lT lf cnt tr s;have hr:T[hd]?=some (T.getD hd []):=by rw[gDq,gEg hh];rfl
 have E:=NA hr;rw[R6 hr];unfold yt;simp only
 by_cases u:c % 4=1/\t0≠[]
 .rw [qd u];rcases eB t0 with z|⟨t,H,z⟩
  .exact absurd z u.2
  .subst z;rw[eC,dG,gV];simp only[gF,jd,bK];exact⟨_,_,_,UU hr u.1⟩
 .rw [qh u]
  by_cases l:c % 4=2/\loose≠[]
  .rw [qd l];exact⟨_,_,_,T6 hr (by lia) (by lia) (by have:=l.1;lia) l.1 l.2⟩
  .rw [qh l,Se hr u l];cases left with
   |nil=>exact⟨_,_,_,UE hr⟩
   |cons x left =>
    simp only;rw[lCq]at lf
    by_cases y:c % 4=0
    .rw [qd y];exact⟨_,_,_,Xi hr (by lia) (by lia) (by lia) (by lia) y⟩
    .rw [qh y];exact⟨_,_,_,Qs hr (by lia) (by lia) (by lia) y⟩
def w0(nm:Ϝ):Wd:=⟨[[]],[],0,[],nm⟩
def V8(nm:Ϝ):Vc nm (w0 nm) 0:=⟨by simp[w0],(λk h=>by cases h),ab _,ab _,ab _,(λa=>by simp[w0]),K11.JP _⟩
theorem Fd{nm:Ϝ}{wild:Bool}:∀(cs:Ϝ) {w:Wd}{n:Nat},Vc nm w n->Vc nm (cs.foldl (yt wild) w) (n+cs.length)
 | [],w,n,h=>h
 |c::cs,w,n,h=>by
  have:=Fd (wild:=wild) cs (h.step (wild:=wild) c);rw[bA,lCq,show n+(cs.length+1)=n+1+cs.length by lia]
  exact this
def MD{nm cs:Ϝ}{wild:Bool}{v7 v8 v9 v10:Option AV}(u:cs.length<=63) (hn:nm.length<=1000):∃s n r l,ur 7 sY (cs.map D.int) (st (some (.sh (dI cs))) (some (.sh (dI nm))) wild (w0 nm) v7 v8 v9 v10)=some (.nx (st (some (.sh (dI cs))) (some (.sh (dI nm))) wild (cs.foldl (yt wild) (w0 nm)) s n r l)):=by
 have key:=uV (x:=7) (body:=sY) (λi S=>∃v7 v8 v9 v10,S=st (some (.sh (dI cs))) (some (.sh (dI nm))) wild ((cs.take i).foldl (yt wild) (w0 nm)) v7 v8 v9 v10) (ds:=cs.map D.int) (S:=st (some (.sh (dI cs))) (some (.sh (dI nm))) wild (w0 nm) v7 v8 v9 v10) ⟨v7,v8,v9,v10,rfl⟩ (by
  rintro i d S hd ⟨v7,v8,v9,v10,rfl⟩;rw[gMq]at hd;obtain⟨c,t,rfl⟩:=oMq.mp hd;have y:i<cs.length:=(gSq.mp t).1;have ok:=Fd (nm:=nm) (wild:=wild) (cs.take i) (V8 nm);rw[lTq]at ok;obtain⟨n,r,l,e⟩:=OC (wild:=wild) (c:=c) (v0:=some (.sh (dI cs))) (v1:=some (.sh (dI nm))) (v8:=v8) (v9:=v9) (v10:=v10) ok (by lia) hn
  refine⟨_,e,some (.sh (.int c)),n,r,l,?_⟩;rw[Pn t])
 obtain⟨z,e,s,n,r,l,rfl⟩:=key;rw[lMq,bh]at e;exact⟨s,n,r,l,e⟩
def Px{T:Λ}{t0:Θ}{hd:Nat}{loose left r:Ϝ}{wild:Bool}{v0 v1 v7 v8 v9 v10:Option AV}(hr:T[hd]?=some r) (hl:r.length+loose.length<=10000) :
  tO (tK (pR MC (wb rB (ox (oq 5) oS)) (rC (.int 0)))) wD 100000 (st v0 v1 wild ⟨T,t0,hd,loose,left⟩ v7 v8 v9 v10)=some (.nx (st v0 v1 wild ⟨T.set hd (r++loose.reverse),t0,hd,[],left⟩ v7 v8 v9 v10)):=by
 have hh:hd<T.length:=(gSq.mp hr).1;obtain⟨H,e,l2,rfl,z⟩:=Ae (c:=tK (pR MC (wb rB (ox (oq 5) oS)) (rC (.int 0)))) (body:=wD)
  (λS=>∃l1 l2,S=st v0 v1 wild ⟨T.set hd (r++l2),t0,hd,l1,left⟩ v7 v8 v9 v10/\loose=l1++l2.reverse)
  (λS=>match S with|[_,_,_,_,_,some (.ow l),_,_,_,_,_]=>l.length|_=>0)
  (λH=>∃l2,H=st v0 v1 wild ⟨T.set hd (r++l2),t0,hd,[],left⟩ v7 v8 v9 v10/\loose=l2.reverse) (by
   rintro S ⟨l1,l2,rfl,u⟩;have s:=congrArg aZ u;rw[lAq,List.length_reverse]at s;rcases eB l1 with rfl|⟨l,x,rfl⟩
   .refine ⟨false,_,?_,λq=>(nomatch q),λ_=>⟨l2,rfl,by rw[u];rfl⟩⟩
    have y:decide ((0:Int)<((0:Nat):Int))=false:=by decide
    have B:=oY []
    simp_arith [st,B,dI,y]
   .rw [eC]at u s ⊢;have t:(T.set hd (r++l2))[hd]?=some (r++l2):=aM hh;have I:=Dx t;have J:Jx T.length (hd:Int)=some hd:=Nl hh;have lT:(T.set hd (r++l2)).length=T.length:=lZq;have L:=oY (cN (t0++[hd]));have C:=RD (t0:=t0) (hd:=hd);have cl:=EN (t0++[hd]);have B:=oY (l++[x]);have y:(0:Int)<((l++[x]).length:Int):=by rw[lAq,lSq];lia
    have ex:(l++[x]).map (λn=>AV.sh (.int n))=l.map (λn=>AV.sh (.int n))++[.sh (.int x)]:=by rw[mBq];rfl
    have M:(l.map (λn=>AV.sh (.int n))++[AV.sh (.int x)])[(l.map (λn=>AV.sh (.int n))++[AV.sh (.int x)]).length-1]?=some (.sh (.int x)):=by
     rw[lAq,lSq,gYq (by lia)]
     simp
    have O:(l.map (λn=>AV.sh (.int n))++[AV.sh (.int x)]).dropLast=l.map (λn=>AV.sh (.int n)):=dG
    have P:=Us (r':=r++l2++[x]) t;have Q:=E7 (r++l2) x;have E:(r++l2).length<rH:=by
     rw[lAq,lSq]at s;rw[lAq];show _<16777216;lia
    have G:(T.set hd (r++l2)).set hd (r++l2++[x])=T.set hd (r++(l2++[x])):=by rw[fP,aV]
    refine⟨true,st v0 v1 wild ⟨T.set hd (r++l2),t0,hd,l++[x],left⟩ v7 v8 v9 v10,?_,λ_=>⟨st v0 v1 wild ⟨T.set hd (r++(l2++[x])),t0,hd,l,left⟩ v7 v8 v9 v10,?_,⟨l,l2++[x],rfl,by rw[u];simp⟩,?_⟩,λq=>(nomatch q)⟩
    .simp_arith [st,B,dI,y]
    .simp_arith [wD,st,I,J,lT,L,dI,C,cl,ex,M,O,E,Q,P,G,eq_self,true_and]
    .show (l.map _).length<((l++[x]).map _).length;rw[lMq,lMq,lAq,lSq];lia) 100000 (st v0 v1 wild ⟨T,t0,hd,loose,left⟩ v7 v8 v9 v10) ⟨loose,[],by rw[aNq,Z.HR hr],by simp⟩ (by
   show (loose.map _).length<100000;rw[lMq];lia)
 rw[e,z,List.reverse_reverse]
def tw(wild:Bool) (nm cs:Ϝ):Λ:=(cs.foldl (yt wild) (w0 nm)).T.set (cs.foldl (yt wild) (w0 nm)).h ((cs.foldl (yt wild) (w0 nm)).T.getD (cs.foldl (yt wild) (w0 nm)).h []++(cs.foldl (yt wild) (w0 nm)).loose.reverse)
def Tr{nm cs:Ϝ}{wild:Bool}(B:cs.length<=63) (hn:nm.length<=100):vB [dI cs,dI nm,.bl wild]=some (.ow ((tw wild nm cs).map aI))/\(∃left:Ϝ,∀a,(tw wild nm cs).flatten.count a+(wj left).count a=(wj nm).count a)/\K11.zG (tw wild nm cs)/\0<(tw wild nm cs).length/\(tw wild nm cs).length<=64:=by
 obtain⟨u,x,y,l,e⟩:=MD (nm:=nm) (wild:=wild) (v7:=none) (v8:=none) (v9:=none) (v10:=none) B (by lia)
 have ok:=Fd (nm:=nm) (wild:=wild) cs (V8 nm);rw[aU]at ok;unfold tw;generalize cs.foldl (yt wild) (w0 nm)=w at e ok;have s:=ok.len;obtain⟨T,t0,hd,loose,left⟩:=w;obtain⟨hh,ht,lw,lT,lf,cnt,tr⟩:=ok;simp only at hh ht lw lT lf cnt tr s ⊢;have hr:T[hd]?=some (T.getD hd []):=by rw[gDq,gEg hh];rfl
 have t:=NA hr;generalize T.getD hd []=r at hr t;have C:=Px (t0:=t0) (loose:=loose) (left:=left) (wild:=wild) (v0:=some (.sh (dI cs))) (v1:=some (.sh (dI nm))) (v7:=u) (v8:=x) (v9:=y) (v10:=l) hr (by lia)
 have z:ur 7 sY (cs.map D.int) [some (.sh (dI cs)),some (.sh (dI nm)),some (.sh (.bl wild)),some (.ow [.ow []]),some (.ow [.sh (.int 0)]),some (.ow []),some (aI nm),none,none,none,none]=some (.nx (st (some (.sh (dI cs))) (some (.sh (dI nm))) wild ⟨T,t0,hd,loose,left⟩ u x y l)):=e;refine⟨?_,⟨left,λa=>?_⟩,tr.set hr,by rw[lZq];lia,by rw[lZq];lia⟩
 .have E:((nm.map D.int).map AV.sh)=nm.map λn=>AV.sh (.int n):=by rw[mPq];rfl
  simp_arith [vB,EV,dI,E]
  simp -implicitDefEqProofs only [Z.VY,dt,dE,cQ,cT,bW,↓reduceIte,reduceCtorEq,dI]at z;rw[z]
  simp_arith [C]
  simp_arith [st]
 .rw [CI a hr,List.count_reverse,cnt a]
def Em{nm cs:Ϝ}{wild:Bool}(l:cs.length<=63) (hn:nm.length<=100):∃(T:Λ) (left:Ϝ),vB [dI cs,dI nm,.bl wild]=some (.ow (T.map aI))/\(∀a,T.flatten.count a+(wj left).count a=(wj nm).count a)/\K11.zG T/\0<T.length/\T.length<=64:=by
 obtain⟨h1,⟨left,h2⟩,n⟩:=Tr (nm:=nm) (cs:=cs) (wild:=wild) l hn;exact⟨_,left,h1,h2,n⟩
end K31
namespace K31
open PySem L2 Mr Z Xe Zl
def rot(r:Ϝ) (e:Int):Ϝ:=r.drop (r.idxOf e)++r.take (r.idxOf e)
def rot_perm(r:Ϝ) (e:Int):(rot r e).Perm r:=by
 unfold rot;exact eh.trans (by rw[bj])
def rot_len(r:Ϝ) (e:Int):(rot r e).length=r.length:=(rot_perm r e).length_eq
def BY{r:Ϝ}{e:Int}(s:e∈r) (hl:r.length<=500000):uK [dI r,.int e]=some (aI (rot r e)):=by
 have l:r.idxOf e<=r.length:=bH (dN.mpr s);have t:Di (dI r) [.int e]=some (.int (r.idxOf e:Nat)):=by
  show (qT (r.map D.int)).bind _=_;rw[rd];show (if _ then _ else _)=_
  rw[qd s]
 have n:(r.drop (r.idxOf e)).length+(r.take (r.idxOf e)).length<=rH:=by rw[aQ,lTq];show _<=16777216;lia
 simp_arith [uK,Ca,t,zR,BV r _ l,AM r _ l,n,←mBq,DW]
 rfl
def Bm(rs:Λ) (s:List Ϝ×Θ) (o:Int):List Ϝ×Θ:=if plc rs o∈s.2 then s else (s.1++[rot (rs.getD (plc rs o) []) o],s.2++[plc rs o])
def N7(rs:Λ):Nat->Nat->List Ϝ×Θ->List Ϝ×Θ
 |0,_,s=>s
 |f+1,i,s=>if i<s.1.flatten.length then N7 rs f (i+1) (Bm rs s (-(s.1.flatten.getD i 0))) else s
def Cs(rs:Λ) (e:Int):List Ϝ×Θ:=([rot (rs.getD (plc rs e) []) e],[plc rs e])
def rnd(rs:Λ) (e:Int):List Ϝ×Θ:=N7 rs 2000 0 (Cs rs e)
structure RI (rs:Λ) (e:Int) (s:List Ϝ×Θ) (i:Nat):Prop where
 pm:s.1.flatten.Perm (s.2.flatMap λp=>rs.getD p [])
 hd:∃Q,s.1=rot (rs.getD (plc rs e) []) e::Q
 nd:s.2.Nodup
 lt:∀p∈s.2,p<rs.length
 le:i<=s.1.flatten.length
 cl:∀j,j<i->plc rs (-(s.1.flatten.getD j 0))∈s.2
 ln:s.1.length=s.2.length
def PH{a b:Ϝ}{j:Nat}(h:j<a.length):(a++b).getD j 0=a.getD j 0:=by
 rw[gDq,gDq,gZq h]
theorem Jd{g:Nat->Ϝ}:∀{ps l:Θ},ps.Nodup->(∀p∈ps,p∈l)->(ps.flatMap g).length<=(l.flatMap g).length
 | [],l,_,_=>aE _
 |p::ps,l,hn,hs=>by
  have n:=az.mp hn;have s:=List.perm_cons_erase (hs p (by simp))
  have h1:=Jd (g:=g) (l:=l.erase p) n.2 λq r=>(gU (λz:q=p=>n.1 (z ▸ r))).mpr (hs q (by simp[r]))
  rw[(s.flatMap_right g).length_eq,bE,bE,lAq,lAq];lia
def FP(rs:Λ):(bJ rs.length).flatMap (λp=>rs.getD p [])=rs.flatten:=by
 have l:rs=(bJ rs.length).map λp=>rs.getD p []:=by
  refine iH (by simp) λi a b=>?_
  simp[a]
 conv=>rhs;rw[l]
 rfl
def flat_nd{ps:Θ}{rs:Λ}(hn:ps.Nodup) (hl:∀p∈ps,p<rs.length):(ps.flatMap λp=>rs.getD p []).length<=rs.flatten.length:=by
 rw[←FP];exact Jd hn λp l=>cZ.mpr (hl p l)
def RI.few{rs:Λ}{e:Int}{s:List Ϝ×Θ}{i:Nat}(h:RI rs e s i):s.1.flatten.length<=rs.flatten.length:=by
 rw[h.pm.length_eq];exact flat_nd h.nd h.lt
def RI.mem{rs:Λ}(t:Mp rs) {e:Int}{s:List Ϝ×Θ}{i:Nat}(h:RI rs e s i) {x:Int}(l:x∈s.1.flatten):x∈rs.flatten/\plc rs x∈s.2:=by
 obtain⟨p,r,l⟩:=bC.mp (h.pm.mem_iff.mp l);have n:=h.lt p r;have hr:rs[p]?=some rs[p]:=gEg n;rw[gDq,hr,bK]at l;rw[plc_eq t.hn hr l];exact⟨mFq.mpr ⟨_,mGq hr,l⟩,r⟩
def RI.step{rs:Λ}(r:Mp rs) {e:Int}{s:List Ϝ×Θ}{i:Nat}(h:RI rs e s i) (t:i<s.1.flatten.length):RI rs e (Bm rs s (-(s.1.flatten.getD i 0))) (i+1):=by
 have B:s.1.flatten.getD i 0∈s.1.flatten:=by
  rw[gDq,gEg t];exact gRq t
 obtain⟨m1,m2⟩:=h.mem r B;have u:=r.lt (r.hneg _ m1);unfold Bm;split
 .rename_i q;refine⟨h.pm,h.hd,h.nd,h.lt,t,λj C=>?_,h.ln⟩
  by_cases l:j<i
  .exact h.cl j l
  .have:j=i:=by lia
   subst this;exact q
 .rename_i q;obtain⟨Q,E⟩:=h.hd;refine⟨?_,⟨Q++[_],by rw[E];rfl⟩,?_,?_,?_,λj C=>?_,by simp[h.ln]⟩
  .simp only [fAq,aS,dw,gL];exact h.pm.append (rot_perm _ _)
  .exact nAq.mpr ⟨h.nd,by simp,λa ha b y z=>q (by rw[mSq]at y;rw[←y,←z];exact ha)⟩
  .intro p n;rcases mAq.mp n with n|n
   .exact h.lt p n
   .rw [mSq.mp n];exact u
  .simp only [fAq,lAq];lia
  .simp only [fAq,aS];have x:j<s.1.flatten.length:=by lia
   rw[PH x]
   by_cases l:j<i
   .exact cE _ (h.cl j l)
   .have:j=i:=by lia
    subst this;exact ay _ (by simp)
def Iw{rs:Λ}(n:Mp rs) {e:Int}(r:e∈rs.flatten):RI rs e (Cs rs e) 0:=by
 refine⟨?_,⟨[],rfl⟩,by simp[Cs],?_,aE _,λj s=>absurd s (cw _),rfl⟩
 .simp only [Cs,aS,gL];exact rot_perm _ _
 .intro p l;simp only[Cs,mSq]at l;rw[l];exact n.lt r
theorem RM{rs:Λ}(l:Mp rs) {e:Int}:∀(f:Nat) {i:Nat}{s:List Ϝ×Θ},RI rs e s i->rs.flatten.length-i<f->RI rs e (N7 rs f i s) (N7 rs f i s).1.flatten.length
 |0,i,s,h,hf=>absurd hf (cw _)
 |f+1,i,s,h,hf=>by
  unfold N7;split
  .rename_i q;have:=h.few;exact RM l f (h.step l q) (by lia)
  .have:i=s.1.flatten.length:=by have:=h.le;lia
   subst this;exact h
def By{rs:Λ}(l:Mp rs) {e:Int}(n:e∈rs.flatten):RI rs e (rnd rs e) (rnd rs e).1.flatten.length:=RM l 2000 (Iw l n) (by have:=l.hl;lia)
def Qb(Q:Λ):AV:=.ow (Q.map λr=>.sh (dI r))
def Jj(rs:Λ) (e:Int) (s:List Ϝ×Θ) (i:Nat) (v7 v8:Option AV):AS:=[some (.sh (dM rs)),some (.sh (.int e)),some (.owd (qK 0 rs)),some (Qb s.1),some (aI s.1.flatten),some (.owd (kd s.2)),some (.sh (.int (i:Int))),v7,v8]
def G0(Q:Λ):(Q.map λr=>AV.sh (dI r)).map oN=Q.map dI:=by
 rw[mPq];rfl
def XA{ks:Θ}{t:Nat}(h:t∉ks):wI (kd ks) (ar (t:Int)) (.bl true)=kd (ks++[t]):=by
 rw[kd_put2];unfold addN;rw[qh h]
def Lx{rs:Λ}(l:Mp rs) {e:Int}{s:List Ϝ×Θ}{i:Nat}{v7 v8:Option AV}(h:RI rs e s i) (y:i<s.1.flatten.length):∃z B,mb_round_turns_0 (Jj rs e s i v7 v8)=some (.nx (Jj rs e (Bm rs s (-(s.1.flatten.getD i 0))) (i+1) z B)):=by
 have L:s.1.flatten.getD i 0∈s.1.flatten:=by
  rw[gDq,gEg y];exact gRq y
 obtain⟨m1,m2⟩:=h.mem l L;have hn:=l.hneg _ m1;have C:=l.lt hn;have few:=h.few;have hl:=l.hl;have R:=l.hr;have S:=K51.TB _ _ h.nd h.lt;have ln:=h.ln;obtain⟨Q,ps⟩:=s;simp only at y L m1 m2 hn C few S ln h ⊢;have u:atI (Q.flatten.map D.int) (i:Int)=some (.int (Q.flatten.getD i 0)):=wH (by rw[gMq,gDq,gEg y];rfl)
 have M:=oY Q.flatten;generalize U:Q.flatten.getD i 0=x at *;have kv:=l.kv hn;have O:=kd_get ps (plc rs (-x));refine⟨some (.sh (.int (-x))),some (.sh (.int (plc rs (-x):Int))),?_⟩;have P:((i+1:Nat):Int)=(i:Int)+1:=by lia
 unfold Bm
 by_cases q:plc rs (-x)∈ps
 .have t:(Z.getD (kd ps) (ar (plc rs (-x):Int))).isSome=true:=by rw[O];simp[q]
  simp only[q,if_true]
  simp_arith [mb_round_turns_0,Jj,Qb,M,dI,u,kv,t,P]
 .have t:(Z.getD (kd ps) (ar (plc rs (-x):Int))).isSome=false:=by rw[O];simp[q]
  simp only[q,if_false];obtain⟨r,hr,E⟩:=l.at hn;have gr:rs.getD (plc rs (-x)) []=r:=by rw[gDq,hr];rfl
  have rl:=l.row hr;have X:=BY E (by lia)
  have G:atI (rs.map dI) (plc rs (-x):Int)=some (dI r):=wH (by rw[gMq,hr];rfl)
  have Y:=XA q;have kl:(kd ps).length<rH:=by unfold kd;rw[lMq];show _<16777216;lia
  have lQ:Q.length<rH:=by show _<16777216;lia
  have sQ:=G0 Q;have e1:(Q.map λr=>AV.sh (dI r))++[aI (rot r (-x))]=(Q.map λr=>AV.sh (dI r))++[.ow ((rot r (-x)).map λn=>.sh (.int n))]:=rfl
  have s1:((Q.map λr=>AV.sh (dI r))++[aI (rot r (-x))]).map oN=(Q++[rot r (-x)]).map dI:=by
   rw[mBq,sQ,mBq];show _++[oN (aI (rot r (-x)))]=_;rw[oY];rfl
  have H:atI ((Q++[rot r (-x)]).map dI) (-1)=some (dI (rot r (-x))):=by rw[mBq];exact Jo _ _
  have I:=rot_len r (-x);have lE:Q.flatten.length+(rot r (-x)).length<=rH:=by rw[I];show _<=16777216;lia
  have e4:(Q.flatten.map λn=>AV.sh (.int n))++((rot r (-x)).map D.int).map AV.sh=(Q.flatten++rot r (-x)).map λn=>.sh (.int n):=by rw[mBq,mPq];rfl
  have J:(Q.flatten.map λn=>AV.sh (.int n))++((rot r (-x)).map λn=>AV.sh (.int n))=(Q.flatten++rot r (-x)).map λn=>.sh (.int n):=mBq.symm
  have e5:(Q++[rot r (-x)]).flatten=Q.flatten++rot r (-x):=by simp
  have e6:((Q++[rot r (-x)]).map dI).map AV.sh=(Q++[rot r (-x)]).map λr=>AV.sh (dI r):=by rw[mPq];rfl
  have t1:(dI (rot r (-x))) = .list ((rot r (-x)).map D.int):=rfl;rw[gr]
  simp_arith [mb_round_turns_0,Jj,Qb,M,u,kv,t,P,Y,kl,lQ,dM,G,X,s1,H,e6,t1,lE,e4,J,e5]
def L8{rs:Λ}(n:Mp rs) {e:Int}(y:e∈rs.flatten):∃i v7 v8,tO (tK (pR Yz (oq 6) (wb rB (ox (oq 4) oS)))) mb_round_turns_0 100000 (Jj rs e (Cs rs e) 0 none none)=some (.nx (Jj rs e (rnd rs e) i v7 v8)):=by
 have hl:=n.hl;obtain⟨u,z,i,v7,v8,rfl⟩:=Ae (c:=tK (pR Yz (oq 6) (wb rB (ox (oq 4) oS)))) (body:=mb_round_turns_0)
  (λS=>∃s i v7 v8,S=Jj rs e s i v7 v8/\RI rs e s i/\N7 rs (2000-i) i s=rnd rs e)
  (λS=>match S with|[_,_,_,_,_,_,some (.sh (.int i)),_,_]=>2000-i.toNat|_=>0)
  (λu=>∃i v7 v8,u=Jj rs e (rnd rs e) i v7 v8) (by
   rintro S ⟨s,i,v7,v8,rfl,h,l⟩;have few:=h.few;have x:=oY s.1.flatten
   by_cases r:i<s.1.flatten.length
   .have t:(i:Int)<(s.1.flatten.length:Int):=by lia
    obtain⟨B,C,E⟩:=Lx n (v7:=v7) (v8:=v8) h r;refine⟨true,Jj rs e s i v7 v8,?_,λ_=>⟨_,E,⟨_,_,_,_,rfl,h.step n r,?_⟩,?_⟩,λq=>(nomatch q)⟩
    .simp_arith [Jj,x,dI,t]
    .rw [show 2000-i=(2000-(i+1))+1 by lia]at l
     unfold N7 at l;rw[qd r]at l;exact l
    .show 2000-((i+1:Nat):Int).toNat<2000-(i:Int).toNat;lia
   .have t:¬ (i:Int)<(s.1.flatten.length:Int):=by lia
    refine⟨false,Jj rs e s i v7 v8,?_,λq=>(nomatch q),λ_=>⟨i,v7,v8,?_⟩⟩
    .simp_arith [Jj,x,dI,t]
    .have:N7 rs (2000-i) i s=s:=by
      cases 2000-i with
      |zero=>rfl
      |succ f =>
       unfold N7;rw[qh r]
     rw[←l,this]) 100000 (Jj rs e (Cs rs e) 0 none none) ⟨_,_,_,_,rfl,Iw n y,rfl⟩ (by
   show 2000-(0:Int).toNat<100000;lia)
 exact⟨i,v7,v8,z⟩
def E6(Q:Λ):oN (Qb Q)=dM Q:=by
 unfold Qb;rw[sJ,G0]
structure Nm (nm:Ϝ):Prop where
 len:nm.length<=31
 nd:nm.Nodup
 lo:∀x∈nm,1<=x
structure Wm (nm:Ϝ) (T:Λ):Prop where
 cnt:∃left,∀a,T.flatten.count a+(wj left).count a=(wj nm).count a
 tr:K11.zG T
 pos:0<T.length
 len:T.length<=63
def GU{nm:Ϝ}(h:Nm nm):(wj nm).Nodup:=K12.Cc h.nd h.lo
def Nz(l:Ϝ) (a:Int):(wj l).count (-a)=(wj l).count a:=by
 induction l with
 |nil=>rfl
 |cons x l n =>
  rw[E5,E5,n];congr 1;rw[show [x, -x]=[x]++[-x] from rfl,cAq,cAq]
  simp only[List.count_singleton];have r:(x == -a)=(-x == a):=by rw[cu];simp <;> lia
  have s:(-x == -a)=(x == a):=by rw[cu];simp <;> lia
  rw[r,s];lia
def Wm.neg{nm:Ϝ}{T:Λ}(hn:Nm nm) (h:Wm nm T) {z:Int}(n:z∈T.flatten):-z∈T.flatten:=by
 obtain⟨left,l⟩:=h.cnt;have h1:=cY.mpr n;have h2:=dH.mp (GU hn) z;have s:=l z;have r:=l (-z);rw[Nz,Nz]at r;exact cY.mp (by lia)
abbrev gm:=K12.gm
def uE(T:Λ):(gm T).flatten.Perm T.flatten:=(wB (K12.qt T)).trans (vC tG T)
def Ii(T:Λ):(gm T).length=T.length:=by rw[(K12.qt T).length_eq,lMq]
def Dj(rs:Λ):Prop:=∀P:Nat->Prop,(∃s,s<rs.length/\P s)->(∀(p:Nat) (r:Ϝ) (x:Int),rs[p]?=some r->x∈r->P p->P (plc rs (-x)))->∀q,q<rs.length->P q
def Eo{T:Λ}(n:Mp (gm T)) {r:Ϝ}(hr:r∈T):∃p,(gm T)[p]?=some (wc r)/\∀x∈r,plc (gm T) x=p:=by
 have h1:wc r∈gm T:=(K12.qt T).mem_iff.mpr (mMq.mpr ⟨r,hr,rfl⟩);obtain⟨p,l⟩:=ak.mp h1;exact⟨p,l,λx s=>plc_eq n.hn l ((tG r).mem_iff.mpr s)⟩
def Oz{T:Λ}(I:Mp (gm T)) (Q:0<T.length) (tr:K11.zG T):Dj (gm T):=by
 intro P ⟨s,R,ps⟩ U q B
 by_cases h1:T.length=1
 .rw [Ii,h1]at R B;have:q=s:=by lia
  rw[this];exact ps
 have x:∀k,k<T.length->∃z,z∈T.getD k []:=λk hk=>by
  by_cases n:k=0
  .subst n;obtain⟨j,e,C,a,b⟩:=tr 1 (by lia) (by lia)
   have:j=0:=by lia
   subst this;exact⟨e,a⟩
  .obtain ⟨j,e,C,a,b⟩:=tr k (by lia) hk
   exact⟨_,b⟩
 have t:∀k,k<T.length->T.getD k []∈T:=λk hk=>by
  rw[gDq,gEg hk];exact gRq hk
 have ends:∀k,k<T.length->∀z,z∈T.getD k []->z∈(gm T).flatten:=λk hk z l=>(uE T).mem_iff.mpr (mFq.mpr ⟨_,t k hk,l⟩)
 have same:∀k,k<T.length->∀z w,z∈T.getD k []->w∈T.getD k []->P (plc (gm T) z)->P (plc (gm T) w):=λk hk z w l hw H=>by
  obtain⟨p,_,E⟩:=Eo I (t k hk);rw[E w hw];rw[E z l]at H;exact H
 have KY:∀z,z∈(gm T).flatten->P (plc (gm T) z)->P (plc (gm T) (-z)):=λz l H=>by
  obtain⟨r,hr,X⟩:=I.at l;exact U _ r z hr X H
 have G:(∀z,z∈T.getD 0 []->P (plc (gm T) z))->∀k,k<T.length->∀z,z∈T.getD k []->P (plc (gm T) z):=λY k=>by
  induction k using fK with
  |ind k J =>
   intro hk z l
   by_cases n:k=0
   .subst n;exact Y z l
   .obtain ⟨j,e,C,a,b⟩:=tr k (by lia) hk
    exact same k hk _ z b l (KY e (ends j (by lia) e a) (J j C (by lia) e a))
 have up:∀k,k<T.length->(∀z,z∈T.getD k []->P (plc (gm T) z))->∀z,z∈T.getD 0 []->P (plc (gm T) z):=λk=>by
  induction k using fK with
  |ind k J =>
   intro hk l
   by_cases n:k=0
   .subst n;exact l
   .obtain ⟨j,e,C,a,b⟩:=tr k (by lia) hk
    have S:=KY (-e) (ends k hk _ b) (l _ b);rw[eW]at S;exact J j C (by lia) λz y=>same j (by lia) e z a y S
 have u:∀q,q<(gm T).length->∃k,k<T.length/\∃z,z∈T.getD k []/\plc (gm T) z=q:=λq B=>by
  have hr:=gEg B;obtain⟨r,L,e⟩:=mMq.mp ((K12.qt T).mem_iff.mp (gRq B));obtain⟨k,hk,e2⟩:=bV.mp L;have e3:T.getD k []=r:=by rw[gDq,gEg hk,e2];rfl
  obtain⟨z,l⟩:=x k hk;refine⟨k,hk,z,l,plc_eq I.hn hr ?_⟩;rw[←e];exact(tG r).mem_iff.mpr (e3 ▸ l)
 obtain⟨k,hk,z,l,ez⟩:=u s R;have z0:=up k hk λw hw=>same k hk z w l hw (by rw[ez];exact ps)
 obtain⟨k',M,z',y,O⟩:=u q B;have:=G z0 k' M z' y;rw[O]at this;exact this
def N2{rs:Λ}(B:Mp rs) (C:Dj rs) {e:Int}(E:e∈rs.flatten):(rnd rs e).2.Perm (bJ rs.length)/\(rnd rs e).1.flatten.Perm rs.flatten:=by
 have h:=By B E;have all:∀q,q<rs.length->q∈(rnd rs e).2:=C (λp=>p∈(rnd rs e).2) (by
   obtain⟨Q,G⟩:=h.hd;have h1:(rnd rs e).2≠[]:=λz=>by
    have:=h.ln;rw[G,z]at this;simp at this
   obtain⟨p,l,s⟩:=List.exists_cons_of_ne_nil h1;exact⟨p,h.lt p (by rw[s];simp),by rw[s];simp⟩) (λp r x hr H s=>by
   have t:x∈(rnd rs e).1.flatten:=h.pm.mem_iff.mpr (bC.mpr ⟨p,s,by rw[gDq,hr];exact H⟩)
   obtain⟨j,u,I⟩:=bV.mp t;have:=h.cl j u;rw[gDq,gEg u,bK,I]at this;exact this)
 have y:(rnd rs e).2.Perm (bJ rs.length):=by
  rw[dv];intro a
  by_cases ha:a<rs.length
  .have J:=dH.mp h.nd a;have L:=cY.mpr (all a ha);have M:=dH.mp (gw (n:=rs.length)) a;have O:=cY.mpr (cZ.mpr ha);lia
  .rw [fL λz=>ha (h.lt a z),fL λz=>ha (cZ.mp z)]
 refine⟨y,h.pm.trans ((y.flatMap_right _).trans ?_)⟩;rw[FP]
end K31
namespace K31
open PySem L2 Mr Z Xe Zl
open K12 (OU NB)
def NJ(st sh a b:Int) (n:Nat):Ϝ:=(bJ n).map λk:Nat=>OU st sh a b k
def UI{st sh a b:Int}(h1:1<=st) (h2:0<=sh) (k:Nat):1<=OU st sh a b k:=by
 have b1:0<=(a*(k:Int)+b) % 67:=aX _ (by decide)
 have l1:1*1<=st*((a*(k:Int)+b) % 67+1):=Int.mul_le_mul h1 (by lia) (by decide) (by lia)
 show 1<=st*((a*(k:Int)+b) % 67+1)+sh;lia
def Qy{st sh a b:Int}{n:Nat}(hn:n<=31) (h1:1<=st) (h2:0<=sh) (l:1<=a) (r:a<=66):Nm (NJ st sh a b n):=by
 refine⟨by unfold NJ;rw[lMq,bw];lia,?_,λx h=>?_⟩
 .unfold NJ;rw[aG,aF];refine bg.imp_of_mem (λ{x y} hx hy hne e=>hne (NB h1 l r (by have:=cZ.mp hx;lia) (by have:=cZ.mp hy;lia) e)) (aG.mp gw)
 .obtain ⟨k,_,rfl⟩:=mMq.mp h;exact UI h1 h2 k
def MJ{one two st sh a b:Int}{n:Nat}(h:∀k:Nat,tm [.int one,.int two,.int (k:Int)]=some (.sh (.int (OU st sh a b k)))):qY qA (kSc (sN K31.tm (ox (oq 1) (ox (oq 2) (ox (oq 0) oS))))) [some (.sh (.int one)),some (.sh (.int two))] (qc 0 n)=some ((NJ st sh a b n).map λz=>.sh (.int z)):=by
 have key:=qO (te:=kSc (sN K31.tm (ox (oq 1) (ox (oq 2) (ox (oq 0) oS))))) (cap:=[some (.sh (.int one)),some (.sh (.int two))])
  (λd=>match d with|.int k=>.sh (.int (OU st sh a b k))|_=>.sh .non) (ds:=qc 0 n) (by
  intro d hd;rw[vW]at hd;obtain⟨k,_,rfl⟩:=mMq.mp hd;have hk:=h k;refine⟨[some (.sh (.int (k:Int))),some (.sh (.int one)),some (.sh (.int two))],?_⟩
  simp_arith [hk])
 rw[key,vW,mPq];unfold NJ;rw[mPq];rfl
end K31
namespace K33
open PySem L2 Mr Z Xe Zl
def rot_at{u v:Ϝ}{o:Int}(h:o∉u):K31.rot (u++o::v) o=o::v++u:=by
 have e:(u++o::v).idxOf o=u.length:=by
  rw[List.idxOf_append,qh h,fG,aU]
 unfold K31.rot;rw[e,List.drop_left,je]
def SE{a b:Ϝ}{o:Int}(hn:(a++b).Nodup) (r:o∈a++b):K31.rot (b++a) o=K31.rot (a++b) o:=by
 have hd:=(nAq.mp hn).2.2;rcases mAq.mp r with h|h
 .obtain ⟨l,n,rfl,h1⟩:=dB h;have s:o∉b:=λz=>hd o h o z rfl
  rw[show b++(l++o::n)=(b++l)++o::n by simp,show (l++o::n)++b=l++o::(n++b) by simp,rot_at (by simp[s,h1]),rot_at h1]
  simp
 .obtain ⟨b1,b2,rfl,h1⟩:=dB h;have ha:o∉a:=λz=>hd o z o h rfl
  rw[show (b1++o::b2)++a=b1++o::(b2++a) by simp,show a++(b1++o::b2)=(a++b1)++o::b2 by simp,rot_at h1,rot_at (by simp[ha,h1])]
  simp
def Kx{t:Ϝ}(hn:t.Nodup) {o:Int}(l:o∈t):K31.rot (wc t) o=K31.rot t o:=by
 have e:t.take (qN t t.length)++t.drop (qN t t.length)=t:=bj ..;have:=SE (a:=t.take (qN t t.length)) (b:=t.drop (qN t t.length)) (by rw[e];exact hn) (by rw[e];exact l)
 rw[e]at this;exact this
theorem IF{f:Int->Int}:∀{l:Ϝ}{x:Int},(∀y∈l,f y=f x->y=x)->(l.map f).idxOf (f x)=l.idxOf x
 | [],x,_=>rfl
 |y::l,x,h=>by
  rw[ax,fM,fM,IF λz n=>h z (mCo _ n)]
  have e:(f y == f x)=(y == x):=by
   rw[cu];simp only[beq_iff_eq];exact⟨h y (by simp),λq=>by rw[q]⟩
  rw[e]
def T8{f:Int->Int}{t:Ϝ}{o:Int}(h:∀y∈t,f y=f o->y=o):K31.rot (t.map f) (f o)=(K31.rot t o).map f:=by
 unfold K31.rot;rw[IF h,mBq,jj,eN]
structure Qa (f:Int->Int) (E:Ϝ):Prop where
 odd:∀x∈E,f (-x) = -(f x)
 inj:∀x∈E,∀y∈E,f x=f y->x=y
section
variable {f:Int->Int}{R:Λ}
abbrev uU(f:Int->Int) (R:Λ):Λ:=R.map λt=>t.map f
def xf(f:Int->Int) (R:Λ):(uU f R).flatten=R.flatten.map f:=by
 unfold uU;rw[fE]
theorem Lf{f:Int->Int}:∀{E:Ϝ},E.Nodup->(∀x∈E,∀y∈E,f x=f y->x=y)->(E.map f).Nodup
 | [],_,_=>aT
 |x::E,hn,h=>by
  have l:=az.mp hn;rw[ax,az];refine⟨λz=>?_,Lf l.2 λa ha b r=>h a (mCo _ ha) b (mCo _ r)⟩
  obtain⟨y,n,e⟩:=mMq.mp z;have:=h y (mCo _ n) x (by simp) e
  exact l.1 (this ▸ n)
def YF{R:Λ}(hn:R.flatten.Nodup) (hl:R.flatten.length<=63) (hr:R.length<=63) (hneg:∀e∈R.flatten, -e∈R.flatten):Mp (K31.gm R):=by
 have pf:=K31.uE R;exact⟨pf.nodup_iff.mpr hn,by rw[pf.length_eq];exact hl,by rw[K31.Ii];exact hr,λe l=>pf.mem_iff.mpr (hneg e (pf.mem_iff.mp l))⟩
def Mk{R:Λ}(hn:R.flatten.Nodup) {t:Ϝ}(ht:t∈R):t.Nodup:=hn.sublist (aB ht)
def RZ(l:Mp (K31.gm R)) {t:Ϝ}(ht:t∈R) {o:Int}(n:o∈t):(K31.gm R).getD (plc (K31.gm R) o) []=wc t:=by
 obtain⟨p,r,h2⟩:=K31.Eo l ht;rw[h2 o n,gDq,r];rfl
def KZ(n:Mp (K31.gm R)) {t:Ϝ}(ht:t∈R) {x y:Int}(s:x∈t) (u:y∈R.flatten):plc (K31.gm R) y=plc (K31.gm R) x↔y∈t:=by
 obtain⟨p,z,h2⟩:=K31.Eo n ht;refine⟨λh=>?_,λh=>by rw[h2 x s,h2 y h]⟩
 obtain⟨r,hr,l⟩:=n.at ((K31.uE R).mem_iff.mpr u);rw[h,h2 x s,z]at hr;cases hr;exact(tG t).mem_iff.mp l
structure LJ (f:Int->Int) (R:Λ):Prop where
 m1:Mp (K31.gm R)
 m2:Mp (K31.gm (uU f R))
 rn:Qa f R.flatten
 nd:R.flatten.Nodup
def LJ.mem(h:LJ f R) {x:Int}(l:x∈R.flatten):f x∈(uU f R).flatten:=by
 rw[xf];exact mMq.mpr ⟨x,l,rfl⟩
theorem LJ.rot(h:LJ f R) {o:Int}(u:o∈R.flatten):K31.rot ((K31.gm (uU f R)).getD (plc (K31.gm (uU f R)) (f o)) []) (f o)=(K31.rot ((K31.gm R).getD (plc (K31.gm R) o) []) o).map f:=by
 obtain⟨t,ht,l⟩:=mFq.mp u;have s:t.map f∈uU f R:=mMq.mpr ⟨t,ht,rfl⟩;have sub:∀y∈t,y∈R.flatten:=λy r=>mFq.mpr ⟨t,ht,r⟩
 have n:∀y∈t,∀z∈t,f y=f z->y=z:=λy r z x e=>h.rn.inj y (sub y r) z (sub z x) e
 rw[RZ h.m1 ht l,RZ h.m2 s (mMq.mpr ⟨o,l,rfl⟩),Kx (Mk h.nd ht) l,Kx (Lf (Mk h.nd ht) n) (mMq.mpr ⟨o,l,rfl⟩)];exact T8 λy r e=>n y r o l e
theorem LJ.plc(h:LJ f R) {x y:Int}(u:x∈R.flatten) (n:y∈R.flatten):Zl.plc (K31.gm R) y=Zl.plc (K31.gm R) x↔Zl.plc (K31.gm (uU f R)) (f y)=Zl.plc (K31.gm (uU f R)) (f x):=by
 obtain⟨t,ht,l⟩:=mFq.mp u;have r:t.map f∈uU f R:=mMq.mpr ⟨t,ht,rfl⟩;rw[KZ h.m1 ht l n,KZ h.m2 r (mMq.mpr ⟨x,l,rfl⟩) (h.mem n)];refine⟨λq=>mMq.mpr ⟨y,q,rfl⟩,λq=>?_⟩
 obtain⟨z,s,e⟩:=mMq.mp q;rw[←h.rn.inj z (mFq.mpr ⟨t,ht,s⟩) y n e];exact s
def Sim(f:Int->Int) (R:Λ) (s l:List Ϝ×Θ):Prop:=l.1=uU f s.1/\∀x∈R.flatten,Zl.plc (K31.gm R) x∈s.2↔Zl.plc (K31.gm (uU f R)) (f x)∈l.2
def LJ.ini(h:LJ f R) {e:Int}(l:e∈R.flatten):Sim f R (K31.Cs (K31.gm R) e) (K31.Cs (K31.gm (uU f R)) (f e)):=by
 refine⟨?_,λx n=>?_⟩
 .show [_]=_;rw[h.rot l];rfl
 .show _∈[_]↔_∈[_];rw[mSq,mSq];exact h.plc l n
def LJ.step(h:LJ f R) {s l:List Ϝ×Θ}(q:Sim f R s l) {o:Int}(n:o∈R.flatten):Sim f R (K31.Bm (K31.gm R) s o) (K31.Bm (K31.gm (uU f R)) l (f o)):=by
 obtain⟨t,r⟩:=q;unfold K31.Bm
 by_cases c:Zl.plc (K31.gm R) o∈s.2
 .rw [qd c,qd ((r o n).mp c)];exact⟨t,r⟩
 .rw [qh c,qh λz=>c ((r o n).mpr z)]
  refine⟨?_,λx u=>?_⟩
  .show l.1++[_]=uU f (s.1++[_]);rw[h.rot n,t];unfold uU;rw[mBq];rfl
  .show _∈s.2++[_]↔_∈l.2++[_];rw[mAq,mAq,mSq,mSq,r x u,h.plc n u]
theorem LJ.go(h:LJ f R) {e:Int}:∀(n i:Nat) {s l:List Ϝ×Θ},K31.RI (K31.gm R) e s i->Sim f R s l->(K31.N7 (K31.gm (uU f R)) n i l).1=uU f (K31.N7 (K31.gm R) n i s).1
 |0,i,s,l,_,q=>q.1
 |n+1,i,s,l,r,q=>by
  unfold K31.N7;have t:l.1.flatten=s.1.flatten.map f:=by rw[q.1,xf]
  by_cases c:i<s.1.flatten.length
  .have u:i<l.1.flatten.length:=by rw[t,lMq];exact c
   rw[qd c,qd u];have z:s.1.flatten.getD i 0∈s.1.flatten:=by
    rw[gDq,gEg c];exact gRq c
   have x:s.1.flatten.getD i 0∈R.flatten:=(K31.uE R).mem_iff.mp (r.mem h.m1 z).1;have y:-(s.1.flatten.getD i 0)∈R.flatten:=(K31.uE R).mem_iff.mp (h.m1.hneg _ (r.mem h.m1 z).1);have B:-(l.1.flatten.getD i 0)=f (-(s.1.flatten.getD i 0)):=by
    rw[h.rn.odd _ x,t,gDq,gMq,gDq,gEg c];rfl
   rw[B];exact h.go n (i+1) (r.step h.m1 c) (h.step q y)
  .have u:¬ i<l.1.flatten.length:=by rw[t,lMq];exact c
   rw[qh c,qh u];exact q.1
theorem LJ.rnd(h:LJ f R) {e:Int}(l:e∈R.flatten):(K31.rnd (K31.gm (uU f R)) (f e)).1=uU f (K31.rnd (K31.gm R) e).1:=h.go 2000 0 (K31.Iw h.m1 ((K31.uE R).mem_iff.mpr l)) (h.ini l)
def code(Q:Λ):Λ:=Q.map λr=>r.map λx=>(Q.flatten.idxOf (-x):Int)
def RK{Q:Λ}(hr:Qa f Q.flatten) (hneg:∀x∈Q.flatten, -x∈Q.flatten):code (uU f Q)=code Q:=by
 unfold code;rw[xf];unfold uU;rw[mPq];refine mCq λr n=>?_
 show (r.map f).map _=_;rw[mPq];refine mCq λx s=>?_
 have l:x∈Q.flatten:=mFq.mpr ⟨r,n,s⟩;show (((Q.flatten.map f).idxOf (-(f x)):Nat):Int)=_;rw[←hr.odd x l,IF λy t e=>hr.inj y t (-x) (hneg x l) e]
end
abbrev cR(r:Ϝ):D:=.tup (r.map .int)
abbrev cD(c:Λ):D:=.tup (c.map cR)
def E4:Nat->Ϝ->List (pE×D)
 |_,[]=>[]
 |k,x::l=>((ar x:pE),D.int (k:Int))::E4 (k+1) l
theorem KA(x:Int):∀(l:Ϝ) (k:Nat),E4 k (l++[x])=E4 k l++[((ar x:pE),D.int ((k+l.length:Nat):Int))]
 | [],k=>by simp[E4]
 |y::l,k=>by
  show _::E4 (k+1) (l++[x])=(_::E4 (k+1) l)++_;rw[KA x l (k+1),lCq,show k+1+l.length=k+(l.length+1) by lia]
  rfl
theorem EK:∀(l:Ϝ) (k:Nat),(E4 k l).map (·.1)=l.map ar
 | [],k=>rfl
 |y::l,k=>by
  show _::(E4 (k+1) l).map (·.1)=_;rw[EK l (k+1)];rfl
def UB(l:Ϝ) (k:Nat):(E4 k l).length=l.length:=by
 have:=congrArg aZ (EK l k)
 rwa [lMq,lMq]at this
theorem Nc{x:Int}:∀{l:Ϝ}{k:Nat},x∈l->Z.getD (E4 k l) (.inl x)=some (.int ((k+l.idxOf x:Nat):Int))
 | [],k,h=>by cases h
 |y::l,k,h=>by
  unfold Z.getD;show ((((ar y:pE),D.int (k:Int))::E4 (k+1) l).find? _).map _=_
  by_cases c:y=x
  .subst c;rw[bL (by simp),fG]
   rfl
  .rw [bG (by simp[c])]
   have:=Nc (l:=l) (k:=k+1) ((ah.mp h).resolve_left λz=>c z.symm)
   rw[fM,show (y == x)=false by simp[c]]
   show Z.getD (E4 (k+1) l) (.inl x)=_;rw[this];show some (D.int ((k+1+l.idxOf x:Nat):Int))=some (D.int ((k+(l.idxOf x+1):Nat):Int));rw[show k+1+l.idxOf x=k+(l.idxOf x+1) by lia]
def CG{E r:Ϝ}(h:∀x∈r, -x∈E) (hl:r.length<=500000):tP [.dict (E4 0 E),dI r]=some (.sh (cR (r.map λx=>(E.idxOf (-x):Int)))):=by
 have key:qY qA (kSc (tX (oq 1) (Ea xx (oq 0)))) [some (.sh (.dict (E4 0 E)))] (r.map D.int)=some (r.map λx=>.sh (.int (E.idxOf (-x):Int))):=by
  rw[Z.qO λd=>match d with|.int x=>.sh (.int (E.idxOf (-x):Int))|_=>.sh .non]
  .rw [mPq];rfl
  .intro d hd;obtain⟨x,l,rfl⟩:=mMq.mp hd;have g:=Nc (k:=0) (h x l);rw[aU]at g;refine⟨[some (.sh (.int x)),some (.sh (.dict (E4 0 E)))],?_⟩
   simp_arith [g]
 have e:(r.map λx=>AV.sh (.int (E.idxOf (-x):Int))).map oN=(r.map λx=>(E.idxOf (-x):Int)).map D.int:=by
  rw[mPq,mPq];rfl
 have lk:r.length<=rH:=by show _<=16777216;lia
 simp_arith [tP,B2,dI,key,lk,e]
def Fb{Q:Λ}(hn:Q.flatten.Nodup) (hneg:∀x∈Q.flatten, -x∈Q.flatten) (hl:Q.flatten.length<=1000) (I:Q.length<=1000):wV [dM Q]=some (.sh (cD (code Q))):=by
 have to:=Hu (rs:=Q) (by lia)
 have z:=oY Q.flatten;have cl:qY qA (oZ K33.tP (oB (oU 1) (oB (oU 0) pD))) [some (.sh (.dict (E4 0 Q.flatten)))] (Q.map dI)=some (Q.map λr=>.sh (cR (r.map λx=>(Q.flatten.idxOf (-x):Int)))):=by
  rw[Z.qO λd=>match d with|.list l=>(tP [.dict (E4 0 Q.flatten),.list l]).getD (.sh .non)|_=>.sh .non]
  .rw [mPq];refine congrArg some (mCq λr hr=>?_)
   have tc:=CG (E:=Q.flatten) (r:=r) (λx n=>hneg x (mFq.mpr ⟨r,hr,n⟩)) (by have:=bT.length_le (aB hr);lia)
   show (tP [.dict (E4 0 Q.flatten),dI r]).getD (.sh .non)=_;rw[tc];rfl
  .intro d hd;obtain⟨r,hr,rfl⟩:=mMq.mp hd;have tc:=CG (E:=Q.flatten) (r:=r) (λx n=>hneg x (mFq.mpr ⟨r,hr,n⟩)) (by have:=bT.length_le (aB hr);lia)
   refine⟨[some (.sh (dI r)),some (.sh (.dict (E4 0 Q.flatten)))],?_⟩
   simp_arith [tc,bK]
 obtain⟨J,e,t,u,rfl⟩:=Qg (x:=2) (y:=3) (k:=0) (body:=yO) (λi S=>∃t u,S=[some (.sh (dM Q)),some (.owd (E4 0 (Q.flatten.take i))),t,u]) (ds:=Q.flatten.map D.int) (S:=[some (.sh (dM Q)),some (.owd []),none,none]) ⟨none,none,rfl⟩ (by
  rintro i d S hd ⟨t,u,rfl⟩;rw[aU];rw[gMq]at hd;obtain⟨x,n,rfl⟩:=oMq.mp hd;have L:i<Q.flatten.length:=(gSq.mp n).1;have B:(E4 0 (Q.flatten.take i)).length<rH:=by rw[UB,lTq];show _<16777216;lia
  have s:wI (E4 0 (Q.flatten.take i)) (.inl x) (.int (i:Int))=E4 0 (Q.flatten.take (i+1)):=by
   rw[yn]
   .rw [qv n,KA,lTq,dY (by lia),aU]
   .rw [EK];intro m;obtain⟨y,C,G⟩:=mMq.mp m;cases G;have:=hn.sublist (cG (i+1) Q.flatten);rw[qv n]at this;exact(nAq.mp this).2.2 _ C _ (by simp) rfl
  refine⟨_,?_,some (.sh (.int (i:Int))),some (.sh (.int x)),rfl⟩
  simp_arith [yO,B,s])
 rw[lMq,aU,bh]at e;have st:(Q.map λr=>AV.sh (cR (r.map λx=>(Q.flatten.idxOf (-x):Int)))).map oN=(code Q).map cR:=by
  unfold code;rw[mPq,mPq];rfl
 have H:Q.length<=rH:=by show _<=16777216;lia
 simp_arith [wV,Ee,to,z,dI,e,dM,cl,H,st]
theorem ET{rs:Λ}(hn:rs.flatten.Nodup):∀{ps:Θ},ps.Nodup->(∀p∈ps,p<rs.length)->(ps.flatMap λp=>rs.getD p []).Nodup
 | [],_,_=>aT
 |p::ps,hp,hl=>by
  have n:=az.mp hp;have row:∀q,q<rs.length->rs[q]?=some (rs.getD q []):=λq l=>by rw[gDq,gEg l];rfl
  rw[bE,nAq];refine⟨Mk hn (mGq (row p (hl p (by simp)))),ET hn n.2 λq l=>hl q (by simp[l]),λa ha b r e=>?_⟩
  subst e;obtain⟨q,l,r⟩:=bC.mp r;have:=same_place hn (row p (hl p (by simp))) (row q (hl q (by simp[l]))) ha r
  exact n.1 (this ▸ l)
section
variable {rs:Λ}{e:Int}
def WJ(l:Mp rs) (n:e∈rs.flatten):(K31.rnd rs e).1.flatten.Nodup:=by
 have h:=K31.By l n;exact h.pm.nodup_iff.mpr (ET l.hn h.nd h.lt)
def D7(l:Mp rs) (y:e∈rs.flatten):∀x∈(K31.rnd rs e).1.flatten, -x∈(K31.rnd rs e).1.flatten:=λx s=>by
 have h:=K31.By l y;obtain⟨j,t,z⟩:=bV.mp s;have u:=h.cl j t;rw[gDq,gEg t,bK,z]at u;obtain⟨r,hr,n⟩:=l.at (l.hneg x (h.mem l s).1);refine h.pm.mem_iff.mpr (bC.mpr ⟨_,u,?_⟩);rw[gDq,hr];exact n
end
end K33
namespace K51
open PySem L2 Mr Z Xe Zl
def rot(r:Ϝ):Ϝ:=r.drop 1++r.take 1
def sD(r:Ϝ):List (pE×Int):=(r.zip (rot r)).map λp=>(.inl p.1,p.2)
def qQ(rs:Λ):List (pE×Int):=(rs.map sD).flatten
def Bv(ps:List (pE×Int)):List (pE×D):=ps.map λp=>(p.1,D.int p.2)
def rot_len(r:Ϝ):(rot r).length=r.length:=by
 unfold rot;rw[lAq,aQ,lTq];lia
def rot_perm(r:Ϝ):(rot r).Perm r:=by
 unfold rot;refine eh.trans ?_;rw[bj]
def zP(r:Ϝ):(sD r).length=r.length:=by
 unfold sD;rw[lMq,dZ,rot_len,ir]
def CH(r:Ϝ):(sD r).map (·.1)=r.map ar:=by
 unfold sD;rw[mPq];have:r.map ar=((r.zip (rot r)).map Prod.fst).map (ar:Int->pE):=by rw[List.map_fst_zip (by rw[rot_len];exact ab _)]
 rw[this,mPq];rfl
def Hy(r:Ϝ):(sD r).map (·.2)=rot r:=by
 unfold sD;rw[mPq];have:rot r=(r.zip (rot r)).map jq:=by rw[iQ (by rw[rot_len];exact ab _)]
 exact this.symm
theorem ua:∀(rs:Λ),(qQ rs).map (·.1)=rs.flatten.map ar
 | []=>rfl
 |r::rs=>by
  show (sD r++qQ rs).map (·.1)=_;rw[mBq,CH,ua rs,fCq,mBq]
theorem Ey:∀(rs:Λ),((qQ rs).map (·.2)).Perm rs.flatten
 | []=>.nil
 |r::rs=>by
  show ((sD r++qQ rs).map (·.2)).Perm _;rw[mBq,Hy,fCq];exact(rot_perm r).append (Ey rs)
def O6(rs:Λ):(qQ rs).length=rs.flatten.length:=by
 have:=congrArg aZ (ua rs)
 rwa [lMq,lMq]at this
def LY(rs:Λ) (r:Ϝ):qQ (rs++[r])=qQ rs++sD r:=by
 unfold qQ;rw[mBq,fAq];simp
def Vv(ps:List (pE×Int)):(Bv ps).length=ps.length:=lMq _
def U6(a b:List (pE×Int)):Bv (a++b)=Bv a++Bv b:=mBq
def Td(ps:List (pE×Int)):(Bv ps).map (·.1)=ps.map (·.1):=by
 unfold Bv;rw[mPq];rfl
def FC{r:Ϝ}{j:Nat}{z y:Int}(h:r[j]?=some z) (h2:(rot r)[j]?=some y):(sD r)[j]?=some (.inl z,y):=by
 unfold sD;rw[gMq,bN (z:=(z,y)).mpr ⟨h,h2⟩];rfl
def Sz{rs:Λ}{i j:Nat}{r:Ϝ}{z y:Int}(hn:rs.flatten.Nodup) (hr:rs[i]?=some r) (n:r[j]?=some z) (B:(rot r)[j]?=some y) :
  wI (Bv (qQ (rs.take i)++(sD r).take j)) (.inl z) (.int y)=Bv (qQ (rs.take i)++(sD r).take (j+1)):=by
 have s:=rS hr;have l:((rs.take i).flatten++r).Nodup:=by
  rw[←s];have C:rs.flatten=(rs.take (i+1)).flatten++(rs.drop (i+1)).flatten:=by rw[←fAq,bj]
  rw[C]at hn;exact(nAq.mp hn).1
 rw[yn]
 .rw [qv (FC n B),←aV,U6 (_++_) [_]];rfl
 .rw [Td,mBq,ua,eN,CH,←eN];intro m;rcases mAq.mp m with m|m
  .obtain ⟨x,t,u⟩:=mMq.mp m;cases u;exact(nAq.mp l).2.2 _ t _ (mGq n) rfl
  .obtain ⟨x,t,u⟩:=mMq.mp m;cases u;have:=bg.sublist (cG (j+1) r) (nAq.mp l).2.1;rw[qv n]at this;exact(nAq.mp this).2.2 _ t _ (by simp) rfl
def Pq{rs:Λ}{i j:Nat}{r:Ϝ}(hl:rs.flatten.length<=1000) (hr:rs[i]?=some r):(Bv (qQ (rs.take i)++(sD r).take j)).length<rH:=by
 refine HI ?_;have h1:=wo rs (i+1);rw[rS hr,lAq]at h1;rw[Vv,lAq,O6,lTq,zP];lia
end K51
namespace K15
open PySem L2 Mr Z Xe Zl
def zW{ps:List (pE×Int)}{k:pE}{n:Int}(hn:(ps.map (·.1)).Nodup) (h:(k,n)∈ps):Z.getD (K51.Bv ps) k=some (.int n):=by
 induction ps with
 |nil=>cases h
 |cons p ps l =>
  rw[ax,az]at hn;unfold Z.getD;show (((p.1,D.int p.2)::K51.Bv ps).find? _).map _=_;rcases ah.mp h with e|e
  .rw [←e,bL (by simp)]
   rfl
  .rw [bG (by
    intro z;have r:p.1=k:=by simpa using z
    exact hn.1 (by rw[r];exact mMq.mpr ⟨_,e,rfl⟩))]
   exact l hn.2 e
def nx(rs:Λ) (e:Int):Int:=match Z.getD (K51.Bv (K51.qQ rs)) (.inl e) with
 |some (.int n)=>n
 |_=>0
def fw(rs:Λ) (e:Int):Int:=nx rs (-e)
section
variable {rs:Λ}
def ID(hn:rs.flatten.Nodup):((K51.qQ rs).map (·.1)).Nodup:=by
 rw[K51.ua,aG,aF];exact bg.imp (λh e=>h (ar.inj e)) (aG.mp hn)
def Oc(hn:rs.flatten.Nodup) {e:Int}(r:e∈rs.flatten):(ar e,nx rs e)∈K51.qQ rs:=by
 have hk:(ar e:pE)∈(K51.qQ rs).map (·.1):=by rw[K51.ua];exact mMq.mpr ⟨e,r,rfl⟩
 obtain⟨⟨k,n⟩,l,rfl⟩:=mMq.mp hk;have:=zW (ID hn) l;unfold nx;rw[this];exact l
def Sw(hn:rs.flatten.Nodup) {e:Int}(l:e∈rs.flatten):Z.getD (K51.Bv (K51.qQ rs)) (.inl e)=some (.int (nx rs e)):=zW (ID hn) (Oc hn l)
def Yf(hn:rs.flatten.Nodup) {e:Int}(l:e∈rs.flatten):nx rs e∈rs.flatten:=(K51.Ey rs).mem_iff.mp (mMq.mpr ⟨_,Oc hn l,rfl⟩)
def Zk(rs:Λ):(K51.Bv (K51.qQ rs)).map (λp=>kD p.1)=rs.flatten.map D.int:=by
 have:(K51.Bv (K51.qQ rs)).map (λp=>kD p.1)=((K51.qQ rs).map (·.1)).map kD:=by
  unfold K51.Bv;rw[mPq,mPq];rfl
 rw[this,K51.ua,mPq];rfl
end
def kI(ks:Ϝ):List (pE×D):=ks.map λk=>((ar k:pE),D.bl true)
def Qz(ks:Ϝ) (t:Int):(kI ks).any (λkv=>decide (kv.1=(ar t:pE)))=decide (t∈ks):=by
 induction ks with
 |nil=>simp[kI]
 |cons k ks l =>
  unfold kI at l ⊢;rw[ax,eM,l]
  by_cases h:t=k
  .subst h;simp
  .have n:¬ (ar k:pE)=ar t:=λq=>h (ar.inj q).symm
   simp[n,h]
def RE(ks:Ϝ) (t:Int):(Z.getD (kI ks) (ar t)).isSome=decide (t∈ks):=by
 unfold Z.getD;rw[eg,←Qz,cu,gq,fD]
def SC{ks:Ϝ}{t:Int}(h:t∉ks):wI (kI ks) (ar t) (.bl true)=kI (ks++[t]):=by
 unfold wI;rw[Qz,decide_eq_false h,qh (by simp)]
 simp[kI]
def Qq(ks:Ϝ):(kI ks).length=ks.length:=by unfold kI;rw[lMq]
section
variable {rs:Λ}
structure Rd (f:Int->Int) (E:Ϝ) (kn:Ϝ) (L:Λ):Prop where
 cy:∀l∈L,∃e,Cy f e l
 fl:L.flatten=kn
 nd:kn.Nodup
 sub:∀x∈kn,x∈E
 cl:∀x∈kn,f x∈kn
theorem Rd.itr{f:Int->Int}{E kn:Ϝ}{L:Λ}(h:Rd f E kn L) {x:Int}(l:x∈kn):∀n,itr f n x∈kn
 |0=>l
 |n+1=>h.cl _ (h.itr l n)
def Rd.out{f:Int->Int}{E kn:Ϝ}{L:Λ}(h:Rd f E kn L) {e:Int}{l:Ϝ}(c:Cy f e l) (s:e∉kn):∀x∈l,x∉kn:=by
 intro x t hk;obtain⟨j,n⟩:=ak.mp t;have r:=(gSq.mp n).1;rw[c.at r]at n;have u:=aN.inj n;subst u;have:=h.itr hk (l.length-j);rw[←HD,show l.length-j+j=l.length by lia,c.back]at this
 exact s this
def Rd.add{f:Int->Int}{E kn:Ϝ}{L:Λ}(hf:TC f E) (h:Rd f E kn L) {e:Int}{l:Ϝ}(c:Cy f e l) (r:e∈E) (z:e∉kn):Rd f E (kn++l) (L++[l]):=by
 have B:=h.out c z;refine⟨λm C=>?_,by rw[fAq,h.fl,aS],?_,λx s=>?_,λx s=>?_⟩
 .rcases mAq.mp C with q|q
  .exact h.cy m q
  .rw [mSq.mp q];exact⟨e,c⟩
 .rw [nAq];exact⟨h.nd,c.nd,λa ha b G q=>B b G (q ▸ ha)⟩
 .rcases mAq.mp s with q|q
  .exact h.sub x q
  .rw [c.get]at q;obtain⟨n,_,rfl⟩:=mMq.mp q;exact hf.itr_mem r n
 .rcases mAq.mp s with q|q
  .exact mAq.mpr (.inl (h.cl x q))
  .refine mAq.mpr (.inr ?_);obtain⟨j,t⟩:=ak.mp q;have u:=(gSq.mp t).1;rw[c.at u]at t;rw[←aN.inj t];show Zl.itr f (j+1) e∈l
   by_cases y:j+1<l.length
   .exact mGq (c.at y)
   .rw [show j+1=l.length by lia,c.back]
    exact c.self
def Rd.orb{f:Int->Int}{E kn:Ϝ}{L:Λ}(h:Rd f E kn L) (l:∀x∈E,x∈kn):Orb f E L:=⟨h.cy,by rw[h.fl];exact h.nd,λx=>by rw[h.fl];exact⟨h.sub x,l x⟩⟩
end
section
variable {rs:Λ}
def rot_at{r:Ϝ}{j:Nat}(l:j<r.length):(K51.rot r)[j]?=r[(j+1) % r.length]?:=by
 unfold K51.rot
 by_cases h:j+1<r.length
 .rw [gA h,gZq (by rw[aQ];lia),eY,iu]
 .have e:j+1=r.length:=by lia
  rw[e,Nat.mod_self,gYq (by rw[aQ];lia),aQ,eX (by lia)]
  congr 1;lia
def GM(t:Mp rs):yC [dM rs]=some (.owd (K51.Bv (K51.qQ rs))):=by
 have hn:=t.hn;have hl:=t.hl;have key:=uV (x:=2) (body:=yN) (λi S=>∃u l,S=[some (.sh (dM rs)),some (.owd (K51.Bv (K51.qQ (rs.take i)))),u,l]) (ds:=rs.map dI) (S:=[some (.sh (dM rs)),some (.owd []),none,none]) ⟨none,none,rfl⟩ (by
  rintro i d S hd ⟨u,l,rfl⟩;obtain⟨r,hr,rfl⟩:=Iu hd;have E:=t.row hr;have G:=uV (x:=3) (body:=zf) (λj S=>∃l,S=[some (.sh (dM rs)),some (.owd (K51.Bv (K51.qQ (rs.take i)++(K51.sD r).take j))),some (.sh (dI r)),l]) (ds:=qc 0 r.length) (S:=[some (.sh (dM rs)),some (.owd (K51.Bv (K51.qQ (rs.take i)))),some (.sh (dI r)),l]) ⟨l,by simp⟩ (by
   rintro j d S hd ⟨l,rfl⟩;have y:j<r.length:=by
    have:=(gSq.mp hd).1
    rwa [pX]at this
   rw[zh y,gC]at hd;cases hd;have B:r[j]?=some r[j]:=gEg y;have n:(j+1) % r.length<r.length:=hV _ (by lia)
   have H:(K51.rot r)[j]?=some r[(j+1) % r.length]:=by rw[rot_at y];exact gEg n
   have I:=K51.Pq (j:=j) (bq hl (by decide)) hr
   have s:=K51.Sz hn hr B H;have J:atI (r.map D.int) (j:Int)=some (.int r[j]):=wH (by rw[gMq,B];rfl)
   have C:=rW (i:=(j:Int)+1) (j:=(r.length:Int)) (by lia)
   have L:((j:Int)+1) % (r.length:Int)=(((j+1) % r.length:Nat):Int):=by push_cast;rfl
   rw[L]at C;have M:atI (r.map D.int) (((j+1) % r.length:Nat):Int)=some (.int r[(j+1) % r.length]):=wH (by rw[gMq,gEg n];rfl)
   refine⟨_,?_,some (.sh (.int (j:Int))),rfl⟩
   simp_arith [zf,dI,J,C,M,I,s])
  obtain⟨Q,z,O,rfl⟩:=G;rw[pX,←K51.zP,bh]at z;have P:FF [.int (r.length:Int)]=some (qc 0 r.length):=wL (by lia)
  rw[K51.zP]at z;refine⟨_,?_,some (.sh (dI r)),O,rfl⟩;rw[qv hr,K51.LY]
  simp_arith [yN,dI,P,z])
 obtain⟨R,e,u,l,rfl⟩:=key;rw[lMq,bh]at e
 simp_arith [yC,FA,e]
end
end K15
namespace K32
open PySem L2 Mr Z Xe Zl
structure RH (rs:Λ) (Q:Λ):Prop where
 row:∀q∈Q,∃r o,r∈rs/\o∈r/\q=K31.rot r o
 ord:∀i,0<i->i<Q.length->∃t x,t<(Q.take i).flatten.length/\Q.flatten[t]?=some x/\(Q.getD i [])[0]?=some (-x)/\-x∉(Q.take i).flatten/\∀j y,j<t->Q.flatten[j]?=some y->-y∈(Q.take i).flatten
section
variable {rs:Λ}{e:Int}
def QN{r:Ϝ}{o:Int}(l:o∈r):(K31.rot r o)[0]?=some o:=by
 obtain⟨u,v,rfl,h1⟩:=dB l;rw[K33.rot_at h1];rfl
def Mu(l:Mp rs) {o:Int}(n:o∈rs.flatten):rs.getD (plc rs o) []∈rs/\o∈rs.getD (plc rs o) []:=by
 obtain⟨r,hr,h⟩:=l.at n;rw[gDq,hr];exact⟨mGq hr,h⟩
def OQ(Q:Λ) (i:Nat):Q.flatten=(Q.take i).flatten++(Q.drop i).flatten:=by rw[←fAq,bj]
def VA(l:Mp rs) {s:List Ϝ×Θ}{i:Nat}(h:K31.RI rs e s i) {z:Int}(n:z∈rs.flatten) (r:plc rs z∈s.2):z∈s.1.flatten:=h.pm.mem_iff.mpr (bC.mpr ⟨_,r,(Mu l n).2⟩)
def RH.step(l:Mp rs) {s:List Ϝ×Θ}{i:Nat}(h:K31.RI rs e s i) (g:RH rs s.1) (r:i<s.1.flatten.length):RH rs (K31.Bm rs s (-(s.1.flatten.getD i 0))).1:=by
 have H:s.1.flatten.getD i 0∈s.1.flatten:=by
  rw[gDq,gEg r];exact gRq r
 have B:s.1.flatten[i]?=some (s.1.flatten.getD i 0):=by rw[gDq,gEg r];rfl
 obtain⟨m1,m2⟩:=h.mem l H;have hn:=l.hneg _ m1;unfold K31.Bm;split
 .exact g
 .rename_i q;obtain⟨I,E⟩:=Mu l hn;refine⟨λJ u=>?_,λk L hk=>?_⟩
  .rcases mAq.mp u with u|u
   .exact g.row J u
   .rw [mSq.mp u];exact⟨_,_,I,E,rfl⟩
  .simp only [lAq,lSq]at hk;simp only[fAq,aS]
   by_cases c:k<s.1.length
   .obtain ⟨t,x,M,G,O,P,Q⟩:=g.ord k L c;have R:(s.1++[K31.rot (rs.getD (plc rs (-(s.1.flatten.getD i 0))) []) (-(s.1.flatten.getD i 0))]).take k=s.1.take k:=List.take_append_of_le_length (by lia)
    have lt:t<s.1.flatten.length:=(gSq.mp G).1;rw[R];refine⟨t,x,M,by rw[gZq lt];exact G,?_,P,λj y C n=>Q j y C ?_⟩
    .rw [gDq,gZq c,←gDq];exact O
    .rw [gZq (by lia)]at n
     exact n
   .have:k=s.1.length:=by lia
    subst this;rw[je];refine⟨i,_,r,by rw[gZq r];exact B,?_,λz=>q (h.mem l z).2,λj y C n=>?_⟩
    .rw [gDq,gYq (ab _),dr];exact QN E
    .rw [gZq (by lia)]at n
     have S:=(gSq.mp n).1;have:=h.cl j C;rw[gDq,n,bK]at this;exact VA l h (l.hneg _ (h.mem l (mGq n)).1) this
theorem Wq(l:Mp rs):∀(f:Nat) {i:Nat}{s:List Ϝ×Θ},K31.RI rs e s i->RH rs s.1->RH rs (K31.N7 rs f i s).1
 |0,i,s,_,g=>g
 |f+1,i,s,h,g=>by
  unfold K31.N7;split
  .rename_i q;exact Wq l f (h.step l q) (g.step l h q)
  .exact g
def Qr(l:Mp rs) (n:e∈rs.flatten):RH rs (K31.rnd rs e).1:=Wq l 2000 (K31.Iw l n) (by
 obtain⟨s,t⟩:=Mu l n;refine⟨λq r=>?_,λk u hk=>?_⟩
 .rw [show (K31.Cs rs e).1=[K31.rot (rs.getD (plc rs e) []) e] from rfl,mSq]at r
  exact⟨_,_,s,t,r⟩
 .rw [show (K31.Cs rs e).1.length=1 from rfl]at hk
  lia)
def QY(hn:rs.flatten.Nodup) {r:Ϝ}(hr:r∈rs) {j:Nat}{z y:Int}(l:r[j]?=some z) (n:r[(j+1) % r.length]?=some y):K15.nx rs z=y:=by
 have s:=(gSq.mp l).1;have h1:=K51.FC l ((K15.rot_at s).trans n);have h2:(ar z,y)∈K51.qQ rs:=by
  unfold K51.qQ;exact mFq.mpr ⟨_,mMq.mpr ⟨r,hr,rfl⟩,mGq h1⟩
 have t:=K15.zW (K15.ID hn) h2;unfold K15.nx;rw[t]
end
def N8{r:Ϝ}{k j:Nat}(hk:k<r.length) (l:j<r.length):(r.drop k++r.take k)[j]?=r[(k+j) % r.length]?:=by
 by_cases c:k+j<r.length
 .rw [gZq (by rw[aQ];lia),eY,gA c]
 .rw [gYq (by rw[aQ];lia),aQ,eX (by lia)]
  have:(k+j) % r.length=j-(r.length-k):=by
   rw[Nat.mod_eq_sub_mod (by lia),gA (by lia)]
   lia
  rw[this]
def Qn{rs:Λ}(hn:rs.flatten.Nodup) {r:Ϝ}(hr:r∈rs) {o:Int}(t:o∈r) {j:Nat}{z y:Int}(l:(K31.rot r o)[j]?=some z) (n:(K31.rot r o)[(j+1) % (K31.rot r o).length]?=some y):K15.nx rs z=y:=by
 have hl:=K31.rot_len r o;have s:=(gSq.mp l).1;rw[hl]at s n;have hk:r.idxOf o<r.length:=dN.mpr t;have u:0<r.length:=by lia
 unfold K31.rot at l n;rw[N8 hk s]at l;rw[N8 hk (hV _ u)]at n;refine QY hn hr l ?_;have:((r.idxOf o+j) % r.length+1) % r.length=(r.idxOf o+(j+1) % r.length) % r.length:=by
  rw[Nat.mod_add_mod,Nat.add_mod_mod];rfl
 rw[this];exact n
section
variable {rs:Λ}{e:Int}
def Fh{Q:Λ}{i:Nat}{q:Ϝ}(h:Q[i]?=some q):(Q.take (i+1)).flatten=(Q.take i).flatten++q:=rS h
def Et{Q:Λ}{i:Nat}{q:Ϝ}(h:Q[i]?=some q) {k:Nat}(hk:k<q.length):Q.flatten[(Q.take i).flatten.length+k]?=q[k]?:=by
 rw[OQ Q (i+1),Fh h,aV,gYq (by lia),Nat.add_sub_cancel_left,gZq hk]
end
end K32
namespace K16
open PySem L2 Mr Z Xe Zl
def Oi{i j:Int}(h:0<j) (h2:j.natAbs.log2<9000):Qx (.int i) (.int j)=some (.int (i / j)):=vQ ⟨h,h2⟩ _
def V5:Jh (.int 10) (.int 57)=some (.int (10 ^ 57)):=by simp_arith []
def pm(l:Ϝ):Ϝ:=l.flatMap λx=>[x, -x]
def NW(l:Ϝ) (x:Int):pm (l++[x])=pm l++[x, -x]:=by unfold pm;rw[dw];simp
def Hw(l:Ϝ):(pm l).length=2*l.length:=by
 unfold pm
 induction l with
 |nil=>rfl
 |cons a l n =>
  rw[bE,lAq,n,lCq (as:=l)];show 2+_=_;lia
def Qv{l:Ϝ}{z:Int}(h:z∈pm l):-z∈pm l:=by
 unfold pm at h ⊢;rw[bC]at h ⊢;obtain⟨x,n,r⟩:=h;refine⟨x,n,?_⟩;rcases ah.mp r with e|e
 .rw [e];simp
 .rw [mSq.mp e,eW];simp
def kvI(M:List (Int×Int)):List (pE×D):=M.map λp=>(.inl p.1,.int p.2)
def M3(M:List (Int×Int)):kvI M=K51.Bv (M.map λp=>((ar p.1:pE),p.2)):=by unfold kvI K51.Bv;rw[mPq];rfl
def K8{M:List (Int×Int)}{z x:Int}(h:z∉M.map (·.1)):wI (kvI M) (.inl z) (.int x)=kvI (M++[(z,x)]):=by
 rw[yn]
 .unfold kvI;rw[mBq];rfl
 .intro m;obtain⟨p,l,n⟩:=mMq.mp m;obtain⟨q,r,rfl⟩:=mMq.mp l;exact h (mMq.mpr ⟨q,r,ar.inj n⟩)
theorem De{α β:Type}(f:α->β):∀(l:List α) (k:Nat),(l.map f).eraseIdx k=(l.eraseIdx k).map f
 | [],_=>rfl
 |a::l,0=>rfl
 |a::l,k+1=>by
  rw[ax,bS,bS,ax,De f l k]
end K16
namespace K34
open PySem L2 Mr Z Xe Zl
section
variable {rs:Λ}
def aa9(h:Mp rs):K51.Mp rs:=⟨h.hn,h.hl,h.hr,h.hneg⟩
end
def Pj(cs:List Λ):((cs.map dC).map AV.sh).map oN=cs.map dC:=by
 rw[mPq,mPq];exact mCq λ_ _=>rfl
end K34
namespace K39
open PySem L2 Mr Z Xe Zl
structure Au (G:Λ) (f:Int->Int):Prop where
 mem:∀x∈G.flatten,f x∈G.flatten
 odd:∀x∈G.flatten,f (-x) = -(f x)
 nx:∀x∈G.flatten,f (K15.nx G x)=K15.nx G (f x)
section
variable {G:Λ}
def Mf{Q R:Λ}(h:Q.map aZ=R.map aZ) (a:Nat):(Q.take a).flatten.length=(R.take a).flatten.length:=by
 rw[eV,eV,eN,eN,h]
def code_flat(Q:Λ):(K33.code Q).flatten=Q.flatten.map λx=>(Q.flatten.idxOf (-x):Int):=by
 unfold K33.code;rw[fE]
def Fm(Q:Λ):(K33.code Q).map aZ=Q.map aZ:=by
 unfold K33.code;rw[mPq];exact mCq λr _=>lMq ..
theorem FW:∀{l:Ϝ}{i:Nat}{x:Int},l.Nodup->l[i]?=some x->l.idxOf x=i
 | [],i,x,_,h=>by cases h
 |a::l,0,x,_,h=>by cases h;exact fG
 |a::l,i+1,x,n,h=>by
  have h:l[i]?=some x:=by simpa using h
  have n:=az.mp n;have ne:a≠x:=λz=>n.1 (z ▸ mGq h)
  rw[fM,beq_false_of_ne ne,FW n.2 h];rfl
def LK{l:Ϝ}{x:Int}(h:x∈l):l[l.idxOf x]?=some x:=by
 have hl:=List.idxOf_lt_length_of_mem h;rw[gEg hl];exact congrArg some (gc hl)
end
def Ok(G:Λ) (s e:Int):Prop:=∃f,Au G f/\f s=e
def okB(G:Λ) (s e:Int):Bool:=@decide (Ok G s e) (dq _)
def af(G:Λ) (s e:Int):Int->Int:=@dite _ (Ok G s e) (dq _) (λh=>Classical.choose h) λ_=>id
def rwA(G:Λ) (s e:Int):Λ:=Do (G.flatten.map λx=>[x,af G s e x])
def auL(G:Λ) (s:Int) (E:Ϝ):List Λ:=(E.filter (okB G s)).map (rwA G s)
end K39
namespace K51
open PySem L2 Mr Z Xe Zl
structure Od (i:Nat) (PS:List Θ):Prop where
 pw:PS.Pairwise λa b=>∃s∈a,∀y∈b,s<y
 lo:∀a∈PS,∃s∈a,s<i
def Od.mono{i j:Nat}{PS:List Θ}(h:Od i PS) (l:i<=j):Od j PS:=⟨h.pw,λa ha=>by
 obtain⟨s,h1,h2⟩:=h.lo a ha;exact⟨s,h1,by lia⟩⟩
def Od.add{i:Nat}{PS:List Θ}(h:Od i PS) {ps:Θ}(n:i∈ps) (r:∀y∈ps,i<=y):Od (i+1) (PS++[ps]):=by
 refine⟨fF.mpr ⟨h.pw,dR ..,λa ha b t=>?_⟩,λa ha=>?_⟩
 .rw [mSq.mp t];obtain⟨s,h1,h2⟩:=h.lo a ha;exact⟨s,h1,λy l=>by have:=r y l;lia⟩
 .rcases mAq.mp ha with q|q
  .obtain ⟨s,h1,h2⟩:=h.lo a q;exact⟨s,h1,by lia⟩
  .rw [mSq.mp q];exact⟨i,n,by lia⟩
def Mq{rs:Λ}(E:Mp rs):∃kn PS,Ps rs rs.length kn PS/\Od rs.length PS/\tV [dM rs]=some (.ow (PS.map (pA rs))):=by
 have I:=E.hr;have key:=uV (x:=3) (body:=uc) (λi S=>∃kn PS J G z,S=[some (.sh (dM rs)),some (.owd (kd kn)),some (.ow (PS.map (pA rs))),J,G,z]/\Ps rs i kn PS/\Od i PS) (ds:=qc 0 rs.length) (S:=[some (.sh (dM rs)),some (.owd []),some (.ow []),none,none,none])
  ⟨[],[],none,none,none,rfl,⟨by simp,by simp,by simp,by simp,by simp,by simp,by simp,by simp⟩,⟨bg.nil,λa ha=>(by cases ha)⟩⟩ (by
  rintro i d S hd ⟨kn,PS,J,G,z,rfl,l,B⟩;have L:i<rs.length:=by
   have:=(gSq.mp hd).1
   rwa [pX]at this
  rw[zh L,gC]at hd;cases hd;have H:=kd_get kn i
  by_cases c:i∈kn
  .rw [decide_eq_true c]at H;refine⟨[some (.sh (dM rs)),some (.owd (kd kn)),some (.ow (PS.map (pA rs))),some (.sh (.int (i:Int))),G,z],?_,kn,PS,_,_,_,rfl,⟨l.sub,l.dj,l.pc,?_,l.mem,l.nd,l.lt,?_⟩,B.mono (bz _)⟩
   .simp_arith [uc,H]
   .intro k hk;rcases cz.mp hk with q|rfl
    .exact l.all k q
    .exact c
   .have:=l.len;lia
  .rw [decide_eq_false c]at H;obtain⟨ps,h1,O⟩:=EA E L;have p1:=TB _ _ l.nd l.lt;have p2:=TB _ _ h1.nd h1.lt;have p3:=l.len;have l2:ps.length<=rH:=by show _<=16777216;lia
   have P:PS.length<rH:=by show _<16777216;lia
   obtain⟨M,Q⟩:=GG (ps:=ps) (kn:=kn) (v0:=some (.sh (dM rs))) (v2:=some (.ow (PS.map (pA rs)))) (v3:=some (.sh (.int (i:Int)))) (v4:=some (.sh (dI (ps.map λk:Nat=>(k:Int))))) (v5:=z) (by lia)
   have R:=Fg h1.lt;refine⟨[some (.sh (dM rs)),some (.owd (kd (ps.foldl addN kn))),some (.ow ((PS++[ps]).map (pA rs))),some (.sh (.int (i:Int))),some (.sh (dI (ps.map λk:Nat=>(k:Int)))),M],?_,ps.foldl addN kn,PS++[ps],_,_,_,rfl,⟨?_,?_,?_,?_,?_,Ih l.nd,?_,?_⟩,B.add ((h1.iff i).mpr .base) (λy U=>?_)⟩
   .simp_arith [uc,H,O,Q,R,l2,P,mBq,pA]
   .intro r t k hk;rcases mAq.mp t with q|q
    .exact sU.mpr (.inl (l.sub r q k hk))
    .rw [mSq.mp q]at hk;exact sU.mpr (.inr hk)
   .rw [fF];refine⟨l.dj,dR ..,λr t b X k hk u=>c ?_⟩
    rw[mSq.mp X]at u;obtain⟨s,Y,C⟩:=l.pc r t;exact l.sub r t i ((C.iff i).mpr (((C.iff k).mp hk).trans (((h1.iff k).mp u).symm E)))
   .intro r t;rcases mAq.mp t with q|q
    .exact l.pc r q
    .rw [mSq.mp q];exact⟨i,L,h1⟩
   .intro k hk;rcases cz.mp hk with q|rfl
    .exact sU.mpr (.inl (l.all k q))
    .exact sU.mpr (.inr ((h1.iff k).mpr .base))
   .intro k hk;rcases sU.mp hk with q|q
    .obtain ⟨r,a,b⟩:=l.mem k q;exact⟨r,mAq.mpr (.inl a),b⟩
    .exact ⟨ps,mAq.mpr (.inr (mSq.mpr rfl)),q⟩
   .intro k hk;rcases sU.mp hk with q|q
    .exact l.lt k q
    .exact h1.lt k q
   .rw [lAq,lSq];lia
   .refine eF λq=>c ?_
    obtain⟨r,t,u⟩:=l.mem y (l.all y q);obtain⟨s,Y,C⟩:=l.pc r t;exact l.sub r t i ((C.iff i).mpr (((C.iff y).mp u).trans (((h1.iff y).mp U).symm E))))
 obtain⟨S',e,kn,PS,J,G,z,rfl,l,B⟩:=key;rw[pX]at l B;have r1:=wL (n:=rs.length) (by lia)
 refine⟨kn,PS,l,B,?_⟩
 simp_arith [tV,Dr,dM,r1,e]
end K51
namespace K11
open PySem L2 Mr Z Xe Zl K12
structure Pm (P:List Λ):Prop where
 nd:P.flatten.flatten.Nodup
 mp:K51.Mp (gm P.flatten)
def AU{p:Λ}(h:Cn p) (r:[]∈p) (hn:p.flatten.Nodup):p=[[]]:=by
 obtain⟨k,hk⟩:=ak.mp r;have n:=(gSq.mp hk).1;have l:p.getD k []=[]:=by rw[gDq,hk];rfl
 have t:k=0:=by
  by_cases q:0<k
  .obtain ⟨j,e,_,_,s⟩:=h.tr k q n;rw[l]at s;cases s
  .lia
 subst t
 by_cases q:1<p.length
 .obtain ⟨j,e,h1,h2,_⟩:=h.tr 1 (by lia) q
  have:j=0:=by lia
  rw[this,l]at h2;cases h2
 .cases p with
  |nil=>cases r
  |cons a p =>
   cases p with
   |nil =>
    have:a=[]:=aN.inj hk;rw[this]
   |cons b p=>exact absurd (show 1<(a::b::p).length by simp) q
theorem M0:∀{L:Λ},L.flatten.Nodup->(∀l∈L,l≠[])->L.Nodup
 | [],_,_=>aT
 |a::L,h,hne=>by
  rw[fCq,nAq]at h;refine az.mpr ⟨λm=>?_,M0 h.2.1 λl hl=>hne l (mCo _ hl)⟩
  cases a with
  |nil=>exact hne [] (ai ..) rfl
  |cons x a=>exact h.2.2 x (ai ..) x (mFq.mpr ⟨_,m,ai ..⟩) rfl
section
variable {P:List Λ}
def CK(h:Pm P) {p:Λ}(l:p∈P):p.flatten.Nodup:=by
 have:=h.nd;rw[fH]at this;exact bg.sublist (aB (mMq.mpr ⟨p,l,rfl⟩)) this
theorem KD:∀{P:List Λ},P.flatten.flatten.Nodup->∀{p q:Λ}{e:Int},p∈P->q∈P->e∈p.flatten->e∈q.flatten->p=q
 | [],_,p,q,e,u,_,_,_=>by cases u
 |a::P,h,p,q,e,u,y,h1,h2=>by
  rw[fCq,fAq,nAq]at h;have s:∀{r:Λ},r∈P->e∈r.flatten->e∈P.flatten.flatten:=λ{r} hr hr'=>by
   obtain⟨l,hl,x⟩:=mFq.mp hr';exact mFq.mpr ⟨l,mFq.mpr ⟨r,hr,hl⟩,x⟩
  rcases ah.mp u with t|t
  .rcases ah.mp y with n|n
   .rw [t,n]
   .rw [t]at h1;exact absurd rfl (h.2.2 e h1 e (s n h2))
  .rcases ah.mp y with n|n
   .rw [n]at h2;exact absurd rfl (h.2.2 e h2 e (s t h1))
   .exact KD h.2.1 t n h1 h2
def LR(h:Pm P) {p:Λ}(l:p∈P) {r:Ϝ}(hr:r∈p):wc r∈gm P.flatten:=(qt _).mem_iff.mpr (mMq.mpr ⟨r,mFq.mpr ⟨p,l,hr⟩,rfl⟩)
def xF(h:Pm P) {p:Λ}(s:p∈P) {r:Ϝ}(hr:r∈p) {e:Int}(t:e∈r):(gm P.flatten)[plc (gm P.flatten) e]?=some (wc r)/\∀k,(gm P.flatten)[k]?=some (wc r)->k=plc (gm P.flatten) e:=by
 have mp:=h.mp;have n:e∈wc r:=(tG r).mem_iff.mpr t;obtain⟨k,hk⟩:=ak.mp (LR h s hr);have u:=K51.plc_eq mp.hn hk n;refine⟨by rw[show plc (gm P.flatten) e=k from u];exact hk,λx l=>?_⟩
 exact(K51.plc_eq mp.hn l n).symm
def getD_mem{p:Λ}{k:Nat}{e:Int}(h:e∈p.getD k []):p.getD k []∈p:=by
 rw[gDq]at h ⊢;cases q:p[k]? with
 |none=>rw[q]at h;cases h
 |some r=>exact mGq q
def Jy(h:Pm P) {p:Λ}(s:p∈P) (z:Cn p) {x:Int}(B:x∈p.getD 0 []):∀k,k<p.length->∀e,e∈p.getD k []->K51.IS (gm P.flatten) (plc (gm P.flatten) x) (plc (gm P.flatten) e):=by
 intro k
 induction k using fK with
 |_ k C =>
  intro hk e y;have same:∀{l t:Int}{k:Nat},l∈p.getD k []->t∈p.getD k []->plc (gm P.flatten) l=plc (gm P.flatten) t:=λ{l t k} q1 q2=>(xF h s (getD_mem q2) q2).2 _ (xF h s (getD_mem q1) q1).1
  by_cases q:0<k
  .obtain ⟨j,u,h1,h2,E⟩:=z.tr k q hk;have r:=C j h1 (by lia) u h2
   have n:=(xF h s (getD_mem h2) h2).1;have st:=K51.IS.step r n ((tG _).mem_iff.mpr h2);have l:K51.plc (gm P.flatten) (-u)=plc (gm P.flatten) (-u):=rfl;rw[l,same E y]at st;exact st
  .have:k=0:=by lia
   subst this;rw[same B y];exact .base
def Lk(h:Pm P) (hc:∀p∈P,Cn p) {s:Nat}{ps:Θ}(hs:s<(gm P.flatten).length) (pc:K51.Pc (gm P.flatten) s ps):∃p∈P,(ps.map λk=>(gm P.flatten).getD k [])=gm p:=by
 have mp:=h.mp;obtain⟨ρ,t⟩:∃ρ,(gm P.flatten)[s]?=some ρ:=⟨_,gEg hs⟩;obtain⟨r0,R,O⟩:=mMq.mp ((qt _).mem_iff.mp (mGq t));obtain⟨p,u,n⟩:=mFq.mp R;refine⟨p,u,?_⟩;have cn:=hc p u;have pn:=CK h u
 by_cases hb:([]:Ϝ)∈p
 .have ep:=AU cn hb pn;rw[ep]at n;rw[mSq.mp n,Kq]at O;subst O;have only:∀k,K51.IS (gm P.flatten) s k->k=s:=λk hk=>by
   induction hk with
   |base=>rfl
   |step _ a b S =>
    rw[S,t]at a;cases a;cases b
  have U:ps=[s]:=by
   have m:s∈ps:=(pc.iff s).mpr .base;have all:∀k∈ps,k=s:=λk hk=>only k ((pc.iff k).mp hk)
   have nd:=pc.nd
   match ps,m,all,nd with
   | [a],m,all,_=>rw[all a (by simp)]
   |a::b::l,m,all,nd=>exact absurd ((all a (by simp)).trans (all b (by simp)).symm) (λz=>(az.mp nd).1 (by rw[z];simp))
  have g1:gm [[]]=[[]]:=by
   have:(gm [[]]).Perm [[]]:=qt [[]];exact hW.mp this
  rw[U,ep,g1];show [(gm P.flatten).getD s []]=[[]];rw[gDq,t];rfl
 .have B:∀r∈p,r≠[]:=λr hr z=>hb (z ▸ hr)
  have key:∀k,k∈ps↔∃r∈p,(gm P.flatten)[k]?=some (wc r):=λk=>by
   rw[pc.iff k];constructor
   .intro hk
    induction hk with
    |base=>exact⟨r0,n,by rw[t,O]⟩
    | @step k r e _ a b S =>
     obtain⟨Q,H,C⟩:=S;rw[a]at C;cases C;have h1:e∈p.flatten:=mFq.mpr ⟨Q,H,(tG Q).mem_iff.mp b⟩;obtain⟨r2,I,X⟩:=mFq.mp (cn.clo e h1);exact⟨r2,I,(xF h u I X).1⟩
   .rintro ⟨r,hr,G⟩;obtain⟨j0,J⟩:=ak.mp n;obtain⟨j,hj⟩:=ak.mp hr;have E:p.getD 0 []∈p:=by
     cases Y:p with
     |nil=>exact absurd Y cn.ne
     |cons a l=>simp
    obtain⟨eR,hR⟩:=dF _ (B _ E);obtain⟨x0,L⟩:=dF _ (B _ n);obtain⟨x,M⟩:=dF _ (B _ hr);have d0:p.getD j0 []=r0:=by rw[gDq,J];rfl
    have d1:p.getD j []=r:=by rw[gDq,hj];rfl
    have t0:=Jy h u cn hR j0 (gSq.mp J).1 x0 (by rw[d0];exact L)
    have t1:=Jy h u cn hR j (gSq.mp hj).1 x (by rw[d1];exact M)
    have s0:s=plc (gm P.flatten) x0:=(xF h u n L).2 s (by rw[t,O])
    have k0:k=plc (gm P.flatten) x:=(xF h u hr M).2 k G;rw[s0,k0];exact(t0.symm mp).trans t1
  refine Bx ?_ ?_
  .refine (eK ?_ ?_).mpr λy=>?_
   .rw [aG,aF];refine bg.imp_of_mem (λ{a b} ha hb' hab q=>?_) (aG.mp pc.nd)
    obtain⟨r,hr,G⟩:=(key a).mp ha;obtain⟨Q,H,C⟩:=(key b).mp hb';rw[gDq,gDq,G,C]at q;have q':wc r=wc Q:=q;obtain⟨x,M⟩:=dF _ (B r hr);exact hab (((xF h u hr M).2 a G).trans ((xF h u hr M).2 b (by rw[C,q'])).symm)
   .refine M0 ?_ λl hl=>?_
    .exact (vC tG p).nodup_iff.mpr pn
    .obtain ⟨r,hr,rfl⟩:=mMq.mp hl;intro z;have:=congrArg aZ z;rw[DG]at this;exact B r hr (aY.mp this)
   .rw [mMq,mMq];constructor
    .rintro ⟨k,hk,rfl⟩;obtain⟨r,hr,G⟩:=(key k).mp hk;exact⟨r,hr,by rw[gDq,G];rfl⟩
    .rintro ⟨r,hr,rfl⟩;obtain⟨k,hk⟩:=ak.mp (LR h u hr);exact⟨k,(key k).mpr ⟨r,hr,hk⟩,by rw[gDq,hk];rfl⟩
  .rw [aF];have so:=bg.and pc.so (aG.mp pc.nd);refine bg.imp_of_mem (λ{a b} ha hb' hab=>?_) so
   have hlt:a<b:=Nat.lt_of_le_of_ne hab.1 hab.2;have la:=pc.lt a ha;have lb:=pc.lt b hb';have:=bZ.mp (vz (P.flatten.map wc)) a b la lb hlt;rw[gDq,gDq,gEg la,gEg lb];exact this
end
theorem Ez{ρ:Ϝ}{m:Λ}:∀{f:List Λ},(∀l∈f,ρ∈l->l=m)->f.flatten.count ρ=f.count m*m.count ρ
 | [],_=>by simp
 |a::f,h=>by
  have n:=Ez (f:=f) λl r=>h l (mCo _ r)
  rw[fCq,cAq,n]
  by_cases q:a=m
  .rw [q,List.count_cons_self,Nat.add_mul,Nat.one_mul,iu]
  .rw [List.count_cons_of_ne q];have:a.count ρ=0:=gg.mpr λz=>q (h a (ai ..) z)
   lia
def ZF{p:Λ}(h:Cn p):∃ρ,ρ∈gm p:=by
 cases n:p with
 |nil=>exact absurd n h.ne
 |cons a l=>exact⟨wc a,(qt _).mem_iff.mpr (mMq.mpr ⟨a,by simp,rfl⟩)⟩
def MR{P:List Λ}(h:Pm P) (y:∀p∈P,Cn p) {p q:Λ}(l:p∈P) (n:q∈P) {ρ:Ϝ}(h1:ρ∈gm p) (h2:ρ∈gm q):gm p=gm q:=by
 obtain⟨r,hr,s⟩:=mMq.mp ((qt _).mem_iff.mp h1);obtain⟨t,ht,z⟩:=mMq.mp ((qt _).mem_iff.mp h2);cases r with
 |nil =>
  rw[Kq]at s;have:t=[]:=by
   have:=congrArg aZ z;rw[DG,←s]at this;exact aY.mp this
  rw[AU (y p l) hr (CK h l),AU (y q n) (this ▸ ht) (CK h n)]
 |cons x r =>
  have B:x∈wc (x::r):=(tG _).mem_iff.mpr (by simp)
  rw[s,←z]at B;have u:x∈t:=(tG t).mem_iff.mp B;rw[KD h.nd l n (mFq.mpr ⟨_,hr,by simp⟩) (mFq.mpr ⟨t,ht,u⟩)]
def Kd{P:List Λ}(h:Pm P) (G:∀p∈P,Cn p):∃PS:List Θ,K51.tV [dM (gm P.flatten)]=some (.ow (PS.map (K51.pA (gm P.flatten))))/\(PS.map λps=>ps.map λk=>(gm P.flatten).getD k [])=zH (P.map gm):=by
 obtain⟨kn,PS,L,ho,e⟩:=K51.Mq (h.mp);refine⟨PS,e,?_⟩;have M:∀ps∈PS,∃p∈P,(ps.map λk=>(gm P.flatten).getD k [])=gm p:=λps x=>by
  obtain⟨s,u,pc⟩:=L.pc ps x;exact Lk h G u pc
 refine D5 ?_ ?_
 .rw [dv];intro m;have O:(PS.map λps=>ps.map λk=>(gm P.flatten).getD k []).flatten.Perm (P.map gm).flatten:=((Jm L).trans (qt _)).trans (WK (.refl _)).symm
  have all1:∀r∈(PS.map λps=>ps.map λk=>(gm P.flatten).getD k []),∃p∈P,r=gm p:=λr y=>by
   obtain⟨ps,x,rfl⟩:=mMq.mp y;exact M ps x
  have all2:∀r∈P.map gm,∃p∈P,r=gm p:=λr y=>by
   obtain⟨p,Q,rfl⟩:=mMq.mp y;exact⟨p,Q,rfl⟩
  by_cases q:∃p∈P,m=gm p
  .obtain ⟨p,l,rfl⟩:=q;obtain⟨ρ,B⟩:=ZF (G p l);have U:=Ez (ρ:=ρ) (m:=gm p) (f:=PS.map λps=>ps.map λk=>(gm P.flatten).getD k []) λr y n=>by
    obtain⟨q,R,rfl⟩:=all1 r y;exact MR h G R l n B
   have c2:=Ez (ρ:=ρ) (m:=gm p) (f:=P.map gm) λr y n=>by
    obtain⟨q,R,rfl⟩:=all2 r y;exact MR h G R l n B
   rw[O.count_eq,c2]at U;exact(Nat.eq_of_mul_eq_mul_right (cY.mpr B) U).symm
  .rw [gg.mpr λz=>q (all1 m z),gg.mpr λz=>q (all2 m z)]
 .rw [aF];refine bg.imp_of_mem (λ{a b} ha E C=>?_) ho.pw
  obtain⟨s,u,t⟩:=C;obtain⟨s1,_,H⟩:=L.pc a ha;obtain⟨s2,_,I⟩:=L.pc b E
  match a,b,ha,E,u,t,H,I with
  |a0::as,b0::bs,ha,E,u,t,H,I =>
   have h0:a0<=s:=by
    rcases ah.mp u with z|z
    .lia
    .exact (cX.mp H.so).1 s z
   have C:a0<b0:=by have:=t b0 (by simp);lia
   have X:=H.lt a0 (by simp)
   have Y:=I.lt b0 (by simp)
   have S:=bZ.mp (vz (P.flatten.map wc)) a0 b0 X Y C;have ea:(gm P.flatten).getD a0 []=(gm P.flatten)[a0]:=by rw[gDq,gEg X];rfl
   have eb:(gm P.flatten).getD b0 []=(gm P.flatten)[b0]:=by rw[gDq,gEg Y];rfl
   by_cases q:(gm P.flatten).getD b0 []=(gm P.flatten).getD a0 []
   .obtain ⟨p,l,e1⟩:=M _ ha;obtain⟨p',J,e2⟩:=M _ E;have m1:(gm P.flatten).getD a0 []∈gm p:=by rw[←e1];simp
    have m2:(gm P.flatten).getD a0 []∈gm p':=by rw[←e2,←q];simp
    rw[e1,e2,MR h G l J m1 m2];exact HT.vT _
   .rw [ax,ax,HT.qf,qh q,ea,eb];exact S
  | [],b,ha,E,u,_,_,_=>cases u
  |a0::as,[],ha,E,u,t,H,I =>
   have:=(I.iff s2).mpr .base;cases this
end K11
namespace K35
open PySem PySem.Spec PyProof.Rows L2 Mr Z Xe Zl
open K12 (gm qt)
theorem Lc:∀{ds:List D}{ps:List PyData},ds.length=ps.length->(∀(i:Nat) (d:D) (p:PyData),ds[i]?=some d->ps[i]?=some p->py d=some p)->K9 ds=some ps
 | [],[],_,_=>by simp[K9]
 |d::ds,p::ps,l,h=>by
  have n:=h 0 d p rfl rfl;have r:=Lc (ds:=ds) (ps:=ps) (by simpa using l) λi d p a b=>h (i+1) d p a b
  simp[K9,n,r]
def WA{n:Nat}{d:D}{p:PyData}(h:D9 n d p):py d=some p:=by
 induction h with
 |non=>rfl
 |bl=>rfl
 |int=>rfl
 |str _=>rfl
 |list l _ r=>rw[py,Lc l r];rfl
 |tup l _ r=>rw[py,Lc l r];rfl
def Ic{n:Nat}{d:D}{p:PyData}(h:D9 n d p) (hn:n<=64):B6 d d=some (.bl true):=by
 have l:=WA h;unfold B6;rw[l];show (if _ then _ else _)=_
 rw[qd ⟨h.shaped hn,h.shaped hn,h.mix⟩,same_self]
def Hz{α:Type}{f:α->D}{g:α->PyData}{n:Nat}(l:List α) (h:∀x,D9 n (f x) (g x)):∀(i:Nat) (d:D) (p:PyData),(l.map f)[i]?=some d->(l.map g)[i]?=some p->D9 n d p:=λi d p a b=>by
 rw[gMq]at a b;obtain⟨x,r,rfl⟩:=oMq.mp a;rw[r]at b;cases b;exact h x
def Xs(cs:List Λ):∃p,D9 3 (.list (cs.map dC)) p:=⟨_,.list (ps:=cs.map λc=>.tuple (c.map λr=>.tuple (r.map .int))) (by rw[lMq,lMq]) (Hz cs λc=>.tup (by rw[lMq,lMq]) (Hz c λr=>.tup (by rw[lMq,lMq]) (Hz r λi=>.int)))⟩
def ZT(cs:List Λ):B6 (.list (cs.map dC)) (.list (cs.map dC))=some (.bl true):=by
 obtain⟨p,h⟩:=Xs cs;exact Ic h (by decide)
end K35
namespace K39
open PySem L2 Mr Z Xe Zl
open K31 (wj Nm Wm NJ gm)
abbrev dP(m:Λ):D:=.list (m.map uT)
def PrL(m:Λ):Prop:=m.length<=1000/\∀r∈m,∃x y,r=[x,y]
def JA(i:Int):K72.vv [.int i]=some (.sh (.bl true)):=by simp_arith [K72.vv,K72.FR]
def QD{m:Λ}(h:PrL m):f_L_pairs [dP m]=some (.sh (.bl true)):=by
 have key:=uV (x:=1) (body:=mb_L_pairs_0) (λ_ S=>∃l,S=[some (.sh (dP m)),l]) (ds:=m.map uT) (S:=[some (.sh (dP m)),none]) ⟨none,rfl⟩ (by
  rintro i d S hd ⟨l,rfl⟩;rw[gMq]at hd;obtain⟨r,hr,rfl⟩:=oMq.mp hd;obtain⟨x,y,rfl⟩:=h.2 r (mGq hr);have n:A6 [uT [x,y],.ty "tuple"]=some (.bl true):=rfl;have lt:rB [uT [x,y]]=some (.int 2):=rfl;have s:vV (uT [x,y]) (.int 0)=some (.int x):=rfl;have t:vV (uT [x,y]) (.int 1)=some (.int y):=rfl;have u:=JA x;have z:=JA y;have B:Le (.int 2) (.int 2)=some (.bl false):=rfl;refine⟨_,?_,some (.sh (uT [x,y])),rfl⟩
  simp_arith [mb_L_pairs_0,n,lt,B,s,t,u,z])
 obtain⟨G,g,l,rfl⟩:=key;have C:A6 [dP m,.ty "list"]=some (.bl true):=rfl;have E:(m.length<=rH)=True:=eq_true (by have:=h.1;show _<=16777216;lia)
 simp_arith [f_L_pairs,mf_L_pairs,C,E,g]
def Ti(m:Λ):oN (aP m)=dP m:=by
 rw[sJ,mPq];exact congrArg D.list (mCq λr _=>qm _)
end K39
namespace K40
open PySem L2 Mr Z Zl
open K31 (Jj Cs rot Qb rnd)
open K39 (Au okB af rwA auL)
def Z3:mb_round_turns_0=K31.mb_round_turns_0:=rfl
def zS{rs:Λ}(l:Mp rs) {e:Int}(s:e∈rs.flatten):uB [dM rs,.int e]=some (Qb (rnd rs e).1):=by
 have hl:=l.hl;obtain⟨i,I,J,y⟩:=K31.L8 l s;rw[←Z3]at y;have B:=B4 l.hn (by lia)
 have kv:=l.kv s;obtain⟨r,hr,t⟩:=l.at s;have gr:rs.getD (plc rs e) []=r:=by rw[gDq,hr];rfl
 have L:=l.row hr;have C:=K31.BY t (by lia)
 have u:atI (rs.map dI) (plc rs e:Int)=some (dI r):=wH (by rw[gMq,hr];rfl)
 have E:=oY (rot r e);have x:atI [dI (rot r e)] 0=some (dI (rot r e)):=rfl;have G:((rot r e).map D.int).map AV.sh=(rot r e).map λn=>AV.sh (.int n):=by rw[mPq];rfl
 have H:[((ar (plc rs e:Int):pE),D.bl true)]=kd [plc rs e]:=rfl;have l1:(1:Nat)<=rH:=by decide
 have z:[some (.sh (dM rs)),some (.sh (.int e)),some (.owd (qK 0 rs)),some (.ow [.sh (dI (rot r e))]),some (.ow ((rot r e).map λn=>AV.sh (.int n))),some (.owd (kd [plc rs e])),some (.sh (.int 0)),none,none]=Jj rs e (Cs rs e) 0 none none:=by
  unfold Jj Cs Qb;rw[gr];simp
 simp_arith [uB,Ad,B,kv,ie,dM,u,C,E,x,G,H,l1]
 simp -implicitDefEqProofs only [Z.VY,dt,dE,cQ,cT,bW,↓reduceIte,reduceCtorEq,dM]at z;rw[z,y]
 simp_arith [Jj]
def Gr{rs:Λ}(l:Mp rs) {e:Int}(n:e∈rs.flatten):wJ [dM rs,.int e]=some (aI (rnd rs e).1.flatten):=by
 have hl:=l.hl;have h1:=zS l n;have h2:=(K31.By l n).few;have r:=Hu (rs:=(rnd rs e).1) (by lia)
 have s:=K31.E6 (rnd rs e).1
 simp_arith [wJ,Ba,h1,s,r]
def Bo{rs:Λ}(l:Mp rs) {e:Int}(n:e∈rs.flatten):qE [dM rs,.int e]=some (.sh (K33.cD (K33.code (rnd rs e).1))):=by
 have h1:=zS l n;have h:=K31.By l n;have h2:=h.few;have t:=K51.TB _ _ h.nd h.lt;have u:=h.ln;have hl:=l.hl;have hr:=l.hr;have r:=K33.Fb (K33.WJ l n) (K33.D7 l n) (by lia) (by lia)
 have s:=K31.E6 (rnd rs e).1
 simp_arith [qE,Bi,h1,s,r]
section
variable {G:Λ}{s e:Int}
def OG(z:Mp G) (B:K31.Dj G) (n:0<G.length):rA [dM G]=some (.sh .non):=by
 obtain⟨J,PS,h,e⟩:=K51.pieces_ok (K34.aa9 z);have h1:PS.length=1:=by
  obtain⟨ps,t,_⟩:=h.mem 0 (h.all 0 n);have pos:0<PS.length:=dX t
  by_cases c:PS.length=1
  .exact c
  .obtain ⟨a,b,L,rfl⟩:∃a b L,PS=a::b::L:=by
    match PS,pos,c with
    | [a],_,c=>exact absurd rfl c
    |a::b::L,_,_=>exact⟨a,b,L,rfl⟩
   obtain⟨u,l1,C⟩:=h.pc a (by simp)
   obtain⟨l,l2,E⟩:=h.pc b (by simp)
   have y:K51.IS G u l:=B (λk=>K51.IS G u k) ⟨u,l1,.base⟩ (λp r x hr H n=>.step n hr H) l l2
   have dj:=(cX.mp h.dj).1 b (by simp)
   exact absurd ((E.iff l).mpr .base) (dj l ((C.iff l).mpr y))
 have I:((PS.length:Nat):Int)=1:=by lia
 simp_arith [rA,uL,e,I]
end
end K40
namespace K37
open PySem L2 Mr Z Zl
open K31 (rnd Dj)
def cd(G:Λ) (e:Int):Λ:=K33.code (rnd G e).1
def uq(G:Λ):Λ:=(C3 ((qj G.flatten).map (cd G))).getD [[]]
def Xj(G:Λ):Ϝ:=(qj G.flatten).filter λe=>decide (cd G e=uq G)
def lr(G:Λ):Ϝ:=match Xj G with
 | []=>[]
 |s::_=>(rnd G s).1.flatten
structure Pg (G:Λ):Prop where
 mp:Mp G
 cn:Dj G
 ps:0<G.length
 br:G.flatten=[]->G=[[]]
theorem CV{c:Int->Λ}{s:MK}{t:D}:∀{E:Ϝ}{x:Int},(∀e∈E,Hq s t (.int e)=some (c e))->∃y,SB s t (E.map D.int) (.int x) (c x)=some (.int y)/\y∈x::E/\(∀z∈x::E,HT.qf (c z) (c y)=false)/\(x::E).find? (λe=>decide (c e=c y))=some y
 | [],x,_=>⟨x,rfl,by simp,λz l=>by rw[mSq.mp l];exact HT.vT _,by simp⟩
 |e::E,x,h=>by
  have B:=h e (ai ..);have C:=λz l=>h z (mCo _ l)
  by_cases q:HT.qf (c e) (c x)=true
  .obtain ⟨y,h1,h2,n,r⟩:=CV (x:=e) C;have ne:c x≠c y:=λw=>by
    have:=n e (ai ..);rw[←w,q]at this;cases this
   refine⟨y,?_,mCo _ h2,λz l=>?_,?_⟩
   .show (Hq s t (.int e)).bind _=_;rw[B,cA,qd q,h1]
   .rcases ah.mp l with rfl|l
    .exact HT.tj _ _ _ (n e (ai ..)) (HT.vp _ _ q)
    .exact n z l
   .rw [bG (by simp[ne]),r]
  .have G:HT.qf (c e) (c x)=false:=by simpa using q
   obtain⟨y,h1,h2,n,r⟩:=CV (x:=x) C;have u:=n x (ai ..);refine⟨y,?_,?_,λz l=>?_,?_⟩
   .show (Hq s t (.int e)).bind _=_;rw[B,cA,qh q,h1]
   .rcases ah.mp h2 with w|w
    .rw [w];simp
    .simp [w]
   .rcases ah.mp l with rfl|l
    .exact u
    .rcases ah.mp l with rfl|l
     .exact HT.tj _ _ _ u G
     .exact n z (mCo _ l)
   .by_cases w:c x=c y
    .rw [bL (by simp[w])]at r ⊢
     exact r
    .have H:c e≠c y:=λv=>w (HT.uh _ _ u (by rw[←v];exact G))
     rw[bG (by simp[w])]at r ⊢
     rw[bG (by simp[H]),r]
section
variable {G:Λ}
def GW(l:Mp G) {e:Int}(n:e∈G.flatten):Hq (oZ K40.qE (oB (oU 1) (oB (oU 0) pD))) (dM G) (.int e)=some (cd G e):=by
 have rc:K40.qE [dM G,.int e]=some (.sh (dC (cd G e))):=K40.Bo l n;have:oZ K40.qE (oB (oU 1) (oB (oU 0) pD)) [some (.sh (.int e)),some (.sh (dM G))]=some (.sh (dC (cd G e)),[some (.sh (.int e)),some (.sh (dM G))]):=by simp_arith [rc]
 unfold Hq;rw[this];exact IM _
def Rc{m:Λ}(h1:m∈G.flatten.map (cd G)) (h2:∀e∈G.flatten,HT.qf (cd G e) m=false):uq G=m:=by
 have pm:=qH G.flatten;unfold uq;obtain⟨z,l,rfl⟩:=mMq.mp h1;cases n:qj G.flatten with
 |nil =>
  rw[n]at pm;have:=pm.mem_iff.mpr l;cases this
 |cons x E =>
  have hl:C3 ((x::E).map (cd G))=some ((E.map (cd G)).foldl (λm c=>if HT.qf c m then c else m) (cd G x)):=rfl
  obtain⟨l1,l2⟩:=Fp hl;rw[hl,bK];rw[n]at pm;obtain⟨y,r,s⟩:=mMq.mp l1;refine HT.uh _ _ ?_ (l2 _ (mMq.mpr ⟨z,pm.mem_iff.mpr l,rfl⟩));rw[←s];exact h2 y (pm.mem_iff.mp r)
def yx(B:Mp G) (C:G.flatten≠[]):∃s E,s∈G.flatten/\uq G=cd G s/\(∀e∈G.flatten,HT.qf (cd G e) (cd G s)=false)/\Xj G=s::E/\WI (oZ K40.qE (oB (oU 1) (oB (oU 0) pD))) (dM G) ((qj G.flatten).map D.int)=some (.int s):=by
 have pm:=qH G.flatten;unfold Xj;cases hS:qj G.flatten with
 |nil =>
  rw[hS]at pm;exact absurd pm.symm.eq_nil C
 |cons x E =>
  rw[hS]at pm;have mem:∀e∈x::E,e∈G.flatten:=λe l=>pm.mem_iff.mp l
  obtain⟨y,h1,h2,H,n⟩:=CV (c:=cd G) (x:=x) (E:=E) λe l=>GW B (mem e (mCo _ l))
  have r:∀e∈G.flatten,HT.qf (cd G e) (cd G y)=false:=λe l=>H e (pm.mem_iff.mpr l)
  have I:=Rc (mMq.mpr ⟨y,mem y h2,rfl⟩) r;rw[I];rw[←List.head?_filter]at n;obtain⟨t,u⟩:∃t,(x::E).filter (λe=>decide (cd G e=cd G y))=y::t:=by
   cases hf:(x::E).filter (λe=>decide (cd G e=cd G y)) with
   |nil=>rw[hf]at n;cases n
   |cons z t =>
    rw[hf]at n;cases n;exact⟨t,rfl⟩
  refine⟨y,t,mem y h2,rfl,r,u,?_⟩;show (Hq _ (dM G) (.int x)).bind _=_;rw[GW B (mem x (ai ..)),cA,h1]
def code_flat(Q:Λ):(K33.code Q).flatten.length=Q.flatten.length:=by
 unfold K33.code;rw[eV,eV,mPq];refine congrArg List.sum (mCq λr _=>?_)
 exact lMq ..
def S4(n:Mp G) {s:Int}(t:s∈G.flatten):∃E,(rnd G s).1.flatten=s::E:=by
 obtain⟨Q,x⟩:=(K31.By n t).hd;obtain⟨r,hr,l⟩:=n.at t;have gr:G.getD (plc G s) []=r:=by rw[gDq,hr];rfl
 obtain⟨u,v,rfl,y⟩:=dB l;rw[x,gr,K33.rot_at y];exact⟨_,rfl⟩
def Cj(h:G.flatten=[]):Xj G=[]/\uq G=[[]]:=by
 have l:qj G.flatten=[]:=aY.mp (by rw[(qH _).length_eq,h];rfl)
 unfold Xj uq;rw[l];exact⟨rfl,rfl⟩
structure Lr (G:Λ):Prop where
 pm:(lr G).Perm G.flatten
 ln:(uq G).flatten.length=G.flatten.length
 ne:uq G≠[]
 hd:(Xj G).take 1=(lr G).take 1
def yl(h:Pg G):Lr G:=by
 by_cases l:G.flatten=[]
 .obtain ⟨b1,b2⟩:=Cj l;have e:lr G=[]:=by unfold lr;rw[b1]
  exact⟨by rw[e,l],by rw[b2,l];rfl,by rw[b2];simp,by rw[e,b1]⟩
 .obtain ⟨s,E,n,r,lo,t,_⟩:=yx h.mp l;have e:lr G=(rnd G s).1.flatten:=by unfold lr;rw[t]
  obtain⟨x,hh⟩:=S4 h.mp n;have pm:=(K31.N2 h.mp h.cn n).2;refine⟨by rw[e];exact pm,?_,?_,?_⟩
  .rw [r];unfold cd;rw[code_flat,pm.length_eq]
  .rw [r];obtain⟨Q,u⟩:=(K31.By h.mp n).hd;unfold cd K33.code;rw[u];simp
  .rw [e,hh,t];rfl
def Th(l:Mp G) {E:Ϝ}(n:∀e∈E,e∈G.flatten):qY qA (oZ K40.qE (oB (oU 1) (oB (oU 0) pD))) [some (.sh (dM G))] (E.map D.int)=some (((E.map (cd G)).map dC).map AV.sh):=by
 rw[Z.qO λd=>match d with|.int e=>.sh (dC (cd G e))|_=>.sh .non]
 .rw [mPq,mPq,mPq];rfl
 .intro d hd;obtain⟨e,r,rfl⟩:=mMq.mp hd;have rc:K40.qE [dM G,.int e]=some (.sh (dC (cd G e))):=K40.Bo l (n e r);refine⟨[some (.sh (.int e)),some (.sh (dM G))],?_⟩
  simp_arith [rc]
def Jr(h:Pg G):rV [dM G]=some (.sh (dC (uq G))):=by
 have t:=K40.OG h.mp h.cn h.ps;have hl:=h.mp.hl;have r:=N4 (rs:=G) (by lia)
 have pm:=qH G.flatten;have y:=pm.length_eq
 by_cases s:G.flatten=[]
 .rw [(Cj s).2];have B:qj G.flatten=[]:=aY.mp (by rw[y,s];rfl)
  rw[B]at r;rw[h.br s]at t r ⊢;have H:K33.wV [dM [[]]]=some (.sh (dC [[]])):=K33.Fb (Q:=[[]]) aT (λx I=>by simp at I) (by simp) (by simp)
  have J:decide (((0:Nat):Int)=0)=true:=by decide
  have L:=oY []
  simp_arith [rV,yf,t,r,L,dI,J,H]
 .have l:=Th h.mp (E:=qj G.flatten) λe M=>pm.mem_iff.mp M
  have z:0<G.flatten.length:=du.mpr s;have n:C3 ((qj G.flatten).map (cd G))=some (uq G):=by
   unfold uq;cases hS:qj G.flatten with
   |nil=>rw[hS,bI]at y;lia
   |cons x E=>rfl
  have O:=oY (qj G.flatten);have u:¬ ((qj G.flatten).length:Int)=0:=by lia
  have P:(qj G.flatten).length<=rH:=by show _<=16777216;lia
  generalize uq G=m at n;generalize (qj G.flatten).map (cd G)=C at l n;have R:=K34.Pj C;have S:=BB C
  simp_arith [rV,yf,t,r,O,dI,u,l,P,R,S,n]
def zM(h:Pg G):tH [dM G]=some (aI (lr G)):=by
 have hl:=h.mp.hl;have n:=N4 (rs:=G) (by lia)
 have pm:=qH G.flatten;have x:=pm.length_eq
 by_cases l:G.flatten=[]
 .have e:lr G=[]:=by unfold lr;rw[(Cj l).1]
  have y:qj G.flatten=[]:=aY.mp (by rw[x,l];rfl)
  rw[y]at n;rw[e];have z:decide (((0:Nat):Int)=0)=true:=by decide
  have B:=oY []
  simp_arith [tH,xh,n,B,dI,z]
  rfl
 .obtain ⟨s,E,C,_,_,H,I⟩:=yx h.mp l;have e:lr G=(rnd G s).1.flatten:=by unfold lr;rw[H]
  have t:=K40.Gr h.mp C;rw[←e]at t;have u:0<G.flatten.length:=du.mpr l;have J:=oY (qj G.flatten);have r:¬ ((qj G.flatten).length:Int)=0:=by lia
  have sh:∀v,SJ [some (.sh (dM G)),v] 0=some (dM G):=λ_=>rfl
  simp_arith [tH,xh,n,J,dI,r,Tp,sh,I,t]
end
end K37
namespace K37
open PySem L2 Mr Z Zl
open K12 (gm qt)
open K31 (rnd Dj)
structure yh (P:List Λ):Prop where
 pm:K11.Pm P
 cn:∀T∈P,K11.Cn T
 pg:∀T∈P,Pg (gm T)
 fl:P.flatten.flatten.length<=63
 lt:P.flatten.length<=63
 lp:P.length<=63
def Ls(P:List Λ):List Λ:=zH (P.map gm)
def bc(P:List Λ):List Λ:=(IP ((Ls P).map λG=>(uq G,G))).map (·.2)
def A0(P:List Λ):(Ls P).Perm (P.map gm):=CU _
def Cv(P:List Λ):(bc P).Perm (Ls P):=by
 have:=(wX ((Ls P).map λG=>(uq G,G))).map (·.2)
 rw[mPq]at this;exact this.trans (by rw[show ((λp:Cd×Λ=>p.2)∘λG=>(uq G,G))=id from rfl,dn])
def Rj(P:List Λ):(bc P).map uq=zH ((Ls P).map uq):=by
 have key:∀p∈IP ((Ls P).map λG=>(uq G,G)),p.1=uq p.2:=λp l=>by
  obtain⟨G,_,rfl⟩:=mMq.mp ((wX _).mem_iff.mp l);rfl
 unfold bc;rw[mPq];have e:(IP ((Ls P).map λG=>(uq G,G))).map (uq∘(·.2))=(IP ((Ls P).map λG=>(uq G,G))).map (·.1):=mCq λp l=>(key p l).symm
 rw[e];refine D5 (((wX _).map (·.1)).trans ?_) ?_
 .rw [mPq];exact .refl _
 .rw [aF];exact(BE (λ_=>0) _ (List.pairwise_of_forall λ_ _ _=>ab 0)).imp λh=>h.1
section
variable {P Q:List Λ}
def yh.mem(h:yh P):∀G∈Ls P,Pg G:=λG l=>by
 obtain⟨T,n,rfl⟩:=mMq.mp ((A0 P).mem_iff.mp l);exact h.pg T n
def yh.bcm(h:yh P):∀G∈bc P,Pg G:=λG l=>h.mem G ((Cv P).mem_iff.mp l)
def yh.ll(h:yh P):(Ls P).length<=63:=by
 rw[(A0 P).length_eq,lMq];exact h.lp
def pieces_ok(h:yh P):∃xs,K51.tV [dM (gm P.flatten)]=some (.ow xs)/\xs.map oN=(Ls P).map dM:=by
 obtain⟨PS,e,l⟩:=K11.Kd h.pm h.cn;refine⟨_,e,?_⟩;unfold Ls;rw[←l,mPq,mPq];refine mCq λps _=>?_
 show oN (.ow (ps.map λk=>aI ((gm P.flatten).getD k [])))=dM _
 rw[sJ,mPq];show _=D.list ((ps.map λk=>(gm P.flatten).getD k []).map dI)
 rw[mPq];exact congrArg D.list (mCq λk _=>oY _)
def QO{L:List Λ}(h:∀G∈L,Pg G):qY qA (oZ rV (oB (oU 0) pD)) [] (L.map dM)=some ((L.map uq).map λc=>.sh (dC c)):=by
 rw[Z.qO (λd=>match d with|.list l=>.sh (dC (uq ((wm l).getD [])))|_=>.sh .non)]
 .rw [mPq,mPq];refine congrArg some (mCq λG _=>?_)
  show AV.sh (dC (uq ((wm (G.map dI)).getD [])))=_;rw[vx];rfl
 .intro d hd;obtain⟨G,n,rfl⟩:=mMq.mp hd;have ok:=Jr (h G n);refine⟨[some (.sh (dM G))],?_⟩;show _=some (AV.sh (dC (uq ((wm (G.map dI)).getD []))),_);rw[vx,bK]
  simp_arith [ok]
def Jw(h:yh P):Cw [dM (gm P.flatten)]=some (.ow ((zH ((Ls P).map uq)).map λc=>.sh (dC c))):=by
 obtain⟨t,e,ex⟩:=pieces_ok h;have l:=QO h.mem;have s:oN (.ow t) = .list ((Ls P).map dM):=by rw[sJ,ex]
 have hl:=h.ll;have ll:((Ls P).length<=rH)=True:=eq_true (wW (by lia))
 have ne:(∀c∈(Ls P).map uq,c≠[])=True:=eq_true λc u=>by
  obtain⟨G,x,rfl⟩:=mMq.mp u;exact(yl (h.mem G x)).ne
 have n:(((Ls P).map uq).length<64)=True:=eq_true (by rw[lMq];lia)
 have cd:=BB ((Ls P).map uq);generalize Ls P=L at l s ll ne cd n;generalize L.map uq=C at l ne cd n;have sC:(C.map λc=>AV.sh (dC c)).map oN=C.map dC:=by rw[mPq];exact mCq λr _=>qm _
 simp_arith [Cw,Kf,e,s,l,ll,UK,sC,cd,ne,n,and_self]
def OO{f:MF}{l:ML}{S S':AS}{ds:List D}{cs:List Cd}(hl:l S=some (ds,S')) (hk:DC f ds=some cs) (n:ds.length<64/\(∀c∈cs,c≠[])/\Sh ds/\NI cs ds):D4 f l S=some (.ow ((IP (cs.zip ds)).map λp=>.sh p.2),S'):=by
 rw[SG,hl,cA,hk,cA];exact vQ n _
theorem Ke{f:MF}{α:Type}{g:α->D}{c:α->Cd}:∀{L:List α},(∀G∈L,f [g G]=some (.sh (dC (c G))))->DC f (L.map g)=some (L.map c)
 | [],_=>rfl
 |G::L,h=>by
  have e:Mj f (g G)=some (c G):=by
   unfold Mj;rw[h G (ai ..)];exact IM _
  show (Mj f (g G)).bind _=_;rw[e,cA,Ke λG l=>h G (mCo _ l)]
  rfl
def L0{P:List Λ}{i j r:Nat}{G n:Λ}(y:i<j) (z:j<r) (B:(Ls P)[i]?=some G) (g2:(Ls P)[r]?=some G) (C:(Ls P)[j]?=some n):n=G:=by
 have s:=bZ.mp (Ax (P.map gm));obtain⟨l1,t⟩:=gSq.mp B;obtain⟨l2,u⟩:=gSq.mp g2;obtain⟨x,l⟩:=gSq.mp C;have a:=s i j l1 x y;have b:=s j r x l2 z;unfold Ls at t u l;rw[t,l]at a;rw[u,l]at b;exact HT.uh _ _ a b
def Du{α β:Type}{g:α->β}{L:List α}{i:Nat}{d:β}(h:(L.map g)[i]?=some d):∃G,L[i]?=some G/\d=g G:=by
 rw[gMq]at h;obtain⟨G,a,b⟩:=oMq.mp h;exact⟨G,a,b.symm⟩
def Yd{A B:Λ}(h:dM A=dM B):A=B:=by
 have:=congrArg (λd=>match d with|.list l=>wm l|_=>none) h
 simp only[dM]at this;rw[vx,vx]at this;exact aN.inj this
def X6{α:Type}(g:Λ->α):(IP (((Ls P).map uq).zip ((Ls P).map g))).map (λp=>p.2)=(bc P).map g:=by
 rw[List.zip_map'];have:=Ng g ((Ls P).map λG=>(uq G,G))
 rw[mPq]at this;rw[show ((λa=>(uq a,g a)):Λ->Cd×α)=(λp:Cd×Λ=>(p.1,g p.2))∘λG=>(uq G,G) from rfl,this]
 unfold bc;rw[mPq,mPq];rfl
def DH(h:yh P):xk [dM (gm P.flatten)]=some (.ow ((bc P).map λG=>.sh (dM G))):=by
 obtain⟨I,e,ex⟩:=pieces_ok h;have hl:=h.ll;have s:=OO (f:=rV) (l:=lOf (oZ K51.tV (oB (oU 0) pD))) (S:=[some (.sh (dM (gm P.flatten)))]) (ds:=(Ls P).map dM) (S':=[some (.sh (dM (gm P.flatten)))]) (by simp_arith [e,ex]) (Ke (c:=uq) λG n=>Jr (h.mem G n)) ⟨by rw[lMq];lia,λc u=>by
  obtain⟨G,n,rfl⟩:=mMq.mp u;exact(yl (h.mem G n)).ne,.inl λd hd=>by
  obtain⟨G,_,rfl⟩:=mMq.mp hd;exact⟨G,rfl⟩,λi j r d J x y h1 h2 z _=>by
  obtain⟨G,B,rfl⟩:=Du h1;obtain⟨L,t,C⟩:=Du h2;obtain⟨M,E,rfl⟩:=Du z;rw[←Yd C]at t;rw[L0 x y B t E]⟩
 have H:(IP (((Ls P).map uq).zip ((Ls P).map dM))).map (λp=>AV.sh p.2)=(bc P).map λG=>.sh (dM G):=by
  have:=congrArg (List.map AV.sh) (X6 (P:=P) dM);rw[mPq,mPq]at this;exact this
 rw[H]at s
 simp_arith [xk,Dw,s]
def AB(A B:List Λ):Λ:=(A.zip B).flatMap λp=>aR (λx y=>[x,y]) (lr p.1) (lr p.2)
def QF{A B:List Λ}{G l:Λ}(h:A.length=B.length):AB (A++[G]) (B++[l])=AB A B++aR (λx y=>[x,y]) (lr G) (lr l):=by
 unfold AB;rw[List.zip_append h,dw];simp
def EZ{G l:Λ}(h:Pg G) (h':Pg l) (e:uq G=uq l):(lr G).length=(lr l).length:=by
 rw[(yl h).pm.length_eq,(yl h').pm.length_eq,← (yl h).ln,← (yl h').ln,e]
def Rn{A B:List Λ}(J:∀G∈A,Pg G) (L:∀G∈B,Pg G) (hl:A.map uq=B.map uq) (M:A.length<=63) {v0 v1:Option AV}:∃v3 v4,Ak 3 4 xW (A.map dM) (B.map dM) [v0,v1,some (.ow []),none,none]=some (.nx [v0,v1,some (aP (AB A B)),v3,v4]):=by
 have l:A.length=B.length:=by have:=congrArg aZ hl;rwa [lMq,lMq]at this
 have key:=V0 (x:=3) (y:=4) (body:=xW) (λi S=>∃v3 v4,S=[v0,v1,some (aP (AB (A.take i) (B.take i))),v3,v4]/\(AB (A.take i) (B.take i)).length<=63*i) (ds:=A.map dM) (es:=B.map dM) (S:=[v0,v1,some (.ow []),none,none]) (k:=0) (by rw[lMq,lMq];exact l) ⟨none,none,rfl,aE _⟩ (by
  rintro i d e S hd O ⟨v3,v4,rfl,H⟩;obtain⟨G,C,rfl⟩:=Du hd;obtain⟨n,s,rfl⟩:=Du O;rw[aU]at H ⊢;have E:=J G (mGq C);have u:=L n (mGq s);have hi:=(gSq.mp C).1;have R:uq G=uq n:=by
   have:=congrArg (λz=>z[i]?) hl
   simp only[gMq,C,s]at this;exact aN.inj this
  have I:=Pw (EZ E u R);have U:=zM E;have X:=zM u;have Y:=oY (lr G);have s2:=oY (lr n);have es:AB (A.take (i+1)) (B.take (i+1))=AB (A.take i) (B.take i)++aR (λx y=>[x,y]) (lr G) (lr n):=by
   rw[qv C,qv s];exact QF (by rw[lTq,lTq,l])
  have lz:(aR (λx y=>[x,y]) (lr G) (lr n)).length<=63:=by
   rw[eO,(yl E).pm.length_eq];have:=E.mp.hl;lia
  rw[es];generalize aR (λx y=>[x,y]) (lr G) (lr n)=z at I lz
  generalize AB (A.take i) (B.take i)=t at H;have lm:(t.length+z.length<=rH)=True:=eq_true (wW (by lia))
  have sz:(z.map λr=>AV.sh (uT r)).map oN=z.map uT:=by rw[mPq];exact mCq λr _=>qm _
  have ea:t.map (λr=>AV.sh (uT r))++(z.map uT).map AV.sh=(t++z).map λr=>AV.sh (uT r):=by rw[mBq,mPq];rfl
  refine⟨_,?_,some (.sh (dM G)),some (.sh (dM n)),rfl,by rw[lAq];lia⟩
  simp_arith [xW,aat,U,X,Y,s2,dI,I,sz,lm,ea])
 obtain⟨S',e,v3,v4,rfl,_⟩:=key;rw[aU,lMq]at e;rw[bh,show B.take A.length=B by rw[l,bh]]at e
 exact⟨v3,v4,e⟩
end
section
variable {P Q:List Λ}
theorem NQ:∀{L:List Λ},(∀G∈L,Pg G)->(L.flatMap lr).Perm L.flatten.flatten
 | [],_=>.refl _
 |G::L,h=>by
  rw[bE,fCq,fAq];exact(yl (h G (ai ..))).pm.append (NQ λG l=>h G (mCo _ l))
theorem NG:∀P:List Λ,(P.map gm).flatten.flatten.Perm P.flatten.flatten
 | []=>.refl _
 |T::P=>by
  rw[ax,fCq,fCq,fAq,fAq];exact(K31.uE T).append (NG P)
def VI{A B:List Λ}(h:A.Perm B):A.flatten.flatten.Perm B.flatten.flatten:=wB h.flatten
def yh.all(h:yh P):((bc P).flatMap lr).Perm P.flatten.flatten:=(NQ h.bcm).trans ((VI ((Cv P).trans (A0 P))).trans (NG P))
theorem zip_fst:∀{a b:Ϝ},a.length=b.length->(aR (λx y=>[x,y]) a b).map (λr=>r.headD 0)=a
 | [],[],_=>rfl
 |x::a,y::b,h=>by
  show x::_=x::a;rw[zip_fst (by simpa using h)]
theorem N5:∀{A B:List Λ},(∀G∈A,Pg G)->(∀G∈B,Pg G)->A.map uq=B.map uq->(AB A B).map (λr=>r.headD 0)=A.flatMap lr
 | [],B,_,_,_=>rfl
 |G::A,[],_,_,h=>by cases h
 |G::A,G'::B,hA,hB,h=>by
  obtain⟨h1,h2⟩:=iA.inj h;show ((aR (λx y=>[x,y]) (lr G) (lr G'))++AB A B).map _=lr G++A.flatMap lr
  rw[mBq,zip_fst (EZ (hA G (ai ..)) (hB G' (ai ..)) h1),N5 (λG l=>hA G (mCo _ l)) (λG l=>hB G (mCo _ l)) h2]
theorem RT:∀{a b:Ϝ},∀r∈aR (λx y=>[x,y]) a b,r≠[]
 | [],b,r,h=>by cases b <;> cases h
 |x::a,[],r,h=>by cases h
 |x::a,y::b,r,h=>by
  rcases ah.mp h with rfl|h
  .simp
  .exact RT r h
def XH{A B:List Λ}:∀r∈AB A B,r≠[]:=λr hr=>by
 obtain⟨p,_,h⟩:=bC.mp hr;exact RT r h
structure ri (P Q:List Λ):Prop where
 f1:yh P
 f2:yh Q
 sm:(P.map λT=>uq (gm T)).Perm (Q.map λT=>uq (gm T))
def S6(P:List Λ):((Ls P).map uq).Perm (P.map λT=>uq (gm T)):=by
 have:=(A0 P).map uq;rw[mPq]at this;exact this
def ri.cs(h:ri P Q):zH ((Ls P).map uq)=zH ((Ls Q).map uq):=D5 ((CU _).trans ((S6 P).trans (h.sm.trans (S6 Q).symm))) (Ax _)
def ri.bl(h:ri P Q):(bc P).map uq=(bc Q).map uq:=by rw[Rj,Rj,h.cs]
def ri.fst(h:ri P Q):(AB (bc P) (bc Q)).map (λr=>r.headD 0)=(bc P).flatMap lr:=N5 h.f1.bcm h.f2.bcm h.bl
def ri.len(h:ri P Q):(AB (bc P) (bc Q)).length=P.flatten.flatten.length:=by
 have:=congrArg aZ h.fst
 rwa [lMq,h.f1.all.length_eq]at this
def ri.bl63(h:ri P Q):(bc P).length<=63:=by
 rw[(Cv P).length_eq];exact h.f1.ll
def laying_ok(h:ri P Q):CF [dM (gm P.flatten),dM (gm Q.flatten)]=some (aP (Do (AB (bc P) (bc Q)))):=by
 have b1:=DH h.f1;have b2:=DH h.f2;obtain⟨t,u,lo⟩:=Rn h.f1.bcm h.f2.bcm h.bl h.bl63 (v0:=some (.sh (dM (gm P.flatten)))) (v1:=some (.sh (dM (gm Q.flatten))));have ll:((bc P).length=(bc Q).length)=True:=eq_true (by have:=congrArg aZ h.bl;rwa [lMq,lMq]at this)
 have ne:(∀r∈AB (bc P) (bc Q),r≠[])=True:=eq_true XH;have l:((AB (bc P) (bc Q)).length<64)=True:=eq_true (by rw[h.len];have:=h.f1.fl;lia)
 have st:∀L:List Λ,(L.map λG=>AV.sh (dM G)).map oN=L.map dM:=λL=>by rw[mPq];exact mCq λr _=>qm _
 have n:=st (bc P);have s:=st (bc Q);generalize AB (bc P) (bc Q)=z at lo ne l;have sz:(z.map λr=>AV.sh (uT r)).map oN=z.map uT:=by rw[mPq];exact mCq λr _=>qm _
 have ti:=vR z
 simp_arith [CF,Gx,b1,b2,n,s,ll,lo,HV,sz,ti,ne,l,and_self]
end
section
variable {P Q:List Λ}
def GP(h:yh P):xp [.list (P.map dM)]=some (.ow ((gm P.flatten).map aI)):=by
 have h1:=h.fl;have h2:=h.lt;have key:=uV (x:=2) (body:=yg) (λi S=>∃l,S=[some (.sh (.list (P.map dM))),some (K31.Qb (P.take i).flatten),l]) (ds:=P.map dM) (S:=[some (.sh (.list (P.map dM))),some (.ow []),none]) ⟨none,rfl⟩ (by
  rintro i d S hd ⟨l,rfl⟩;obtain⟨T,t,rfl⟩:=Du hd;have n:(P.take (i+1)).flatten=(P.take i).flatten++T:=by rw[qv t,fAq,aS]
  have u:(P.take (i+1)).flatten.length<=P.flatten.length:=by
   have:=congrArg (λz=>z.flatten.length) (bj (i+1) P)
   simp only[fAq,lAq]at this;lia
  rw[n,lAq]at u;have l1:((P.take i).flatten.length+T.length<=rH)=True:=eq_true (wW (by lia))
  have y:(P.take i).flatten.map (λr=>AV.sh (dI r))++T.map (λr=>.sh (dI r))=((P.take i).flatten++T).map λr=>.sh (dI r):=by rw[mBq]
  refine⟨[some (.sh (.list (P.map dM))),some (K31.Qb ((P.take i).flatten++T)),some (.sh (dM T))],?_,some (.sh (dM T)),by rw[n]⟩
  unfold K31.Qb
  simp_arith [yg,dM,l1,y])
 obtain⟨C,e,l,rfl⟩:=key;rw[lMq,bh]at e;have B:qq [dM P.flatten]=some (.ow ((gm P.flatten).map aI)):=vE (rs:=P.flatten) (λr hr=>by
  have:=bT.length_le (aB hr);lia) (by lia)
 have s:=K31.E6 P.flatten;unfold K31.Qb at e s
 simp_arith [xp,Dz,e,s,B]
end
end K37
namespace K33
open PySem L2 Mr Z Xe Zl
def DT(ot:Ϝ) (bits:Int) (k:Nat):Int:=ot.getD k 0*(1-2*(bits / ((k:Int)+2) % 2))
def zJ(nm ot:Ϝ) (bits:Int):Nat->List (pE×D)
 |0=>[]
 |k+1=>zJ nm ot bits k++[((ar (nm.getD k 0):pE),D.int (DT ot bits k)),((ar (-(nm.getD k 0)):pE),D.int (-(DT ot bits k)))]
section
variable {nm ot:Ϝ}{bits:Int}
def K6(l:Ϝ) (x:Int):K31.wj (l++[x])=K31.wj l++[x, -x]:=by
 unfold K31.wj;rw[dw];rfl
def GF{n:Nat}(h:n<nm.length):nm.take (n+1)=nm.take n++[nm.getD n 0]:=qv (by rw[gDq,gEg h];rfl)
theorem EO:∀{n:Nat},n<=nm.length->(zJ nm ot bits n).map (·.1)=(K31.wj (nm.take n)).map ar
 |0,_=>by simp[zJ,K31.wj]
 |n+1,h=>by
  rw[GF (by lia),K6,mBq,←EO (n:=n) (by lia)]
  show (zJ nm ot bits n++[((ar (nm.getD n 0):pE),D.int (DT ot bits n)),((ar (-(nm.getD n 0)):pE),D.int (-(DT ot bits n)))]).map (·.1)=_;rw[mBq];rfl
def Nr(n:Nat):(zJ nm ot bits n).length=2*n:=by
 induction n with
 |zero=>rfl
 |succ n l =>
  unfold zJ;rw[lAq,l];show 2*n+2=_;lia
def IY{a b:List (pE×D)}{k:pE}{d:D}(h:Z.getD a k=some d):Z.getD (a++b) k=some d:=by
 unfold Z.getD at h ⊢;obtain⟨kv,h1,h2⟩:=oMq.mp h;rw[List.find?_append,h1];show some kv.2=_;rw[←h2]
def Ua{k:Nat}(hk:0<=bits / ((k:Int)+2) % 2/\bits / ((k:Int)+2) % 2<2):DT ot bits k=ot.getD k 0∨DT ot bits k = -(ot.getD k 0):=by
 unfold DT;have h:bits / ((k:Int)+2) % 2=0∨bits / ((k:Int)+2) % 2=1:=by lia
 rcases h with h|h
 .left;rw[h,show (1:Int)-2*0=1 from rfl,gh]
 .right;rw[h,show (1:Int)-2*1 = -1 from rfl,iS,gh]
def Rl(k:Nat):DT ot bits k=ot.getD k 0∨DT ot bits k = -(ot.getD k 0):=Ua ⟨aX _ (by decide),aW _ (by decide)⟩
def Jg(hn:K31.Nm nm) {k:Nat}(hk:k<nm.length):(ar (nm.getD k 0):pE)∉(zJ nm ot bits k).map (·.1)/\(ar (-(nm.getD k 0)):pE)∉(zJ nm ot bits k++[((ar (nm.getD k 0):pE),D.int (DT ot bits k))]).map (·.1):=by
 have nd:(K31.wj (nm.take (k+1))).Nodup:=K12.Cc (hn.nd.sublist (cG ..)) λx n=>hn.lo x (eE n)
 have n:1<=nm.getD k 0:=hn.lo _ (by rw[gDq,gEg hk];exact gRq hk)
 rw[GF hk,K6,nAq]at nd;refine⟨λm=>?_,λm=>?_⟩
 .rw [EO (by lia)]at m
  obtain⟨y,l,e⟩:=mMq.mp m;cases e;exact nd.2.2 _ l _ (by simp) rfl
 .rw [mBq,EO (by lia)]at m
  rcases mAq.mp m with m|m
  .obtain ⟨y,l,e⟩:=mMq.mp m;cases e;exact nd.2.2 _ l _ (by simp) rfl
  .have:=mSq.mp m;have:=ar.inj this;lia
theorem IA(hn:K31.Nm nm):∀{n:Nat},n<=nm.length->∀{k:Nat},k<n->Z.getD (zJ nm ot bits n) (ar (nm.getD k 0))=some (.int (DT ot bits k))/\Z.getD (zJ nm ot bits n) (ar (-(nm.getD k 0)))=some (.int (-(DT ot bits k)))
 |0,_,k,hk=>absurd hk (cw _)
 |n+1,h,k,hk=>by
  by_cases c:k<n
  .obtain ⟨h1,h2⟩:=IA hn (n:=n) (by lia) c
   unfold zJ;exact⟨IY h1,IY h2⟩
  .have:k=n:=by lia
   subst this;obtain⟨l,r⟩:=Jg (ot:=ot) (bits:=bits) hn (show k<nm.length by lia)
   unfold zJ;refine⟨?_,?_⟩
   .rw [getD_app l];unfold Z.getD;rw[bL (by simp)]
    rfl
   .rw [show zJ nm ot bits k++[((ar (nm.getD k 0):pE),D.int (DT ot bits k)),((ar (-(nm.getD k 0)):pE),D.int (-(DT ot bits k)))]=(zJ nm ot bits k++[((ar (nm.getD k 0):pE),D.int (DT ot bits k))])++[((ar (-(nm.getD k 0)):pE),D.int (-(DT ot bits k)))] by simp,getD_app r]
    unfold Z.getD;rw[bL (by simp)]
    rfl
def KG(kvs:List (pE×D)) (x:Int):Int:=match Z.getD kvs (ar x) with
 |some (.int z)=>z
 |_=>0
def HQ{kvs:List (pE×D)}{x z:Int}(h:Z.getD kvs (ar x)=some (.int z)):KG kvs x=z:=by
 unfold KG;rw[h]
def DZ{x:Int}(h:x∈K31.wj nm):∃k,k<nm.length/\(x=nm.getD k 0∨x = -(nm.getD k 0)):=by
 obtain⟨y,l,q⟩:=K31.U2.mp h;obtain⟨k,hk,rfl⟩:=bV.mp l;refine⟨k,hk,?_⟩;rw[gDq,gEg hk];exact q
def Sf{l:Ϝ}(hn:l.Nodup) {j k:Nat}(n:j<l.length) (hk:k<l.length) (h:l.getD j 0=l.getD k 0):j=k:=by
 rw[gDq,gDq,gEg n,gEg hk]at h;have r:=hn.idxOf_getElem j n;have s:=hn.idxOf_getElem k hk;have t:l[j]=l[k]:=h;rw[t,s]at r;exact r.symm
def U5(hn:K31.Nm nm) {x:Int}(h:x∈K31.wj nm):Z.getD (zJ nm ot bits nm.length) (ar x)=some (.int (KG (zJ nm ot bits nm.length) x)):=by
 obtain⟨k,hk,q⟩:=DZ h;obtain⟨l,g2⟩:=IA (ot:=ot) (bits:=bits) hn (ab _) hk;rcases q with rfl|rfl
 .rw [HQ l];exact l
 .rw [HQ g2];exact g2
def Ks{l:Ϝ}(hn:K31.Nm nm) (z:K31.Nm l) (hl:nm.length<=l.length) (sg:∀k,k<nm.length->ot.getD k 0=l.getD k 0∨ot.getD k 0 = -(l.getD k 0)):Qa (KG (zJ nm ot bits nm.length)) (K31.wj nm):=by
 have val:∀k,k<nm.length->KG (zJ nm ot bits nm.length) (nm.getD k 0)=DT ot bits k/\KG (zJ nm ot bits nm.length) (-(nm.getD k 0)) = -(DT ot bits k):=λk hk=>by
  obtain⟨C,g2⟩:=IA (ot:=ot) (bits:=bits) hn (ab _) hk;exact⟨HQ C,HQ g2⟩
 have pos:∀k,k<nm.length->1<=l.getD k 0:=λk hk=>z.lo _ (by rw[gDq,gEg (show k<l.length by lia)];exact gRq _)
 refine⟨λx s=>?_,λx s y E e=>?_⟩
 .obtain ⟨k,hk,q⟩:=DZ s;obtain⟨n,r⟩:=val k hk;rcases q with rfl|rfl
  .rw [n,r]
  .rw [eW,n,r,eW]
 .obtain ⟨j,t,q⟩:=DZ s;obtain⟨k,hk,B⟩:=DZ E;obtain⟨n,r⟩:=val j t;obtain⟨G,H⟩:=val k hk;have I:=pos j t;have J:=pos k hk;have L:=Rl (ot:=ot) (bits:=bits) j;have M:=Rl (ot:=ot) (bits:=bits) k;have O:=sg j t;have P:=sg k hk;have u:l.getD j 0=l.getD k 0:=by
   rcases q with rfl|rfl <;> rcases B with rfl|rfl <;> simp only[n,r,G,H]at e <;> lia
  have:j=k:=Sf z.nd (by lia) (by lia) u
  subst this;rcases q with rfl|rfl <;> rcases B with rfl|rfl <;> simp only[n,r]at e <;> first|rfl|lia
def TJ(hn:K31.Nm nm) (l:K31.Nm ot) (hl:nm.length<=ot.length):Qa (KG (zJ nm ot bits nm.length)) (K31.wj nm):=Ks hn l hl λ_ _=>.inl rfl
end
def Ja{ns:Ϝ}{two st sh a b:Int}{n:Nat}(h:∀k:Nat,K31.tm [.int two,.int (cell ns 3),.int (k:Int)]=some (.sh (.int (K12.OU st sh a b k)))):qY qA (kSc (sN K31.tm (ox (oq 1) (ox (sN Zl.pI (ox (oq 2) (ox (rC (.int 3)) oS))) (ox (oq 0) oS))))) [some (.sh (.int two)),some (.sh (.scr ns))] (qc 0 n)=some ((K31.NJ st sh a b n).map λz=>.sh (.int z)):=by
 have l:=Cu ns (k:=3) (by decide)
 have r:(3:Int).toNat=3:=rfl;have key:=qO (te:=kSc (sN K31.tm (ox (oq 1) (ox (sN Zl.pI (ox (oq 2) (ox (rC (.int 3)) oS))) (ox (oq 0) oS))))) (cap:=[some (.sh (.int two)),some (.sh (.scr ns))])
  (λd=>match d with|.int k=>.sh (.int (K12.OU st sh a b k))|_=>.sh .non) (ds:=qc 0 n) (by
  intro d hd;rw[vW]at hd;obtain⟨k,_,rfl⟩:=mMq.mp hd;have hk:=h k;refine⟨[some (.sh (.int (k:Int))),some (.sh (.int two)),some (.sh (.scr ns))],?_⟩
  simp_arith [l,r,hk])
 rw[key,vW,mPq];unfold K31.NJ;rw[mPq];rfl
section
variable {kvs:List (pE×D)}{f:Int->Int}
def NS{t:Ϝ}(h:∀x∈t,Z.getD kvs (ar x)=some (.int (f x))):qY qA (kSc (tX (oq 1) (oq 0))) [some (.sh (.dict kvs))] (t.map D.int)=some ((t.map f).map λz=>.sh (.int z)):=by
 rw[Z.qO λd=>match d with|.int x=>.sh (.int (f x))|_=>.sh .non]
 .rw [mPq,mPq];rfl
 .intro d hd;obtain⟨x,l,rfl⟩:=mMq.mp hd;have g:=h x l;refine⟨[some (.sh (.int x)),some (.sh (.dict kvs))],?_⟩
  simp_arith [g]
def RA{T:Λ}(h:∀x∈T.flatten,Z.getD kvs (ar x)=some (.int (f x))) (hl:T.flatten.length<=1000):qY qA (uu (zY (oU 0)) [1] qA (kSc (tX (oq 1) (oq 0)))) [some (.sh (.dict kvs))] (T.map dI)=some ((uU f T).map aI):=by
 rw[Z.qO λd=>match d with|.list l=>.ow ((qY qA (kSc (tX (oq 1) (oq 0))) [some (.sh (.dict kvs))] l).getD [])|_=>.sh .non]
 .rw [mPq,mPq];refine congrArg some (mCq λt ht=>?_)
  have hr:=NS (t:=t) (f:=f) λx n=>h x (mFq.mpr ⟨t,ht,n⟩)
  show AV.ow ((qY qA (kSc (tX (oq 1) (oq 0))) [some (.sh (.dict kvs))] (t.map D.int)).getD [])=_;rw[hr];rfl
 .intro d hd;obtain⟨t,ht,rfl⟩:=mMq.mp hd;have hr:=NS (t:=t) (f:=f) λx n=>h x (mFq.mpr ⟨t,ht,n⟩)
  have lt:t.length<=rH:=by
   have:=bT.length_le (aB ht);show _<=16777216;lia
  refine⟨[some (.sh (dI t)),some (.sh (.dict kvs))],?_⟩
  simp_arith [dI,hr,lt,bK]
end
end K33
namespace K37
open PySem L2 Mr Z Zl
open K12 (gm qt)
open K31 (rnd Dj wj Nm)
open K33 (uU Qa zJ KG)
theorem EY:∀{L:Λ},(∀r∈L,r≠[])->L.length<=L.flatten.length
 | [],_=>ab _
 |r::L,h=>by
  have:=EY λr hr=>h r (mCo _ hr)
  have:=du.mpr (h r (ai ..));rw[fCq,lAq,lCq];lia
def JD{T:Λ}(tr:K11.zG T):T.length<=T.flatten.length+1:=by
 cases T with
 |nil=>exact aE _
 |cons t T =>
  have:=EY (L:=T) λr hr=>by
   obtain⟨k,hk⟩:=ak.mp hr;have hl:=(gSq.mp hk).1;obtain⟨j,e,_,_,b⟩:=tr (k+1) (by lia) (by simp;lia)
   rw[gDq,List.getElem?_cons_succ,hk,bK]at b;intro q;rw[q]at b;cases b
  rw[fCq,lAq,lCq];lia
def YX{T:Λ}(cn:K11.Cn T) (nd:T.flatten.Nodup) (hl:T.flatten.length<=62):Pg (gm T):=by
 have ln:=JD cn.tr;have mp:Mp (gm T):=K33.YF nd (by lia) (by lia) cn.clo
 have pos:0<T.length:=du.mpr cn.ne;refine⟨mp,K31.Oz mp pos cn.tr,by rw[K31.Ii];exact pos,λl=>?_⟩
 have n:T.flatten=[]:=by
  have:=K31.uE T;rw[l]at this;exact this.symm.eq_nil
 have s:T=[[]]:=by
  cases T with
  |nil=>cases pos
  |cons r T =>
   have t:r=[]:=(List.append_eq_nil_iff.mp n).1;exact K11.AU cn (by rw[t];simp) nd
 rw[s];exact hW.mp (qt [[]])
def Mi{P:List Λ}(cn:∀T∈P,K11.Cn T) (nd:P.flatten.flatten.Nodup) (fl:P.flatten.flatten.length<=62) (lt:P.flatten.length<=63) (lp:P.length<=63):yh P:=by
 have n:(gm P.flatten).flatten.Perm P.flatten.flatten:=K31.uE _;have C:(gm P.flatten).length=P.flatten.length:=K31.Ii _;have ng:∀z∈P.flatten.flatten, -z∈P.flatten.flatten:=λe s=>by
  obtain⟨r,hr,t⟩:=mFq.mp s;obtain⟨T,l,u⟩:=mFq.mp hr;obtain⟨B,x,y⟩:=mFq.mp ((cn T l).clo e (mFq.mpr ⟨r,u,t⟩));exact mFq.mpr ⟨B,mFq.mpr ⟨T,l,x⟩,y⟩
 have pm:K11.Pm P:=⟨nd,⟨n.nodup_iff.mpr nd,by rw[n.length_eq];lia,by lia,λe s=>n.mem_iff.mpr (ng e (n.mem_iff.mp s))⟩⟩
 refine⟨pm,cn,λT l=>YX (cn T l) (K11.CK pm l) ?_,by lia,lt,lp⟩
 have E:T.flatten.length<=P.flatten.flatten.length:=by
  rw[fH];exact bT.length_le (aB (mMq.mpr ⟨T,l,rfl⟩))
 lia
section
variable {f:Int->Int}{T:Λ}
def QM(k:Nat):(uU f T).getD k []=(T.getD k []).map f:=by
 unfold uU;rw[gDq,gMq,gDq];cases T[k]? <;> rfl
def Wy(cn:K11.Cn T) (rn:Qa f T.flatten):K11.Cn (uU f T):=by
 refine⟨λq=>cn.ne (List.map_eq_nil_iff.mp q),λz l=>?_,λk r hk=>?_⟩
 .rw [K33.xf]at l ⊢;obtain⟨x,n,rfl⟩:=mMq.mp l;rw[←rn.odd x n];exact mMq.mpr ⟨-x,cn.clo x n,rfl⟩
 .have lt:k<T.length:=by unfold uU at hk;rwa [lMq]at hk
  obtain⟨j,e,s,a,b⟩:=cn.tr k r lt;have t:e∈T.flatten:=mFq.mpr ⟨_,K11.getD_mem a,a⟩;refine⟨j,f e,s,?_,?_⟩
  .rw [QM];exact mMq.mpr ⟨e,a,rfl⟩
  .rw [QM,←rn.odd e t];exact mMq.mpr ⟨-e,b,rfl⟩
def Vn(h1:Pg (gm T)) (h2:Pg (gm (uU f T))) (rn:Qa f T.flatten) (nd:T.flatten.Nodup):uq (gm (uU f T))=uq (gm T):=by
 have l:=K31.uE T;have r:=K31.uE (uU f T);rw[K33.xf]at r
 by_cases C:(gm T).flatten=[]
 .have G:T.flatten=[]:=by rw[C]at l;exact l.symm.eq_nil
  rw[G]at r;rw[(Cj C).2,(Cj r.eq_nil).2]
 .have two:K33.LJ f T:=⟨h1.mp,h2.mp,rn,nd⟩;have t:∀e∈T.flatten,cd (gm (uU f T)) (f e)=cd (gm T) e:=λe B=>by
   have u:=l.mem_iff.mpr B;unfold cd;rw[two.rnd B];have pm:=(K31.N2 h1.mp h1.cn u).2.trans l;exact K33.RK ⟨λx n=>rn.odd x (pm.mem_iff.mp n),λx n y H e=>rn.inj x (pm.mem_iff.mp n) y (pm.mem_iff.mp H) e⟩ (K33.D7 h1.mp u)
  obtain⟨s,E,I,J,lo,_,_⟩:=yx h1.mp C;have z:=l.mem_iff.mp I;rw[J];refine Rc (mMq.mpr ⟨f s,r.mem_iff.mpr (mMq.mpr ⟨s,z,rfl⟩),t s z⟩) λe B=>?_
  obtain⟨x,n,rfl⟩:=mMq.mp (r.mem_iff.mp B);rw[t x n];exact lo x (l.mem_iff.mpr n)
end
def Dl(f:Int->Int) (P:List Λ):(P.map (uU f)).flatten=uU f P.flatten:=by
 unfold uU;rw[fE]
def MW{P:List Λ}{f:Int->Int}(h:yh P) (fl:P.flatten.flatten.length<=62) (rn:Qa f P.flatten.flatten):ri P (P.map (uU f)):=by
 have sub:∀T∈P,∀x∈T.flatten,x∈P.flatten.flatten:=λT l x n=>by
  obtain⟨r,hr,n⟩:=mFq.mp n;exact mFq.mpr ⟨r,mFq.mpr ⟨T,l,hr⟩,n⟩
 have s:∀T∈P,Qa f T.flatten:=λT l=>⟨λx n=>rn.odd x (sub T l x n),λx n y z e=>rn.inj x (sub T l x n) y (sub T l y z) e⟩
 have t:(P.map (uU f)).flatten.flatten=P.flatten.flatten.map f:=by rw[Dl,K33.xf]
 have u:yh (P.map (uU f)):=Mi (λU B=>by
  obtain⟨T,l,rfl⟩:=mMq.mp B;exact Wy (h.cn T l) (s T l)) (by rw[t];exact K33.Lf h.pm.nd rn.inj) (by rw[t,lMq];exact fl) (by
  rw[Dl];unfold uU;rw[lMq];exact h.lt) (by rw[lMq];exact h.lp)
 refine⟨h,u,?_⟩;rw[mPq];rw[mCq (g:=(λT=>uq (gm T))∘uU f) λT l=>(Vn (h.pg T l) (u.pg _ (mMq.mpr ⟨T,l,rfl⟩)) (s T l) (K11.CK h.pm l)).symm]
section
variable {nm ot:Ϝ}{bits:Int}
def FN{T:Λ}(hn:Nm nm) (hl:nm.length<=ot.length) (B:∀x∈T.flatten,x∈wj nm) (hf:T.flatten.length<=1000) (hr:T.length<=1000):uJ [dM T,dI nm,dI ot,.int bits]=some (.ow ((uU (KG (zJ nm ot bits nm.length)) T).map aI)):=by
 have C:=hn.len;obtain⟨R,e,r,s,rfl⟩:=uV (x:=5) (body:=wY) (λi S=>∃r s,S=[some (.sh (dM T)),some (.sh (dI nm)),some (.sh (dI ot)),some (.sh (.int bits)),some (.owd (zJ nm ot bits i)),r,s]) (ds:=qc 0 nm.length) (S:=[some (.sh (dM T)),some (.sh (dI nm)),some (.sh (dI ot)),some (.sh (.int bits)),some (.owd []),none,none]) ⟨none,none,rfl⟩ (by
  rintro i d S hd ⟨r,s,rfl⟩;rw[vW,gMq]at hd;obtain⟨U,t,rfl⟩:=oMq.mp hd;obtain⟨l,n⟩:=gSq.mp t;rw[List.getElem_range]at n;subst n;rw[bw]at l;have u:atI (nm.map D.int) (i:Int)=some (.int (nm.getD i 0)):=wH (by rw[gMq,gDq,gEg l];rfl)
  have y:atI (ot.map D.int) (i:Int)=some (.int (ot.getD i 0)):=wH (by rw[gMq,gDq,gEg (show i<ot.length by lia)];rfl)
  have E:=vD (i:=bits) (j:=(i:Int)+2) (by lia) (by lia)
  have m2:=rW (i:=bits / ((i:Int)+2)) (j:=2) (by decide)
  have X:0<=bits / ((i:Int)+2) % 2:=aX _ (by decide)
  have b1:bits / ((i:Int)+2) % 2<2:=aW _ (by decide)
  have G:=IX (i:=2) (j:=bits / ((i:Int)+2) % 2) (by lia) (by lia)
  have H:=GX (i:=ot.getD i 0) (j:=1-2*(bits / ((i:Int)+2) % 2)) (by lia) (by lia)
  have I:ot.getD i 0*(1-2*(bits / ((i:Int)+2) % 2))=K33.DT ot bits i:=rfl;obtain⟨J,L⟩:=K33.Jg (ot:=ot) (bits:=bits) hn l;have M:=yn (d:=D.int (K33.DT ot bits i)) J;have O:=yn (d:=D.int (-(K33.DT ot bits i))) L;have l1:(zJ nm ot bits i).length<rH:=by rw[K33.Nr];show _<16777216;lia
  have l2:(zJ nm ot bits i++[((ar (nm.getD i 0):pE),D.int (K33.DT ot bits i))]).length<rH:=by rw[lAq,K33.Nr];show 2*i+1<16777216;lia
  have fin:zJ nm ot bits i++[((ar (nm.getD i 0):pE),D.int (K33.DT ot bits i))]++[((ar (-(nm.getD i 0)):pE),D.int (-(K33.DT ot bits i)))]=zJ nm ot bits (i+1):=by
   show _=zJ nm ot bits i++[_,_];simp
  refine⟨_,?_,some (.sh (.int (i:Int))),some (.sh (.int (K33.DT ot bits i))),rfl⟩
  simp_arith [wY,dI,u,y,E,m2,G,H,I,M,l1,O,l2,fin])
 have z:FF [.int (nm.length:Int)]=some (qc 0 nm.length):=wL (by lia)
 rw[pX]at e;have P:=K33.RA (kvs:=zJ nm ot bits nm.length) (f:=KG (zJ nm ot bits nm.length)) (T:=T) (λx Q=>K33.U5 hn (B x Q)) hf
 have lT:(T.length<=rH)=True:=eq_true (wW (by lia))
 unfold dM at e ⊢
 simp_arith [uJ,B7,z,e,P,lT]
def Iq{P:List Λ}(hn:Nm nm) (hl:nm.length<=ot.length) {kind:Int}(n:∀T∈P,(∀x∈T.flatten,x∈wj nm)/\T.flatten.length<=1000/\T.length<=1000):qY qA (oZ uJ (oB (oU 0) (oB (oU 1) (oB (oU 2) (oB (kSc (pR zL (oq 3) (rC (.int 18)))) pD))))) [some (.sh (dI nm)),some (.sh (dI ot)),some (.sh (.int kind))] (P.map dM)=some ((P.map (uU (KG (zJ nm ot (kind / 18) nm.length)))).map λU=>.ow (U.map aI)):=by
 rw[Z.qO (λd=>match d with|.list r=>.ow ((uU (KG (zJ nm ot (kind / 18) nm.length)) ((wm r).getD [])).map aI)|_=>.sh .non)]
 .rw [mPq,mPq];refine congrArg some (mCq λG _=>?_)
  show AV.ow ((uU _ ((wm (G.map dI)).getD [])).map aI)=_;rw[vx];rfl
 .intro d hd;obtain⟨T,l,rfl⟩:=mMq.mp hd;obtain⟨a,b,c⟩:=n T l;have ok:=FN (bits:=kind / 18) hn hl a b c;have s:=vD (i:=kind) (j:=18) (by decide) (by decide)
  refine⟨[some (.sh (dM T)),some (.sh (dI nm)),some (.sh (dI ot)),some (.sh (.int kind))],?_⟩;show _=some (AV.ow ((uU _ ((wm (T.map dI)).getD [])).map aI),_);rw[vx,bK]
  simp_arith [s,ok]
end
end K37
namespace K44
open PySem L2 Mr Z Xe Zl
open K15 (Rd kI RE SC Qq)
open K16 (kvI K8 M3 pm NW Hw Qv Oi V5 De)
def SY(c:Int) {n:Nat}(hn:n<=30):∃nm,ux [.int c,.int (n:Int)]=some (aI nm)/\nm.length=n/\nm.Nodup/\∀z∈nm,1<=z:=by
 have key:=uV (x:=4) (body:=vA) (λi S=>∃r last l u,S=[some (.sh (.int r)),some (.sh (.int (n:Int))),some (.sh (.int last)),some (aI l),u]/\l.length=i/\l.Nodup/\(∀z∈l,1<=z/\z<=last)/\0<=last) (ds:=qc 0 n) (S:=[some (.sh (.int c)),some (.sh (.int (n:Int))),some (.sh (.int 0)),some (.ow []),none])
  ⟨c,0,[],none,rfl,rfl,aT,λz s=>(by cases s),by decide⟩ (by
  rintro i d S hd ⟨r,last,l,u,rfl,hl,t,hr,y⟩;have L:i<n:=by
   have:=(gSq.mp hd).1
   rwa [pX]at this
  have m1:=rW (i:=r) (j:=10 ^ 57) (by decide)
  have m2:=aX r (b:=10 ^ 57) (by decide)
  have d1:=Oi (i:=r) (j:=10 ^ 57) (by decide) (by decide +kernel)
  have B:=V5;have C:l.length<rH:=by show _<16777216;lia
  generalize E:last+1+r % 10 ^ 57=x;have G:last+1<=x:=by lia
  have H:l.map (λn=>AV.sh (.int n))++[.sh (.int x)]=(l++[x]).map λn=>.sh (.int n):=by rw[mBq];rfl
  refine⟨[some (.sh (.int (r / 10 ^ 57))),some (.sh (.int (n:Int))),some (.sh (.int x)),some (aI (l++[x])),some (.sh d)],?_,r / 10 ^ 57,x,l++[x],some (.sh d),rfl,by rw[lAq,hl];rfl,?_,?_,by lia⟩
  .simp_arith [vA,B,m1,E,d1,C,H]
  .rw [nAq];refine⟨t,by simp,λa ha b I e=>?_⟩
   rw[mSq.mp I]at e;have:=hr a ha;lia
  .intro z s;rcases mAq.mp s with s|s
   .have:=hr z s;exact⟨this.1,by lia⟩
   .rw [mSq.mp s];exact⟨by lia,gk _⟩)
 obtain⟨M,e,r,last,l,u,rfl,hl,t,hr,y⟩:=key;rw[pX]at hl;have J:=wL (n:=n) (by lia)
 refine⟨l,?_,hl,t,λz s=>(hr z s).1⟩
 simp_arith [ux,Ay,J,e]
def Jc(c:Int) {l:Ϝ}(hl:l.length<=60):∃d,yz [.int c,dI l]=some (aI d)/\d.Perm l:=by
 have key:=uV (x:=4) (body:=yP) (λi S=>∃cell left r y,S=[some (.sh (.int cell)),some (.sh (dI l)),some (aI left),some (aI r),y]/\left.length+i=l.length/\r.length=i/\(r++left).Perm l) (ds:=qc 0 l.length) (S:=[some (.sh (.int c)),some (.sh (dI l)),some (aI l),some (.ow []),none])
  ⟨c,l,[],none,rfl,rfl,rfl,.refl _⟩ (by
  rintro i d S hd ⟨cell,l2,u,y,rfl,h2,C,pm⟩;have X:i<l.length:=by
   have:=(gSq.mp hd).1
   rwa [pX]at this
  have s:(0:Int)<((l2.length:Nat):Int):=by lia
  have m1:=rW (i:=cell) (j:=((l2.length:Nat):Int)) s;have Y:=aX cell (b:=((l2.length:Nat):Int)) (by lia)
  have b1:=aW cell s;obtain⟨k,hk⟩:∃k:Nat,cell % ((l2.length:Nat):Int)=(k:Int):=⟨(cell % ((l2.length:Nat):Int)).toNat,by lia⟩
  have z:k<l2.length:=by lia
  have E:l2[k]?=some (l2.getD k 0):=by rw[gDq,gEg z];rfl
  have G:=λa=>K12.Dt a z
  generalize l2.getD k 0=x at E G;have B:(l2.map λn=>AV.sh (D.int n))[k]?=some (.sh (.int x)):=by rw[gMq,E];rfl
  have H:(0:Int)<=(k:Int):=by lia
  have I:(k:Int)<((l2.length:Nat):Int):=by lia
  have J:l2.length<=rH:=by show _<=16777216;lia
  have L:=De (λn=>AV.sh (D.int n)) l2 k
  have t:(l2.eraseIdx k).length=l2.length-1:=List.length_eraseIdx_of_lt z;have d1:=vD (i:=cell) (j:=((l2.eraseIdx k).length:Int)+1) (by lia) (by rw[t];lia)
  have M:=df k;have lf:u.length<rH:=by show _<16777216;lia
  have O:u.map (λn=>AV.sh (.int n))++[.sh (.int x)]=(u++[x]).map λn=>.sh (.int n):=by rw[mBq];rfl
  have P:=oY l2;have Q:=oY (l2.eraseIdx k);refine⟨[some (.sh (.int (cell / (((l2.eraseIdx k).length:Int)+1)))),some (.sh (dI l)),some (aI (l2.eraseIdx k)),some (aI (u++[x])),some (.sh d)],?_,_,_,_,_,rfl,by rw[t];lia,by rw[lAq,C];rfl,?_⟩
  .simp_arith [yP,P,Q,dI,m1,hk,H,I,J,and_self,M,B,L,lf,O,d1]
  .refine dv.mpr λa=>?_
   have:=dv.mp pm a;have:=G a;simp only[cAq]at *;lia)
 obtain⟨S',e,cell,left,r,y,rfl,h2,C,pm⟩:=key;rw[pX]at h2;have:left=[]:=aY.mp (by lia)
 subst this;rw[aNq]at pm;have R:=wL (n:=l.length) (by lia)
 have U:((l.map D.int).map AV.sh)=l.map λn=>AV.sh (.int n):=by rw[mPq];rfl
 refine⟨r,?_,pm⟩;simp -implicitDefEqProofs only [Z.VY,dt,dE,cQ,cT,bW,↓reduceIte,reduceCtorEq,dI]at e
 simp_arith [yz,Fe,dI,R,U,e]
theorem Wb:∀(l n:List (Int×Int)),(n.map (·.1)++l.map (·.1)).Nodup->l.foldl (λm p=>wI m (.inl p.1) (.int p.2)) (kvI n)=kvI (n++l)
 | [],n,_=>by rw[aNq];rfl
 |p::l,n,h=>by
  rw[bA];have r:p.1∉n.map (·.1):=λq=>(nAq.mp h).2.2 p.1 q p.1 (by simp) rfl
  rw[K8 r,show (p.1,p.2)=p from rfl,Wb l (n++[p]) (by rw[mBq,aV];exact h),aV]
  rfl
theorem zip_fst:∀{a b:Ϝ},a.length=b.length->(a.zip b).map (·.1)=a
 | [],b,_=>by simp
 |x::a,[],h=>by simp at h
 |x::a,y::b,h=>by
  rw[cW,ax,zip_fst (by simpa using h)]
def Ws{E d:Ϝ}(l:E.Nodup) (h:E.length=d.length):dz E d=kvI (E.zip d):=by
 unfold dz;have:=Wb (E.zip d) [] (by rw[zip_fst h];exact l)
 exact this
def fl(P:List (Int×Int)) (x:Int):Int:=match Z.getD (kvI P) (.inl x) with
 |some (.int y)=>y
 |_=>0
def NP{E d:Ϝ}(r:E.Nodup) (h:E.length=d.length) {i:Nat}{x:Int}(l:E[i]?=some x):∃y,d[i]?=some y/\Z.getD (kvI (E.zip d)) (.inl x)=some (.int y)/\fl (E.zip d) x=y:=by
 have t:=(gSq.mp l).1;have n:d[i]?=some d[i]:=gEg (by lia)
 have s:(x,d[i])∈E.zip d:=mGq (bN.mpr ⟨l,n⟩);have g:Z.getD (kvI (E.zip d)) (.inl x)=some (.int d[i]):=by
  rw[M3];refine K15.zW ?_ (mMq.mpr ⟨_,s,rfl⟩);have h1:((E.zip d).map λp=>((ar p.1:pE),p.2)).map (·.1)=E.map ar:=by
   rw[mPq,←zip_fst h,mPq,zip_fst h];rfl
  rw[h1,aG,aF];exact(aG.mp r).imp λh q=>h (ar.inj q)
 refine⟨_,n,g,?_⟩;unfold fl;rw[g]
def Sm{E d:Ϝ}(l:E.Nodup) (r:d.Perm E):TC (fl (E.zip d)) E:=by
 have hl:=r.length_eq.symm;have nd:=r.nodup_iff.mpr l;refine⟨l,λe x=>?_,λa ha b z q=>?_⟩
 .obtain ⟨i,n⟩:=ak.mp x;obtain⟨y,h1,_,h2⟩:=NP l hl n;rw[h2];exact r.mem_iff.mp (mGq h1)
 .obtain ⟨i,n⟩:=ak.mp ha;obtain⟨j,s⟩:=ak.mp z;obtain⟨y,h1,_,h2⟩:=NP l hl n;obtain⟨B,t,_,u⟩:=NP l hl s;rw[h2,u]at q;subst q;have:=(List.getElem?_inj (i:=i) (j:=j) (gSq.mp h1).1 nd).mp (by rw[h1,t])
  subst this;rw[n]at s;exact aN.inj s
def mu6(N:Nat):AS->Nat
 | [_,_,_,_,_,_,_,_,some (.ow l),_]=>N+1-l.length
 |_=>0
section
variable {E d:Ϝ}{v0 v1 v2 v3 v9:Option AV}
def Vp(G:E.Nodup) (H:d.Perm E) (hl:E.length<=60) {e:Int}(I:e∈E) {v5 v6:Option AV}:∃l,Cy (fl (E.zip d)) e l/\l.length<=E.length/\tO (tK (pR Le (tX (oq 4) (pR HU (oq 8) (Ea xx (rC (.int 1))))) (oq 7))) vd 100000 [v0,v1,v2,v3,some (.owd (kvI (E.zip d))),v5,v6,some (.sh (.int e)),some (.ow [.sh (.int e)]),v9]=some (.nx [v0,v1,v2,v3,some (.owd (kvI (E.zip d))),v5,v6,some (.sh (.int e)),some (aI l),v9]):=by
 have one:=Sm G H;obtain⟨l,cy,u,s⟩:=one.cy I;have x:∀n,Z.getD (kvI (E.zip d)) (.inl (itr (fl (E.zip d)) n e))=some (.int (itr (fl (E.zip d)) (n+1) e)):=λn=>by
  obtain⟨i,M⟩:=ak.mp (one.itr_mem I n);obtain⟨y,_,h1,h2⟩:=NP G H.length_eq.symm M;rw[h1,←h2];rfl
 refine⟨l,cy,u,?_⟩;have key:=Ae (c:=tK (pR Le (tX (oq 4) (pR HU (oq 8) (Ea xx (rC (.int 1))))) (oq 7))) (body:=vd) (λS=>∃n,n<l.length/\S=[v0,v1,v2,v3,some (.owd (kvI (E.zip d))),v5,v6,some (.sh (.int e)),some (aI (l.take (n+1))),v9]) (mu6 l.length) (λS=>S=[v0,v1,v2,v3,some (.owd (kvI (E.zip d))),v5,v6,some (.sh (.int e)),some (aI l),v9]) (by
  rintro S ⟨n,hn,rfl⟩;have z:=cy.at hn;have B:=x n;have C:=oY (l.take (n+1));have r:atI ((l.take (n+1)).map D.int) (-1)=some (.int (itr (fl (E.zip d)) n e)):=by
   rw[qv z,mBq];exact Jo _ _
  by_cases h2:n+1<l.length
  .have ne:=s (n+1) (by lia) h2
   have t:=cy.at h2;have l2:(l.take (n+1)).length<rH:=by rw[lTq];show _<16777216;lia
   have O:(l.take (n+1)).map (λn=>AV.sh (.int n))++[.sh (.int (itr (fl (E.zip d)) (n+1) e))]=(l.take (n+1+1)).map λn=>.sh (.int n):=by rw[qv t,mBq];rfl
   refine⟨true,[v0,v1,v2,v3,some (.owd (kvI (E.zip d))),v5,v6,some (.sh (.int e)),some (aI (l.take (n+1))),v9],?_,λ_=>⟨[v0,v1,v2,v3,some (.owd (kvI (E.zip d))),v5,v6,some (.sh (.int e)),some (aI (l.take (n+1+1))),v9],?_,⟨n+1,h2,rfl⟩,?_⟩,λq=>(nomatch q)⟩
   .have nd:(!decide (itr (fl (E.zip d)) (n+1) e=e))=true:=by rw[decide_eq_false ne];rfl
    simp_arith [C,dI,r,B,nd]
   .simp_arith [vd,C,dI,r,B,l2,O]
   .show l.length+1-_<l.length+1-_;simp only[lMq,lTq];lia
  .have J:n+1=l.length:=by lia
   have nd:(!decide (itr (fl (E.zip d)) (n+1) e=e))=false:=by rw[J,cy.back];simp
   refine⟨false,[v0,v1,v2,v3,some (.owd (kvI (E.zip d))),v5,v6,some (.sh (.int e)),some (aI (l.take (n+1))),v9],?_,λq=>(nomatch q),λ_=>by rw[J,bh]⟩
   simp_arith [C,dI,r,B,nd])
 have L:=cy.at (i:=0) (by have:=cy.len;lia)
 have ht:l.take 1=[e]:=by
  cases l with
  |nil=>simp at L
  |cons a l =>
   have:a=e:=aN.inj L;rw[this];rfl
 obtain⟨Q,P,rfl⟩:=key 100000 [v0,v1,v2,v3,some (.owd (kvI (E.zip d))),v5,v6,some (.sh (.int e)),some (.ow [.sh (.int e)]),v9] ⟨0,by have:=cy.len;lia,by rw[aU,ht];rfl⟩ (by
  show l.length+1-1<100000;lia)
 exact P
def SN{kn l:Ϝ}{v4 v5 v7 v8:Option AV}(hn:(kn++l).Nodup) (hl:kn.length+l.length<500000):∃n,ur 9 ve (l.map D.int) [v0,v1,v2,v3,v4,v5,some (.owd (kI kn)),v7,v8,v9]=some (.nx [v0,v1,v2,v3,v4,v5,some (.owd (kI (kn++l))),v7,v8,n]):=by
 have key:=uV (x:=9) (body:=ve) (λi S=>∃n,S=[v0,v1,v2,v3,v4,v5,some (.owd (kI (kn++l.take i))),v7,v8,n]) (ds:=l.map D.int) (S:=[v0,v1,v2,v3,v4,v5,some (.owd (kI kn)),v7,v8,v9]) ⟨v9,by simp⟩ (by
  rintro i d S hd ⟨r,rfl⟩;rw[gMq]at hd;obtain⟨e,t,rfl⟩:=oMq.mp hd;have y:=(gSq.mp t).1;have s:e∉kn++l.take i:=λm=>by
   have h2:(kn++l.take (i+1)).Nodup:=bg.sublist (bT.append (bT.refl kn) (cG (i+1) l)) hn;rw[qv t,←aV]at h2;exact(nAq.mp h2).2.2 e m e (by simp) rfl
  have u:=SC s;rw[aV,←qv t]at u;have l1:(kI (kn++l.take i)).length<rH:=by rw[Qq,lAq,lTq];show _<16777216;lia
  refine⟨_,?_,some (.sh (.int e)),rfl⟩
  simp_arith [ve,l1,u])
 obtain⟨z,e,r,rfl⟩:=key;rw[lMq,bh]at e;exact⟨r,e⟩
def Sl(I:E.Nodup) (J:d.Perm E) (hl:E.length<=60):∃L v6 v7 v8 n,ur 7 tW (E.map D.int) [v0,v1,v2,v3,some (.owd (kvI (E.zip d))),some (.ow []),some (.owd []),none,none,none]=some (.nx [v0,v1,v2,v3,some (.owd (kvI (E.zip d))),some (K13.oM L),v6,v7,v8,n])/\Orb (fl (E.zip d)) E L/\L.length<=E.length:=by
 have one:=Sm I J;have key:=uV (x:=7) (body:=tW) (λi S=>∃s L v7 v8 n,S=[v0,v1,v2,v3,some (.owd (kvI (E.zip d))),some (K13.oM L),some (.owd (kI s)),v7,v8,n]/\Rd (fl (E.zip d)) E s L/\L.length<=i/\∀j x,j<i->E[j]?=some x->x∈s) (ds:=E.map D.int) (S:=[v0,v1,v2,v3,some (.owd (kvI (E.zip d))),some (.ow []),some (.owd []),none,none,none]) ⟨[],[],none,none,none,rfl,⟨by simp,rfl,aT,by simp,by simp⟩,ab _,λj x h=>absurd h (cw _)⟩ (by
  rintro i dd S hd ⟨s,L,v7,v8,n,rfl,hr,Q,r⟩;rw[gMq]at hd;obtain⟨e,C,rfl⟩:=oMq.mp hd;have Y:=(gSq.mp C).1;have y:e∈E:=mGq C;have G:=RE s e
  by_cases c:e∈s
  .rw [decide_eq_true c]at G;refine⟨[v0,v1,v2,v3,some (.owd (kvI (E.zip d))),some (K13.oM L),some (.owd (kI s)),some (.sh (.int e)),v8,n],?_,s,L,_,_,_,rfl,hr,by lia,λj x u t=>?_⟩
   .simp_arith [tW,G]
   .rcases cz.mp u with q|rfl
    .exact r j x q t
    .rw [C]at t;cases t;exact c
  .rw [decide_eq_false c]at G;obtain⟨l,cy,R,M⟩:=Vp I J hl y (v0:=v0) (v1:=v1) (v2:=v2) (v3:=v3) (v9:=n) (v5:=some (K13.oM L)) (v6:=some (.owd (kI s)));have z:=hr.add one cy y c;have U:=W9 _ _ hr.nd hr.sub;obtain⟨B,H⟩:=SN (kn:=s) (l:=l) (v0:=v0) (v1:=v1) (v2:=v2) (v3:=v3) (v4:=some (.owd (kvI (E.zip d)))) (v5:=some (K13.oM L)) (v7:=some (.sh (.int e))) (v8:=some (.sh (dI l))) (v9:=n) z.nd (by lia)
   have X:=oY l;have l1:L.length<rH:=by show _<16777216;lia
   have O:(L.map λl=>AV.sh (dI l))++[.sh (dI l)]=(L++[l]).map λl=>.sh (dI l):=by rw[mBq];rfl
   refine⟨[v0,v1,v2,v3,some (.owd (kvI (E.zip d))),some (K13.oM (L++[l])),some (.owd (kI (s++l))),some (.sh (.int e)),some (.sh (dI l)),B],?_,s++l,L++[l],_,_,_,rfl,z,by rw[lAq,lSq];lia,λj x u t=>?_⟩
   .unfold K13.oM at M H ⊢;simp -implicitDefEqProofs only [Z.VY,dt,dE,cQ,cT,bW,↓reduceIte,reduceCtorEq,dI]at H
    simp_arith [tW,G,M,X,dI,H,l1]
    simp -implicitDefEqProofs only [Z.VY,dt,dE,cQ,cT,bW,↓reduceIte,reduceCtorEq,dI]at O
    first|rw[O]|simp
   .rcases cz.mp u with q|rfl
    .exact mAq.mpr (.inl (r j x q t))
    .rw [C]at t;cases t;exact mAq.mpr (.inr cy.self))
 obtain⟨S',e,s,L,v7,v8,n,rfl,hr,P,r⟩:=key;rw[lMq]at P;refine⟨L,_,_,_,_,e,hr.orb λx t=>?_,P⟩
 obtain⟨j,u⟩:=ak.mp t;exact r j x (by rw[lMq];exact(gSq.mp u).1) u
end
def PJ{nm:Ϝ}(hn:nm.length<=30) {v0 v1 v3:Option AV}:∃l,ur 3 vh (nm.map D.int) [v0,v1,some (.ow []),v3,none,none,none,none,none,none]=some (.nx [v0,v1,some (aI (pm nm)),l,none,none,none,none,none,none]):=by
 have key:=uV (x:=3) (body:=vh) (λi S=>∃l,S=[v0,v1,some (aI (pm (nm.take i))),l,none,none,none,none,none,none]) (ds:=nm.map D.int) (S:=[v0,v1,some (.ow []),v3,none,none,none,none,none,none]) ⟨v3,rfl⟩ (by
  rintro i d S hd ⟨l,rfl⟩;rw[gMq]at hd;obtain⟨x,r,rfl⟩:=oMq.mp hd;have s:(pm (nm.take i)).length+2<=rH:=by rw[Hw,lTq];show _<=16777216;lia
  have t:(pm (nm.take i)).map (λn=>AV.sh (.int n))++[.sh (.int x),.sh (.int (-x))]=(pm (nm.take (i+1))).map λn=>.sh (.int n):=by rw[qv r,NW,mBq];rfl
  refine⟨_,?_,some (.sh (.int x)),rfl⟩
  simp_arith [vh,s,t])
 obtain⟨u,e,l,rfl⟩:=key;rw[lMq,bh]at e;exact⟨l,e⟩
structure Mt (T:Λ):Prop where
 nd:T.flatten.Nodup
 ng:∀z∈T.flatten, -z∈T.flatten
 nz:∀z∈T.flatten,z≠0
 le:T.flatten.length<=60
 lt:T.length<=64
 ne:∀r∈T,r≠[]
def LC(c:Int) {nm:Ϝ}(hn:nm.length<=30) (nd:nm.Nodup) (lo:∀z∈nm,1<=z):∃T,xD [.int c,dI nm]=some (K13.oM T)/\Mt T/\T.flatten.Perm (pm nm):=by
 have u:(pm nm).Nodup:=K12.Cc nd lo;have I:∀z∈pm nm, -z∈pm nm:=λz n=>Qv n
 have x:(pm nm).length<=60:=by rw[Hw];lia
 have J:∀z∈pm nm,z≠0:=λz n q=>by
  obtain⟨y,O,c⟩:=bC.mp n;have:=lo y O;simp at c;lia
 obtain⟨P,B⟩:=PJ hn (v0:=some (.sh (.int c))) (v1:=some (.sh (dI nm))) (v3:=none);generalize pm nm=E at u I x J B;obtain⟨d,M,C⟩:=Jc c (l:=E) x;have G:=Ws u C.length_eq.symm;have s:=Pp (ns:=E) (ms:=d) C.length_eq.symm;rw[G]at s;obtain⟨L,S,U,X,Y,H,o,lL⟩:=Sl u C x (v0:=some (.sh (.int c))) (v1:=some (.sh (dI nm))) (v2:=some (.sh (dI E))) (v3:=P);have t:L.flatten.Perm E:=(eK o.dj u).mpr o.all;refine⟨L,?_,⟨o.dj,λz n=>t.mem_iff.mpr (I z (t.mem_iff.mp n)),λz n=>J z (t.mem_iff.mp n),by rw[t.length_eq];exact x,by lia,λr hr e=>by obtain⟨z,c⟩:=o.cy r hr;have:=c.len;rw[e]at this;simp at this⟩,t⟩
 have Q:=oY E;have R:=oY d;unfold K13.oM at H ⊢;simp -implicitDefEqProofs only [Z.VY,dt,dE,cQ,cT,bW,↓reduceIte,reduceCtorEq,dI]at B H M
 simp_arith [xD,Cr,dI,B,aaG,Q,M,R,s,H]
end K44
namespace K40
open PySem L2 Mr Z Zl
open K15 (nx fw)
open K39 (Au okB af rwA auL)
def pr(f:Int->Int) (E:Ϝ):Λ:=(qj E).map λx=>[x,f x]
def B3{E:Ϝ}(h:E.Nodup):(qj E).Nodup:=(qH E).nodup_iff.mpr h
def yW{a b:Ϝ}(h:a.Perm b):qj a=qj b:=Io ((qH a).trans h) (xA a)
def HP(f:Int->Int) {E:Ϝ}(hn:E.Nodup):Do (E.map λx=>[x,f x])=pr f E:=by
 symm;refine Bx ((qH E).map _) ?_;unfold pr;rw[aF];have h1:=xA E;have h2:=aG.mp (B3 hn);refine(bg.and h1 h2).imp λ{x y} h=>?_
 have n:=h.1;have l:=h.2;rw[HT.vq,qh λe=>l e.symm]
 exact decide_eq_false (by lia)
def C9(f:Int->Int) (E:Ϝ):(pr f E).length=E.length:=by unfold pr;rw[lMq,(qH E).length_eq]
def S7(f:Int->Int) (E:Ϝ):∀r∈pr f E,r.length=2:=λr hr=>by
 obtain⟨x,_,rfl⟩:=mMq.mp hr;rfl
def XR(f:Int->Int) (E:Ϝ):(pr f E).map (·.getD 0 0)=qj E:=by
 unfold pr;rw[mPq];exact fU _
def WX(f:Int->Int) (E:Ϝ):(pr f E).map (·.getD 1 0)=(qj E).map f:=by
 unfold pr;rw[mPq];rfl
def kf(f:Int->Int) (E:Ϝ):List (pE×D):=(qj E).map λx=>(ar x,.int (f x))
def QU(f:Int->Int) {E:Ϝ}(hn:E.Nodup):dz (qj E) ((qj E).map f)=kf f E:=by
 rw[K44.Ws (B3 hn) (by rw[lMq])]
 unfold K16.kvI kf;have:∀l:Ϝ,l.zip (l.map f)=l.map λx=>(x,f x):=λl=>by
  induction l with
  |nil=>rfl
  |cons x l n=>rw[ax,cW,n];rfl
 rw[this,mPq];rfl
def Ed(f:Int->Int) {E:Ϝ}(hn:E.Nodup) {x:Int}(l:x∈E):Z.getD (kf f E) (.inl x)=some (.int (f x)):=by
 have e:kf f E=K51.Bv ((qj E).map λx=>((ar x:pE),f x)):=by
  unfold kf K51.Bv;rw[mPq];rfl
 rw[e];refine K15.zW ?_ (mMq.mpr ⟨x,(qH E).mem_iff.mpr l,rfl⟩);rw[mPq];rw[aG,aF];exact(aG.mp (B3 hn)).imp λn e=>n (ar.inj e)
def Qj(f:Int->Int) (E:Ϝ):qY qA (kSc (pR vV (oq 0) (rC (.int 0)))) [] ((pr f E).map uT)=some ((qj E).map λn=>.sh (.int n)):=by
 rw[Z.qO λd=>match d with|.tup (x::_)=>.sh x|_=>.sh .non]
 .unfold pr;rw[mPq,mPq];rfl
 .intro d hd;obtain⟨r,hr,rfl⟩:=mMq.mp hd;obtain⟨x,_,rfl⟩:=mMq.mp hr;have l:vV (uT [x,f x]) (.int 0)=some (.int x):=rfl;refine⟨[some (.sh (uT [x,f x]))],?_⟩
  simp_arith [l]
  rfl
def QB(f:Int->Int) (E:Ϝ):qY qA (kSc (pR vV (oq 0) (rC (.int 1)))) [] ((pr f E).map uT)=some (((qj E).map f).map λn=>.sh (.int n)):=by
 rw[Z.qO λd=>match d with|.tup (_::y::_)=>.sh y|_=>.sh .non]
 .unfold pr;rw[mPq,mPq,mPq];rfl
 .intro d hd;obtain⟨r,hr,rfl⟩:=mMq.mp hd;obtain⟨x,_,rfl⟩:=mMq.mp hr;have l:vV (uT [x,f x]) (.int 1)=some (.int (f x)):=rfl;refine⟨[some (.sh (uT [x,f x]))],?_⟩
  simp_arith [l]
  rfl
def NX(m:Λ):BD (.list (m.map uT)) (.list (m.map uT))=some (.bl false):=by
 have:B6 (.list (m.map uT)) (.list (m.map uT))=some (.bl true):=K35.Ic (Wc m) (by decide)
 unfold BD;rw[this];rfl
end K40
namespace K36
open PySem L2 Mr Z Zl
open K12 (gm qt)
open K31 (rnd Dj)
open K15 (nx)
open K37 (Pg yh ri lr uq cd bc AB Ls yl EZ yx A0 Cv Xj)
open K39 (FW LK Mf Fm code_flat)
open K40 (pr kf B3 yW HP C9 S7 XR WX QU Ed Qj QB NX)
def QP{G l:Λ}(E:Mp G) (r:Mp l) (hc:Dj G) (X:Dj l) {s e:Int}(L:s∈G.flatten) (M:e∈l.flatten) (h:K33.code (rnd l e).1=K33.code (rnd G s).1) :
  ∀(i:Nat) (x y:Int),(rnd G s).1.flatten[i]?=some x->(rnd l e).1.flatten[i]?=some y->(∃j:Nat,(rnd G s).1.flatten[j]?=some (-x)/\(rnd l e).1.flatten[j]?=some (-y))/\∃j:Nat,(rnd G s).1.flatten[j]?=some (nx G x)/\(rnd l e).1.flatten[j]?=some (nx l y):=by
 have O:=K32.Qr E L;have P:=K32.Qr r M;have S:=K33.D7 E L;have g2:=K33.D7 r M;generalize (rnd G s).1=Q at h O S;generalize (rnd l e).1=R at h P g2;have hl:Q.map aZ=R.map aZ:=by rw[←Fm,←Fm R,h]
 intro i x y a b;have hf:Q.flatten.idxOf (-x)=R.flatten.idxOf (-y):=by
  have q:=congrArg (λc=>c.flatten[i]?) h
  rw[code_flat,code_flat,gMq,gMq,a,b]at q;have q:((R.flatten.idxOf (-y):Nat):Int)=(Q.flatten.idxOf (-x):Nat):=by simpa using q
  lia
 refine⟨⟨Q.flatten.idxOf (-x),LK (S x (mGq a)),by rw[hf];exact LK (g2 y (mGq b))⟩,?_⟩
 obtain⟨q,c,k,H,hk,Y⟩:∃q c k,Q[c]?=some q/\q[k]?=some x/\i=(Q.take c).flatten.length+k:=flat_at a;have hkl:=(gSq.mp hk).1;have B:=congrArg (·[c]?) hl;rw[gMq,gMq,H]at B;obtain⟨t,ht,C⟩:=oMq.mp B.symm;have u:(k+1) % q.length<q.length:=hV _ (by lia)
 obtain⟨I,z⟩:∃I,q[(k+1) % q.length]?=some I:=⟨_,gEg u⟩;obtain⟨J,n⟩:∃J,t[(k+1) % t.length]?=some J:=⟨_,gEg (by rw[C];exact u)⟩
 have U:t[k]?=some y:=by
  rw[←K32.Et ht (by lia),←Mf hl,←Y]
  exact b
 obtain⟨d1,o1,d2,d3,e1⟩:=O.row q (mGq H);obtain⟨d4,o2,d5,d6,e2⟩:=P.row t (mGq ht);have n1:nx G x=I:=by
  rw[e1]at hk z;exact K32.Qn E.hn d2 d3 hk z
 have n2:nx l y=J:=by
  rw[e2]at U n;exact K32.Qn r.hn d5 d6 U n
 rw[n1,n2];rw[C]at n;exact⟨(Q.take c).flatten.length+(k+1) % q.length,(K32.Et H u).trans z,by rw[Mf hl];exact(K32.Et ht (by lia)).trans n⟩
where
 flat_at:∀{Q:Λ}{i:Nat}{x:Int},Q.flatten[i]?=some x->∃q c k,Q[c]?=some q/\q[k]?=some x/\i=(Q.take c).flatten.length+k
  | [],i,x,h=>by cases h
  |q::Q,i,x,h=>by
   rw[fCq]at h
   by_cases c:i<q.length
   .rw [gZq c]at h;exact⟨q,0,i,rfl,h,by simp⟩
   .rw [gYq (by lia)]at h
    obtain⟨q',c',k,h1,h2,h3⟩:=flat_at h;refine⟨q',c'+1,k,h1,h2,?_⟩;rw[hX,fCq,lAq];lia
def Yc{G l:Λ}(h:Pg G) (h':Pg l) (e:uq G=uq l) (i:Nat) (x y:Int) (n:(lr G)[i]?=some x) (r:(lr l)[i]?=some y):(∃j:Nat,(lr G)[j]?=some (-x)/\(lr l)[j]?=some (-y))/\∃j:Nat,(lr G)[j]?=some (nx G x)/\(lr l)[j]?=some (nx l y):=by
 have C:G.flatten≠[]:=λq=>by
  have:=(yl h).pm;rw[q]at this;rw[this.eq_nil]at n;cases n
 have t:l.flatten≠[]:=λq=>by
  have:=(yl h').pm;rw[q]at this;rw[this.eq_nil]at r;cases r
 obtain⟨s,E,H,I,_,J,_⟩:=yx h.mp C;obtain⟨L,P,u,z,_,B,_⟩:=yx h'.mp t;have M:lr G=(rnd G s).1.flatten:=by unfold K37.lr;rw[J]
 have O:lr l=(rnd l L).1.flatten:=by unfold K37.lr;rw[B]
 rw[M]at n ⊢;rw[O]at r ⊢;exact QP h.mp h'.mp h.cn h'.cn H u (by rw[I,z]at e;exact e.symm) i x y n r
structure Ly (M N:Λ) (f:Int->Int):Prop where
 mem:∀x∈M.flatten,f x∈N.flatten
 odd:∀x∈M.flatten,f (-x) = -(f x)
 nx:∀x∈M.flatten,f (nx M x)=nx N (f x)
 pm:(M.flatten.map f).Perm N.flatten
section
variable {P Q:List Λ}
theorem NV:∀{A B:List Λ},(∀G∈A,Pg G)->(∀G∈B,Pg G)->A.map uq=B.map uq->AB A B=aR (λx y=>[x,y]) (A.flatMap lr) (B.flatMap lr)
 | [],B,_,_,_=>rfl
 |G::A,[],_,_,h=>by cases h
 |G::A,G'::B,hA,hB,h=>by
  obtain⟨h1,h2⟩:=iA.inj h;show (aR (λx y=>[x,y]) (lr G) (lr G'))++AB A B=_
  rw[bE,bE,List.zipWith_append (EZ (hA G (ai ..)) (hB G' (ai ..)) h1),NV (λG l=>hA G (mCo _ l)) (λG l=>hB G (mCo _ l)) h2]
def SV{E E':Ϝ}{x y:Int}(h:[x,y]∈aR (λx y=>[x,y]) E E'):∃i:Nat,E[i]?=some x/\E'[i]?=some y:=by
 obtain⟨i,l⟩:=ak.mp h;rw[bR]at l;cases a:E[i]? with
 |none=>rw[a]at l;cases l
 |some n =>
  cases b:E'[i]? with
  |none=>rw[a,b]at l;cases l
  |some r =>
   rw[a,b]at l;cases l;exact⟨i,a,b⟩
def Lb{E E':Ϝ}{x y:Int}{i:Nat}(a:E[i]?=some x) (b:E'[i]?=some y):[x,y]∈aR (λx y=>[x,y]) E E':=by
 refine mGq (i:=i) ?_;rw[bR,a,b]
def S8{M G:Λ}(t:M.flatten.Nodup) (u:G.flatten.Nodup) (sub:∀r∈G,r∈M) {x:Int}(z:x∈G.flatten):nx M x=nx G x:=by
 obtain⟨r,hr,l⟩:=mFq.mp z;obtain⟨j,n⟩:=ak.mp l;have hl:=(gSq.mp n).1;obtain⟨y,s⟩:∃y,r[(j+1) % r.length]?=some y:=⟨_,gEg (hV _ (by lia))⟩
 rw[K32.QY t (sub r hr) n s,K32.QY u hr n s]
def yh.rows(h:yh P) {G:Λ}(l:G∈bc P):∀r∈G,r∈gm P.flatten:=λr hr=>by
 obtain⟨T,n,rfl⟩:=mMq.mp ((A0 P).mem_iff.mp ((Cv P).mem_iff.mp l));obtain⟨t,ht,rfl⟩:=mMq.mp ((qt T).mem_iff.mp hr);exact K11.LR h.pm n ht
theorem yh.mp(h:yh P):Mp (gm P.flatten):=⟨h.pm.mp.hn,h.pm.mp.hl,h.pm.mp.hr,h.pm.mp.hneg⟩
def yh.ends(h:yh P):((bc P).flatMap lr).Perm (gm P.flatten).flatten:=h.all.trans (K31.uE _).symm
def lay(P Q:List Λ) (x:Int):Int:=((bc Q).flatMap lr).getD (((bc P).flatMap lr).idxOf x) 0
def ri.zip(h:ri P Q):AB (bc P) (bc Q)=aR (λx y=>[x,y]) ((bc P).flatMap lr) ((bc Q).flatMap lr):=NV h.f1.bcm h.f2.bcm h.bl
def ri.nd1(h:ri P Q):((bc P).flatMap lr).Nodup:=(yh.ends h.f1).nodup_iff.mpr (yh.mp h.f1).hn
def La(h:ri P Q) {x y:Int}(l:[x,y]∈AB (bc P) (bc Q)):lay P Q x=y:=by
 rw[ri.zip h]at l;obtain⟨i,a,b⟩:=SV l;unfold lay;rw[FW (ri.nd1 h) a,gDq,b];rfl
def ri.len2(h:ri P Q):((bc P).flatMap lr).length=((bc Q).flatMap lr).length:=by
 have a:=h.len;rw[ri.zip h,eO]at a;have b:=h.f1.all.length_eq;have q:∀{A B:List Λ},(∀G∈A,Pg G)->(∀G∈B,Pg G)->A.map uq=B.map uq->(A.flatMap lr).length=(B.flatMap lr).length:=λ{A}=>by
  induction A with
  |nil =>
   intro B _ _ h;cases B with
   |nil=>rfl
   |cons _ _=>cases h
  |cons G A s =>
   intro B n r h;cases B with
   |nil=>cases h
   |cons t B =>
    obtain⟨h1,h2⟩:=iA.inj h;rw[bE,bE,lAq,lAq,EZ (n G (ai ..)) (r t (ai ..)) h1,s (λG l=>n G (mCo _ l)) (λG l=>r G (mCo _ l)) h2]
 exact q h.f1.bcm h.f2.bcm h.bl
def Vy(h:ri P Q) {x:Int}(n:x∈(gm P.flatten).flatten):∃y,[x,y]∈AB (bc P) (bc Q):=by
 obtain⟨i,l⟩:=ak.mp ((yh.ends h.f1).mem_iff.mpr n);have hl:=(gSq.mp l).1;rw[ri.len2 h]at hl;rw[ri.zip h];exact⟨_,Lb l (gEg hl)⟩
def Fk(h:ri P Q) {x y:Int}(J:[x,y]∈AB (bc P) (bc Q)):[-x, -y]∈AB (bc P) (bc Q)/\[nx (gm P.flatten) x,nx (gm Q.flatten) y]∈AB (bc P) (bc Q)/\y∈(gm Q.flatten).flatten:=by
 obtain⟨⟨G,s⟩,t,L⟩:=bC.mp J;obtain⟨i,a,b⟩:=SV L;obtain⟨k,hk⟩:=ak.mp t;obtain⟨C,E⟩:=bN.mp hk;have H:=mGq C;have l:=mGq E;have u:=h.f1.bcm G H;have n:=h.f2.bcm s l;have M:uq G=uq s:=by
  have:=congrArg (λz=>z[k]?) h.bl
  simp only[gMq,C,E]at this;exact aN.inj this
 obtain⟨⟨j,O,R⟩,Y,S,U⟩:=Yc u n M i x y a b;have X:x∈G.flatten:=(yl u).pm.mem_iff.mp (mGq a);have I:y∈s.flatten:=(yl n).pm.mem_iff.mp (mGq b);refine⟨bC.mpr ⟨(G,s),t,Lb O R⟩,?_,?_⟩
 .rw [S8 (yh.mp h.f1).hn u.mp.hn (yh.rows h.f1 H) X,S8 (yh.mp h.f2).hn n.mp.hn (yh.rows h.f2 l) I];exact bC.mpr ⟨(G,s),t,Lb S U⟩
 .obtain ⟨r,hr,B⟩:=mFq.mp I;exact mFq.mpr ⟨r,yh.rows h.f2 l r hr,B⟩
def Vb(h:ri P Q):AB (bc P) (bc Q)=((bc P).flatMap lr).map λx=>[x,lay P Q x]:=by
 have l2:=ri.len2 h;have nd:=ri.nd1 h;rw[ri.zip h];refine dh λi=>?_
 rw[bR,gMq];cases a:((bc P).flatMap lr)[i]? with
 |none=>rfl
 |some x =>
  have hl:=(gSq.mp a).1;rw[l2]at hl;rw[gEg hl];have:lay P Q x=((bc Q).flatMap lr)[i]:=by
   unfold lay;rw[FW nd a,gDq,gEg hl];rfl
  rw[dg,this]
def IL(h:ri P Q):Do (AB (bc P) (bc Q))=pr (lay P Q) (gm P.flatten).flatten:=by
 rw[Vb h,HP _ (ri.nd1 h)];unfold K40.pr;rw[yW (yh.ends h.f1)]
def Xz(h:ri P Q):Ly (gm P.flatten) (gm Q.flatten) (lay P Q):=by
 have key:∀x∈(gm P.flatten).flatten,[x,lay P Q x]∈AB (bc P) (bc Q):=λx l=>by
  obtain⟨y,n⟩:=Vy h l;rw[La h n];exact n
 refine⟨λx l=>(Fk h (key x l)).2.2,λx l=>La h (Fk h (key x l)).1,λx l=>La h (Fk h (key x l)).2.1,?_⟩
 refine((yh.ends h.f1).symm.map _).trans (cM.trans ?_ (yh.ends h.f2));have e:((bc P).flatMap lr).map (lay P Q)=(bc Q).flatMap lr:=by
  refine dh λi=>?_
  rw[gMq];cases a:((bc P).flatMap lr)[i]? with
  |none =>
   have:=ri.len2 h;rw[eU]at a;rw[bp (by lia)]
   rfl
  |some x =>
   have hl:=(gSq.mp a).1;rw[ri.len2 h]at hl;rw[dg,gEg hl];unfold lay;rw[FW (ri.nd1 h) a,gDq,gEg hl];rfl
 rw[e]
end
end K36
namespace K36
open PySem L2 Mr Z Zl
open K12 (gm qt)
open K15 (nx)
open K40 (pr kf B3 yW HP C9 S7 XR WX QU Ed Qj QB NX uy xg ue f_L_pairs)
def Nk(M:Λ):An (K51.Bv (K51.qQ M))=some M.flatten:=by
 have:=Df (λp:pE×Int=>match p.1 with|.inl i=>i|_=>0) (λp:pE×Int=>D.int p.2) (K51.qQ M)
 have l:K51.Bv (K51.qQ M)=(K51.qQ M).map λp=>((ar (match p.1 with|.inl i=>i|_=>0):pE),D.int p.2):=by
  unfold K51.Bv;refine mCq λp n=>?_
  have:p.1∈(K51.qQ M).map (·.1):=mMq.mpr ⟨p,n,rfl⟩;rw[K51.ua]at this;obtain⟨x,_,e⟩:=mMq.mp this;rw[←e]
 rw[l,this];have r:(K51.qQ M).map (λp:pE×Int=>match p.1 with|.inl i=>i|_=>0)=((K51.qQ M).map (·.1)).map λk:pE=>match k with|.inl i=>i|_=>0:=by rw[mPq];rfl
 rw[r,K51.ua,mPq];exact congrArg some (fU _)
def laying_ok{M N:Λ}{f:Int->Int}(t:Mp M) (u:Mp N) (a:Ly M N f):uy [.list ((pr f M.flatten).map uT),dM M,dM N]=some (.sh (.bl true)):=by
 have hl:=t.hl;have L:=u.hl;have hn:=t.hn;have O:K39.PrL (pr f M.flatten):=⟨by rw[C9];lia,λr hr=>by obtain⟨x,_,rfl⟩:=mMq.mp hr;exact⟨_,_,rfl⟩⟩
 have P:f_L_pairs [.list ((pr f M.flatten).map uT)]=some (.sh (.bl true)):=K39.QD O;have ti:=vR (pr f M.flatten);have Q:((∀r∈pr f M.flatten,r≠[])/\(pr f M.flatten).length<64)=True:=eq_true ⟨λr hr e=>(by have:=S7 f _ r hr;rw[e]at this;cases this),by rw[C9];lia⟩
 have y:(M.flatten.length<64)=True:=eq_true (by lia)
 have n:(N.flatten.length<64)=True:=eq_true (by lia)
 have s:((qj M.flatten).length<64)=True:=eq_true (by rw[(qH _).length_eq];lia)
 have R:Do (pr f M.flatten)=pr f M.flatten:=by rw[←HP f hn];exact(Bx (cM.refl _) (vz _)).symm
 have U:=NX (pr f M.flatten);have X:=K39.Ti (pr f M.flatten);have Y:=K15.GM t;have z:=K15.GM u;have c2:(∀r∈pr f M.flatten,r.length=2)=True:=eq_true (S7 f _);have p2:=XR f M.flatten;have p3:=WX f M.flatten;have B:=QU f hn;have k0:=Qj f M.flatten;have k1:=QB f M.flatten;have kk:=Nk M;have C:=Nk N;have E:=oY (qj M.flatten);have G:=oY (qj N.flatten);have H:qj ((qj M.flatten).map f)=qj N.flatten:=yW (((qH _).map f).trans a.pm);have iM:=rd ((qj M.flatten).map f);have e1:=QR (qj M.flatten) (qj M.flatten);have e2:=QR (qj N.flatten) (qj N.flatten);have lE:((pr f M.flatten).length<=rH)=True:=eq_true (by rw[C9];show _<=16777216;lia)
 have key:=uV (x:=6) (body:=ue) (λi S=>∃I,S=[some (.sh (.list ((pr f M.flatten).map uT))),some (.sh (dM M)),some (.sh (dM N)),some (.sh (.fd (K51.Bv (K51.qQ M)))),some (.owd (K51.Bv (K51.qQ N))),some (.owd (kf f M.flatten)),I]) (ds:=M.flatten.map D.int) (S:=[some (.sh (.list ((pr f M.flatten).map uT))),some (.sh (dM M)),some (.sh (dM N)),some (.sh (.fd (K51.Bv (K51.qQ M)))),some (.owd (K51.Bv (K51.qQ N))),some (.owd (kf f M.flatten)),none]) ⟨none,rfl⟩ (by
  rintro i d S hd ⟨I,rfl⟩;rw[gMq]at hd;obtain⟨x,he,rfl⟩:=oMq.mp hd;have l:=mGq he;have g1:=Ed f hn l;have g2:=Ed f hn (t.hneg x l);have g3:=Ed f hn (K15.Yf hn l);have g4:=K15.Sw hn l;have g5:=K15.Sw u.hn (a.mem x l);have o1:=a.odd x l;have o2:=a.nx x l;refine⟨_,?_,some (.sh (.int x)),rfl⟩
  simp_arith [ue,g1,g2,o1,N9,Oh,g4,g3,g5,o2,decide_true])
 obtain⟨S',ew,I,rfl⟩:=key;have kD:=K15.Zk M;have J:((6:Nat)≠3)=True:=by simp
 simp_arith [uy,xg,P,HV,ti,Q,R,X,U,Y,z,aaV,c2,p2,p3,B,k0,NT,Q8,kk,C,E,G,e1,e2,k1,iM,H,lE,decide_true,J,kD,ew,y,n,s]
structure Wh (R:Λ):Prop where
 nd:R.flatten.Nodup
 ng:∀z∈R.flatten, -z∈R.flatten
def Wh.perm{R l:Λ}(h:Wh R) (p:R.Perm l):Wh l:=by
 have q:=wB p;exact⟨q.nodup_iff.mp h.nd,λz n=>q.mem_iff.mp (h.ng z (q.mem_iff.mpr n))⟩
def PY{T:Λ}(tr:K11.zG T) {r:Ϝ}{e:Int}(u:e∈T.flatten) (hr:-e∈r):K11.zG (T++[r]):=λk x hk=>by
 have app:∀j,j<T.length->(T++[r]).getD j []=T.getD j []:=λj l=>by rw[gDq,gZq l,gDq]
 rw[lAq,lSq]at hk
 by_cases c:k<T.length
 .obtain ⟨j,z,l,a,b⟩:=tr k x c;exact⟨j,z,l,by rw[app j (by lia)];exact a,by rw[app k c];exact b⟩
 .have:k=T.length:=by lia
  subst this;obtain⟨t,ht,s⟩:=mFq.mp u;obtain⟨j,l⟩:=ak.mp ht;have n:=(gSq.mp l).1;refine⟨j,e,n,?_,?_⟩
  .rw [app j n,gDq,l];exact s
  .rw [gDq,gYq (ab _),dr];exact hr
theorem grow:∀(n:Nat) {T R:Λ},R.length<=n->T≠[]->K11.zG T->Wh (T++R)->∃t l,(t++l).Perm (T++R)/\K11.Cn t/\Wh l/\l.length<=R.length
 |n,T,R,hn,ne,tr,w=>by
  by_cases c:∃e∈T.flatten, -e∈R.flatten
  .obtain ⟨e,x,h⟩:=c;obtain⟨r,hr,u⟩:=mFq.mp h;obtain⟨a,b,rfl⟩:=List.append_of_mem hr;have p:((T++[r])++(a++b)).Perm (T++(a++r::b)):=by
    rw[aV];exact cM.append_left T (show (r::(a++b)).Perm _ from List.perm_middle.symm)
   rw[lAq,lCq]at hn;cases n with
   |zero=>lia
   |succ n =>
    obtain⟨t,l,q,cn,y,le⟩:=grow n (T:=T++[r]) (R:=a++b) (by rw[lAq];lia) (by simp) (PY tr x u) (w.perm p.symm)
    refine⟨t,l,q.trans p,cn,y,?_⟩;rw[lAq]at le;rw[lAq,lCq];lia
  .have cl:∀z∈T.flatten, -z∈T.flatten:=λz s=>by
    have:=w.ng z (by rw[fAq];exact cE _ s)
    rw[fAq]at this;rcases mAq.mp this with q|q
    .exact q
    .exact absurd ⟨z,s,q⟩ c
   have nd:=w.nd;rw[fAq,nAq]at nd;refine⟨T,R,.refl _,⟨ne,cl,tr⟩,⟨nd.2.1,λz s=>?_⟩,ab _⟩
   have:=w.ng z (by rw[fAq];exact ay _ s)
   rw[fAq]at this;rcases mAq.mp this with q|q
   .have:=cl _ q;rw[eW]at this;exact absurd rfl (nd.2.2 z this z s)
   .exact q
theorem Gy:∀(n:Nat) {R:Λ},R.length<=n->Wh R->∃P:List Λ,P.flatten.Perm R/\(∀T∈P,K11.Cn T)/\P.length<=R.length
 |0,R,hn,w=>⟨[],by rw[aY.mp (by lia:R.length=0)];exact .refl _,λT l=>(by cases l),aE _⟩
 |n+1,[],_,w=>⟨[],.refl _,λT l=>(by cases l),aE _⟩
 |n+1,r::R,hn,w=>by
  obtain⟨T,y,p,cn,s,le⟩:=grow R.length (T:=[r]) (R:=R) (ab _) (by simp) (K11.JP r) w
  rw[lCq]at hn;obtain⟨P,t,u,z⟩:=Gy n (by lia) s
  refine⟨T::P,?_,λU x=>?_,?_⟩
  .rw [fCq];exact(cM.append_left T t).trans p
  .rcases ah.mp x with e|e
   .rw [e];exact cn
   .exact u U e
  .rw [lCq,lCq];lia
def K2{A B:Λ}(h:A.Perm B):gm A=gm B:=Bx ((qt A).trans (h.map _)) (vz _)
end K36
namespace K37
open PySem L2 Mr Z Zl
open K12 (gm qt)
open K31 (rnd Dj wj Nm)
open K33 (uU Qa zJ KG)
def bare_comp(k:Nat):qY qA (uS (oB (uS pD) pD)) [] (qc 0 k)=some (aw k (.ow [.ow []])):=by
 rw[Z.qO (λ_=>.ow [.ow []])]
 .rw [iY,pX]
 .intro d hd;refine⟨[some (.sh d)],?_⟩
  simp_arith []
def Ui:K11.Cn [[]]:=⟨by simp,by simp,λk h1 h2=>by simp at h2;lia⟩
def em3(i:Int):∃k:Nat,k<=2/\tS (.int i) (.int 3)=some (.int (k:Int)):=by
 have l:0<=i % 3:=aX _ (by lia)
 have n:i % 3<3:=aW _ (by lia)
 refine⟨(i % 3).toNat,by lia,?_⟩
 rw[ib l];exact rW (by decide)
structure Bu (nm:Ϝ) (P:List Λ):Prop where
 fm:yh P
 fl:P.flatten.flatten.length<=62
 sub:∀x∈P.flatten.flatten,x∈wj nm
def Rh{nm cs:Ϝ}(u:Nm nm) (l18:nm.length=18) (hl:cs.length<=63) (kind:Int):∃xs P,AL [dI cs,dI nm,.int kind]=some (.ow xs)/\xs.map oN=P.map dM/\Bu nm P:=by
 have n1:zI nm none (some 6)=nm.take 6:=BV nm 6 (by lia)
 have n2:zI nm (some 6) (some 12)=(nm.drop 6).take 6:=JX nm 6 12;have n3:zI nm (some 12) none=nm.drop 12:=AM nm 12 (by lia)
 have H:nm=nm.take 6++((nm.drop 6).take 6++nm.drop 12):=by
  have:=bj 6 (nm.drop 6);rw[List.drop_drop]at this;rw[this,bj]
 obtain⟨j,J,ej⟩:∃j:Nat,j<=cs.length/\zL (.int (cs.length:Int)) (.int 2)=some (.int (j:Int)):=⟨cs.length / 2,by lia,by rw[vD (by decide) (by decide)];rfl⟩
 obtain⟨m,hm,e3⟩:=em3 (kind / 2);obtain⟨k,hk,e4⟩:=em3 (kind / 6);have d2:=vD (i:=kind) (j:=2) (by decide) (by decide)
 have d6:=vD (i:=kind) (j:=6) (by decide) (by decide)
 have m2:=rW (i:=kind) (j:=2) (by decide)
 have L:=BV cs j J;have M:=AM cs j J;have b1:(cs.take j).length<=63:=by rw[lTq];lia
 have b2:(cs.drop j).length<=63:=by rw[aQ];lia
 generalize cs.take j=O at L b1;generalize cs.drop j=A2 at M b2;have Q:Nm (nm.take 6):=⟨by rw[lTq];lia,u.nd.sublist (cG _ _),λx B=>u.lo x (eE B)⟩
 have R:Nm ((nm.drop 6).take 6):=⟨by rw[lTq,aQ];lia,u.nd.sublist ((cG _ _).trans (iC _ _)),λx B=>u.lo x (gW (eE B))⟩
 have S:Nm (nm.drop 12):=⟨by rw[aQ];lia,u.nd.sublist (iC _ _),λx B=>u.lo x (gW B)⟩
 obtain⟨l,l1,U,X,r1,p1,s1⟩:=K31.Em (nm:=nm.take 6) (cs:=O) (wild:=decide (kind % 2=1)) b1 (by have:=Q.len;lia)
 obtain⟨s,l2,Y,c2,r2,p2,s2⟩:=K31.Em (nm:=(nm.drop 6).take 6) (cs:=A2) (wild:=decide (kind % 2=1)) b2 (by have:=R.len;lia)
 obtain⟨t,l3,t3,c3,r3,p3,s3⟩:=K31.Em (nm:=nm.drop 12) (cs:=O) (wild:=decide (kind % 2=1)) b1 (by have:=S.len;lia)
 have lA:(nm.take 6).length<=6:=by rw[lTq];lia
 have lB:((nm.drop 6).take 6).length<=6:=by rw[lTq];lia
 have lC:(nm.drop 12).length<=6:=by rw[aQ];lia
 have y:∀{E:Ϝ}{T:Λ},Nm E->E.length<=6->(∃left,∀a,T.flatten.count a+(wj left).count a=(wj E).count a)->K11.zG T->0<T.length->K11.Cn T/\T.flatten.length<=12/\T.length<=13:=λ{E T} hn hl cnt tr pos=>by
  have fl:T.flatten.length<=12:=by
   obtain⟨left,h⟩:=cnt;have:(T.flatten++wj left).Perm (wj E):=dv.mpr λa=>by rw[cAq];exact h a
   have:=this.length_eq;rw[lAq,K31.Ig E]at this;lia
  have tl:=JD tr;have sl:T.length<=63:=by lia
  have w:K31.Wm E T:=⟨cnt,tr,pos,sl⟩;exact⟨⟨λq=>(by rw[q]at pos;cases pos),λz hz=>w.neg hn hz,tr⟩,fl,by lia⟩
 have E1:=y Q lA ⟨l1,X⟩ r1 p1;have E2:=y R lB ⟨l2,c2⟩ r2 p2;have E3:=y S lC ⟨l3,c3⟩ r3 p3;have cnt:∀a,l.flatten.count a+s.flatten.count a+t.flatten.count a<=(wj nm).count a:=λa=>by
  have e:(wj nm).count a=(wj (nm.take 6)).count a+((wj ((nm.drop 6).take 6)).count a+(wj (nm.drop 12)).count a):=by
   conv=>lhs;rw[H]
   unfold K31.wj;rw[dw,dw,cAq,cAq]
  have:=X a;have:=c2 a;have:=c3 a;lia
 have bu:Bu nm (([l,s,t]:List Λ).take (1+m)++aw k [[]]):=by
  have mem:∀T∈([l,s,t]:List Λ).take (1+m)++aw k [[]],K11.Cn T:=λT hT=>by
   rcases mAq.mp hT with z|z
   .have z:=eE z;simp only[ah,bB,or_false]at z;rcases z with z|z|z
    .rw [z];exact E1.1
    .rw [z];exact E2.1
    .rw [z];exact E3.1
   .rw [(iq.mp z).2];exact Ui
  have rf:∀k:Nat,(aw k ([[]]:Λ)).flatten.flatten=[]/\(aw k ([[]]:Λ)).flatten.length=k:=λk=>by
   induction k with
   |zero=>exact⟨rfl,rfl⟩
   |succ k ih =>
    rw[gX,fCq,fAq,ih.1,lAq,ih.2];exact⟨rfl,by simp;lia⟩
  have e12:=E1.2;have e22:=E2.2;have e32:=E3.2;have tk:(([l,s,t]:List Λ).take (1+m)).flatten.length<=39/\(([l,s,t]:List Λ).take (1+m)).flatten.flatten.length<=36/\∀a,(([l,s,t]:List Λ).take (1+m)).flatten.flatten.count a<=l.flatten.count a+s.flatten.count a+t.flatten.count a:=by
   have I:m=0∨m=1∨m=2:=by lia
   rcases I with rfl|rfl|rfl
   all_goals
    refine⟨?_,?_,λa=>?_⟩
    all_goals
     simp only[jo,dt,hX,List.take_zero,fCq,List.flatten_nil,fAq,lAq,cAq,bI,List.count_nil];lia
  have ff:(([l,s,t]:List Λ).take (1+m)++aw k [[]]).flatten.flatten=(([l,s,t]:List Λ).take (1+m)).flatten.flatten:=by rw[fAq,fAq,(rf k).1,aNq]
  have bn:=K31.GU u;have le:∀a,(([l,s,t]:List Λ).take (1+m)).flatten.flatten.count a<=(wj nm).count a:=λa=>bq (tk.2.2 a) (cnt a)
  refine⟨Mi mem ?_ ?_ ?_ ?_,by rw[ff];lia,λx B=>?_⟩
  .rw [ff];exact dH.mpr λa=>bq (le a) (dH.mp bn a)
  .rw [ff];lia
  .rw [fAq,lAq,(rf k).2];lia
  .rw [lAq,lTq,bx];simp only[lCq,bI];lia
  .rw [ff]at B;exact cY.mp (aK (cY.mpr B) (le x))
 have ec:zI [dM l,dM s,dM t] none (some ((1+m:Nat):Int))=(([l,s,t]:List Λ).take (1+m)).map dM:=by
  rw[show [dM l,dM s,dM t]=[l,s,t].map dM from rfl,zR,BV _ (1+m) (by simp;lia)]
 have i1:(1:Int)+(m:Int)=((1+m:Nat):Int):=by lia
 have bk:=bare_comp k;have rk:=wL (n:=k) (by lia)
 have lk:(qc 0 k).length<=rH:=by rw[pX];exact wW (by lia)
 have sT:∀T:Λ,oN (.ow (T.map aI))=dM T:=λT=>by rw[sJ,vL]
 have sK:(aw k (AV.ow [.ow []])).map oN=(aw k ([[]]:Λ)).map dM:=by rw[dU,dU];rfl
 have G:(([l,s,t]:List Λ).take (1+m)).map dM++(aw k ([[]]:Λ)).map dM=(([l,s,t]:List Λ).take (1+m)++aw k [[]]).map dM:=by rw[mBq]
 have C:(([l,s,t]:List Λ).take (1+m)).length+k<=rH:=by rw[lTq];simp only[lCq,bI];exact wW (by lia)
 generalize ([l,s,t]:List Λ).take (1+m)=P1 at bu ec G C;refine⟨((P1++aw k [[]]).map dM).map AV.sh,P1++aw k [[]],?_,by rw[mPq];exact(mCq λr _=>qm _).trans (dn _),bu⟩
 unfold dI at U Y t3
 simp_arith [AL,Fv,dI,ej,d2,d6,e3,e4,m2,L,M,n1,n2,n3,zR,U,Y,t3,sT,i1,ec,rk,bk,lk,sK,G,bx,C]
end K37
namespace K36
open PySem L2 Mr Z Zl
open K12 (gm qt)
open K31 (wj Nm)
open K33 (uU Qa zJ KG)
open K37 (ri yh)
def L3(c:Int) {l:Ϝ}(hl:l.length<=1000):∃d,xN [.int c,dI l]=some (aI d)/\d.length=l.length/\∀k,k<l.length->d.getD k 0=l.getD k 0∨d.getD k 0 = -(l.getD k 0):=by
 have key:=uV (x:=3) (body:=wZ) (λi S=>∃r d s,S=[some (.sh (.int r)),some (.sh (dI l)),some (aI d),s]/\d.length=i/\∀k,k<i->d.getD k 0=l.getD k 0∨d.getD k 0 = -(l.getD k 0)) (ds:=l.map D.int) (S:=[some (.sh (.int c)),some (.sh (dI l)),some (.ow []),none]) ⟨c,[],none,rfl,rfl,λk hk=>by lia⟩ (by
  rintro i e S hd ⟨r,d,s,rfl,h1,h2⟩;rw[gMq]at hd;obtain⟨x,t,rfl⟩:=oMq.mp hd;have G:=(gSq.mp t).1;have m2:=rW (i:=r) (j:=2) (by decide)
  have B:=vD (i:=r) (j:=2) (by decide) (by decide)
  have H:0<=r % 2:=aX _ (by decide)
  have b1:r % 2<2:=aW _ (by decide)
  have C:=IX (i:=2) (j:=r % 2) (by lia) (by lia)
  have u:=GX (i:=x) (j:=1-2*(r % 2)) (by lia) (by lia)
  have l1:(d.length<rH)=True:=eq_true (HI (by lia))
  have sg:x*(1-2*(r % 2))=x∨x*(1-2*(r % 2)) = -x:=by
   rcases (by lia:r % 2=0∨r % 2=1) with z|z <;> rw[z] <;> lia
  generalize x*(1-2*(r % 2))=y at u sg;have E:d.map (λn=>AV.sh (.int n))++[.sh (.int y)]=(d++[y]).map λn=>.sh (.int n):=by rw[mBq];rfl
  refine⟨[some (.sh (.int (r / 2))),some (.sh (dI l)),some (aI (d++[y])),some (.sh (.int x))],?_,r / 2,d++[y],some (.sh (.int x)),rfl,by rw[lAq,h1];rfl,λk hk=>?_⟩
  .simp_arith [wZ,m2,B,C,u,l1,E]
  .by_cases z:k<i
   .rw [gDq,gZq (by lia),←gDq]
    exact h2 k z
   .have:k=i:=by lia
    subst this;rw[gDq,gYq (by lia),h1,dr,gDq,t]
    exact sg)
 obtain⟨I,e,r,d,s,rfl,h1,h2⟩:=key;rw[lMq]at h1 h2;refine⟨d,?_,h1,h2⟩;unfold dI;simp -implicitDefEqProofs only [Z.VY,dt,dE,cQ,cT,bW,↓reduceIte,reduceCtorEq,dI]at e
 simp_arith [xN,CB,e]
def bare_comp(k:Nat):qY qA (uS pD) [] (qc 0 k)=some (aw k (.ow [])):=by
 rw[Z.qO (λ_=>.ow [])]
 .rw [iY,pX]
 .intro d hd;refine⟨[some (.sh d)],?_⟩
  simp_arith []
def Jz(ns:Ϝ):∃P Q,ri P Q/\vc [.scr ns]=some (.sh (.tup [dM (gm P.flatten),dM (gm Q.flatten)])):=by
 have em:∀(i:Int) (n:Nat),0<n->n<=25->∃k:Nat,k<n/\tS (.int i) (.int (n:Int))=some (.int (k:Int)):=λi n hn hn2=>by
  have p0:0<=i % (n:Int):=aX _ (by lia)
  have p1:i % (n:Int)<n:=aW _ (by lia)
  refine⟨(i % (n:Int)).toNat,by lia,?_⟩
  rw[ib p0];exact rW (by lia)
 obtain⟨n,hn,L⟩:=em (cell ns 0) 25 (by decide) (by decide)
 obtain⟨b,hb,O⟩:=em (cell ns 0 / 25) 4 (by decide) (by decide)
 have L:tS (.int (cell ns 0)) (.int 25)=some (.int (n:Int)):=L;have O:tS (.int (cell ns 0 / 25)) (.int 4)=some (.int (b:Int)):=O;have R:=vD (i:=cell ns 0) (j:=25) (by decide) (by decide)
 obtain⟨nm,g1,ln,nd,lo⟩:=K44.SY (cell ns 1) (n:=n) (by lia)
 obtain⟨T,a1,mt,pT⟩:=K44.LC (cell ns 2) (nm:=nm) (by lia) nd lo
 obtain⟨o0,g2,lo0,S,u⟩:=K44.SY (cell ns 3) (n:=nm.length) (by lia)
 obtain⟨d,d1,U⟩:=K44.Jc (cell ns 4) (l:=o0) (by lia)
 have ld:=U.length_eq;obtain⟨H,f1,lf,sg⟩:=L3 (cell ns 5) (l:=d) (by lia)
 have B:Nm nm:=⟨by lia,nd,lo⟩
 have hd:Nm d:=⟨by lia,U.nodup_iff.mpr S,λx s=>u x (U.mem_iff.mp s)⟩
 have rn:=K33.Ks (ot:=H) (bits:=0) B hd (by lia) λk hk=>sg k (by lia)
 have sub:∀x∈T.flatten,x∈wj nm:=λx s=>pT.mem_iff.mp s
 have lT:T.flatten.length<=48:=by
  rw[pT.length_eq,K16.Hw];lia
 have lT2:=K37.EY mt.ne;have X:=K37.FN (T:=T) (ot:=H) (bits:=0) B (by lia) sub (by lia) (by lia)
 generalize KG (zJ nm H 0 nm.length)=f at rn X;have I:(T++aw b ([]:Ϝ)).flatten=T.flatten:=by
  rw[fAq,show (aw b ([]:Ϝ)).flatten=[] by rw[List.flatten_replicate_nil],aNq]
 have wh:Wh (T++aw b []):=⟨by rw[I];exact mt.nd,by rw[I];exact mt.ng⟩
 obtain⟨P,J,cn,lP⟩:=Gy _ (ab _) wh;have t:=wB J;rw[I]at t;rw[lAq,bx]at lP;have Y:yh P:=K37.Mi cn (t.nodup_iff.mpr mt.nd) (by rw[t.length_eq];lia) (by rw[J.length_eq,lAq,bx];lia) (by lia)
 have bo:=K37.MW (f:=f) Y (by rw[t.length_eq];lia) ⟨λx s=>rn.odd x (sub x (t.mem_iff.mp s)),λx s y hy e=>rn.inj x (sub x (t.mem_iff.mp s)) y (sub y (t.mem_iff.mp hy)) e⟩
 refine⟨P,_,bo,?_⟩;have e1:gm P.flatten=gm (T++aw b []):=K2 J;have e2:gm (P.map (uU f)).flatten=gm (uU f T++aw b []):=by
  rw[K37.Dl];refine K2 ((J.map _).trans ?_);rw[mBq,dU];exact .refl _
 rw[e1,e2];have i1:qq [dM (T++aw b [])]=some (.ow ((gm (T++aw b [])).map aI)):=vE (λr hr=>by
  have:=bT.length_le (aB hr);rw[I]at this;lia) (by rw[lAq,bx];lia)
 have lr:(uU f T).length=T.length:=lMq ..;have i2:qq [dM (uU f T++aw b [])]=some (.ow ((gm (uU f T++aw b [])).map aI)):=vE (λr hr=>by
  rcases mAq.mp hr with z|z
  .have:=bT.length_le (aB z);rw[K33.xf,lMq]at this;lia
  .rw [(iq.mp z).2];exact aE _) (by rw[lAq,bx,lr];lia)
 have cN:∀(k:Nat),k<10->pI [.scr ns,.int (k:Int)]=some (.sh (.int (cell ns k))):=λk hk=>Cu ns (by lia)
 have c3:pI [.scr ns,.int 3]=some (.sh (.int (cell ns 3))):=cN 3 (by decide)
 have c4:pI [.scr ns,.int 4]=some (.sh (.int (cell ns 4))):=cN 4 (by decide)
 have c5:pI [.scr ns,.int 5]=some (.sh (.int (cell ns 5))):=cN 5 (by decide)
 have bk:=bare_comp b;have rk:=wL (n:=b) (by lia)
 have lk:(qc 0 b).length<=rH:=by rw[pX];exact wW (by lia)
 have s1:=oY nm;have s2:=oY o0;have s3:=oY d;have s4:=oY H;have sB:(aw b (AV.ow [])).map oN=(aw b ([]:Ϝ)).map dI:=by rw[dU,dU];rfl
 have sT:(T.map λr=>AV.sh (dI r)).map oN=T.map dI:=ND T
 have sR:((uU f T).map aI).map oN=(uU f T).map dI:=vL _;have C:∀A:Λ,A.map dI++(aw b ([]:Ϝ)).map dI=(A++aw b []).map dI:=λA=>by rw[mBq]
 have ct1:=C T;have ct2:=C (uU f T);have l1:(T.length+b<=rH)=True:=eq_true (wW (by lia))
 have l2:((uU f T).length+b<=rH)=True:=eq_true (wW (by lia))
 have E:=vL (gm (T++aw b []));have G:=vL (gm (uU f T++aw b []));have oM:K13.oM T = .ow (T.map λr=>AV.sh (dI r)):=rfl
 rw[oM]at a1;generalize gm (T++aw b [])=M at i1 E;generalize gm (uU f T++aw b [])=N at i2 G;unfold dM at i1 i2 X ⊢
 simp_arith [vc,Bf,VX,VR,Wj,c3,c4,c5,L,O,R,g1,a1,g2,d1,f1,bk,rk,lk,s1,s2,s3,s4,sB,sT,sR,ct1,ct2,l1,l2,bx,X,i1,i2,E,G]
end K36
namespace K36
open PySem L2 Mr Z Zl
open K12 (gm qt)
open K31 (wj Nm)
open K33 (uU Qa zJ KG)
open K37 (ri yh bc AB Ls uq lr)
open K40 (pr)
def Ia(ns:Ϝ):∃P Q,ri P Q/\uz [.scr ns]=some (.sh (.tup [dM (gm P.flatten),dM (gm Q.flatten)])):=by
 obtain⟨st,sh,a,b,h1,_,h2,_,h3,h4,en⟩:=K31.Ob (cell ns 0) (cell ns 1);have s:=K31.Qy (b:=b) (n:=18) (by decide) h1 h2 h3 h4
 have nc:=K31.MJ (n:=18) en;have z:(K31.NJ st sh a b 18).length=18:=by unfold K31.NJ;rw[lMq,bw]
 generalize K31.NJ st sh a b 18=nm at s nc z;obtain⟨B,C,a',J,L,_,M,_,O,R,S⟩:=K31.Ob (cell ns 1) (cell ns 3);have E:=K31.Qy (b:=J) (n:=18) (by decide) L M O R
 have G:=K33.Ja (n:=18) S;have X:(K31.NJ B C a' J 18).length=18:=by unfold K31.NJ;rw[lMq,bw]
 generalize K31.NJ B C a' J 18=Y at E G X;have H:zI ns (some 4) (some 67)=(ns.drop 4).take 63:=JX ns 4 67;have hl:((ns.drop 4).take 63).length<=63:=by rw[lTq];exact Nat.min_le_left ..
 generalize (ns.drop 4).take 63=cs at H hl;obtain⟨xs,P,eb,ex,t⟩:=K37.Rh s z hl (cell ns 2);have rn:=K33.TJ (bits:=cell ns 2 / 18) s E (by lia)
 have rc:=K37.Iq (P:=P) (ot:=Y) (kind:=cell ns 2) s (by lia) λT hT=>⟨λx u=>t.sub x (by
  obtain⟨r,hr,u⟩:=mFq.mp u;exact mFq.mpr ⟨r,mFq.mpr ⟨T,hT,hr⟩,u⟩),by
  have s1:T.flatten.length<=P.flatten.flatten.length:=by
   rw[fH];exact bT.length_le (aB (mMq.mpr ⟨T,hT,rfl⟩))
  have:=t.fl;lia,by
  have:=bT.length_le (aB hT);have:=t.fm.lt;lia⟩
 generalize KG (zJ nm Y (cell ns 2 / 18) nm.length)=f at rn rc;have l:=K37.MW (f:=f) t.fm t.fl ⟨λx u=>rn.odd x (t.sub x u),λx u y hy e=>rn.inj x (t.sub x u) y (t.sub y hy) e⟩
 have lP:(P.length<=rH)=True:=eq_true (wW (by have:=t.fm.lp;lia))
 refine⟨P,P.map (uU f),l,?_⟩;generalize P.map (uU f)=Q at rc l;have sQ:(Q.map λU=>AV.ow (U.map aI)).map oN=Q.map dM:=by
  rw[mPq];refine mCq λU _=>?_
  show oN (.ow (U.map aI))=_;rw[sJ,vL]
 have j1:=K37.GP l.f1;have j2:=K37.GP l.f2;have g1:=vL (gm P.flatten);have g2:=vL (gm Q.flatten);have r18:FF [.int 18]=some (qc 0 18):=wL (n:=18) (by decide)
 have I:(qc 0 18).length<=rH:=by rw[pX];show 18<=16777216;decide
 have sn:=oY nm;have so:=oY Y;have sc:=oY cs;have sx:oN (.ow xs) = .list (P.map dM):=by rw[sJ,ex]
 unfold dM at j1 j2 rc sx sQ ⊢
 simp_arith [uz,zN,VX,VR,Wj,H,r18,I,nc,G,sn,so,sc,dI,zR,eb,sx,lP,rc,sQ,j1,j2,g1,g2]
section
variable {P Q:List Λ}
def Kv(h:ri P Q):yT [dM (gm P.flatten),dM (gm Q.flatten)]=some (.otl "alike" ((Do (AB (bc P) (bc Q))).map uT)):=by
 have n:=K37.Jw h.f1;have l:=K37.Jw h.f2;rw[←h.cs]at l;have s:=K37.laying_ok h;generalize zH ((Ls P).map uq)=C at n l;generalize Do (AB (bc P) (bc Q))=z at s;have sC:(C.map λc=>AV.sh (dC c)).map oN=C.map dC:=by rw[mPq];exact mCq λr _=>qm _
 have t:=K35.ZT C;have u:∀S,toO "alike" (.ow (z.map λr=>AV.sh (uT r))) S=some (.otl "alike" (z.map uT),S):=λS=>by
  have:=aaX "alike" (z.map uT) S;rw[mPq]at this;exact this
 simp_arith [yT,DP,n,l,sC,t,abc,s,u]
def EJ(h:ri P Q):sG [dM (gm P.flatten),dM (gm Q.flatten)]=some (aP (pr (lay P Q) (gm P.flatten).flatten)):=by
 have m1:=yh.mp h.f1;have m2:=yh.mp h.f2;have co:=Kv h;rw[IL h]at co;have l:=laying_ok m1 m2 (Xz h);have n:=K51.M5 (rs:=gm P.flatten) (by have:=m1.hr;lia)
 have s:=K51.M5 (rs:=gm Q.flatten) (by have:=m2.hr;lia)
 have u:=vL (gm P.flatten);have g2:=vL (gm Q.flatten);generalize pr (lay P Q) (gm P.flatten).flatten=z at co l;have t:∀M:Λ,BD (.list (M.map dI)) (.list (M.map dI))=some (.bl false):=λM=>by
  have:=WR M M;rw[decide_eq_true rfl]at this;exact this
 have x:=t (gm P.flatten);have y:=t (gm Q.flatten);have B:∀a b:D,A6 [.tup [a,b],.ty "tuple"]=some (.bl true):=λ_ _=>rfl
 have lt:∀a b:D,rB [.tup [a,b]]=some (.int 2):=λ_ _=>rfl
 have t0:∀a b:D,vV (.tup [a,b]) (.int 0)=some a:=λ_ _=>rfl
 have C:∀a b:D,vV (.tup [a,b]) (.int 1)=some b:=λ_ _=>rfl
 have E:Le (.str "alike") (.str "alike")=some (.bl false):=by unfold Le;rfl
 have mt:W4 (.otl "alike" (z.map uT))=some (.ow (z.map λr=>AV.sh (uT r))):=by
  show some (AV.ow ((z.map uT).map .sh))=_;rw[mPq];rfl
 unfold dM at co l n s ⊢
 simp_arith [sG,Fy,n,s,u,g2,co,Da,B,lt,t0,C,E,x,y,l,X4,mt]
def OA(z:Λ) (h:∀r∈z,r.length=2):qY qA (Hv (oB (kSc (pR vV (oq 0) (rC (.int 1)))) (oB (kSc (pR vV (oq 0) (rC (.int 0)))) pD))) [] (z.map uT)=some ((z.map λr=>[r.getD 1 0,r.getD 0 0]).map λr=>.sh (uT r)):=by
 rw[Z.qO λd=>match d with|.tup [x,y]=>.sh (.tup [y,x])|_=>.sh .non]
 .rw [mPq,mPq];refine congrArg some (mCq λr hr=>?_)
  obtain⟨x,y,rfl⟩:∃x y,r=[x,y]:=by
   match r,h r hr with
   | [x,y],_=>exact⟨x,y,rfl⟩
  rfl
 .intro d hd;obtain⟨r,hr,rfl⟩:=mMq.mp hd;obtain⟨x,y,rfl⟩:∃x y,r=[x,y]:=by
   match r,h r hr with
   | [x,y],_=>exact⟨x,y,rfl⟩
  have l:vV (uT [x,y]) (.int 0)=some (.int x):=rfl;have n:vV (uT [x,y]) (.int 1)=some (.int y):=rfl;refine⟨[some (.sh (uT [x,y]))],?_⟩
  simp_arith [l,n]
  rfl
theorem symm(h:ri P Q):ri Q P:=⟨h.f2,h.f1,h.sm.symm⟩
def Qt(h:ri P Q):Do ((pr (lay P Q) (gm P.flatten).flatten).map λr=>[r.getD 1 0,r.getD 0 0])=pr (lay Q P) (gm Q.flatten).flatten:=by
 rw[←IL h,←IL (symm h)];refine Bx ((Ci _).trans ?_) (vz _);have e:AB (bc Q) (bc P)=(AB (bc P) (bc Q)).map λr=>[r.getD 1 0,r.getD 0 0]:=by
  rw[ri.zip h,ri.zip (symm h)];have:∀a b:Ϝ,aR (λx y=>[x,y]) b a=(aR (λx y=>[x,y]) a b).map λr=>[r.getD 1 0,r.getD 0 0]:=λa=>by
   induction a with
   |nil=>intro b;cases b <;> rfl
   |cons x a l =>
    intro b;cases b with
    |nil=>rfl
    |cons y b =>
     show [y,x]::aR _ b a=[y,x]::_;rw[l b]
  exact this _ _
 rw[e];exact(Ci _).map _
def tl:MS:=(oQ (pN 3 (oZ K36.sG (oB (oU 1) (oB (oU 2) pD))))
 (oQ (pN 4 (oZ K36.sG (oB (oU 2) (oB (oU 1) pD))))
 (oQ (zC (A7 (tK (pR HK (oq 3) (rC .non))) (A7 (tK (pR HK (oq 4) (rC .non))) (tK (pR HK (rOf (oZ K36.sG (oB (oU 1) (oB (oU 1) pD)))) (rC .non))))) (qw (kSc (rC (.bl false)))) qJ)
 (oQ (zC (Nd (tK (pR BD (oq 4) (rOf (CN (lOf (uu (zY (oU 3)) [] qA (Hv (oB (kSc (pR vV (oq 0) (rC (.int 1)))) (oB (kSc (pR vV (oq 0) (rC (.int 0)))) pD)))))))))) (qw (kSc (rC (.bl false)))) qJ)
 (oQ (pN 5 (zy (tU 3)))
 (oQ (zK 3 (Hv (oB (kSc (rC (.int 0))) (oB (kSc (rC (.int 0))) pD))))
 (qw (kSc (pR B6 (rOf (oZ K36.sG (oB (oU 1) (oB (oU 2) pD)))) (oq 5))))))))))
def Of(h:ri P Q) {v0:Option AV}:tl [v0,some (.sh (dM (gm P.flatten))),some (.sh (dM (gm Q.flatten))),none,none,none]=some (.rt (.sh (.bl true))):=by
 have s:=EJ h;have t:=EJ (symm h);have u:=EJ (P:=P) (Q:=P) ⟨h.f1,h.f1,.refl _⟩;have H:(pr (lay P Q) (gm P.flatten).flatten).length<=63:=by rw[K40.C9];exact(yh.mp h.f1).hl
 have B:=OA (pr (lay P Q) (gm P.flatten).flatten) (K40.S7 _ _);have n:=Qt h;generalize pr (lay P Q) (gm P.flatten).flatten=z at s H B n;generalize pr (lay Q P) (gm Q.flatten).flatten=y at t n;generalize pr (lay P P) (gm P.flatten).flatten=x at u;have sz:(z.map λr=>AV.sh (uT r)).map oN=z.map uT:=by rw[mPq];exact mCq λr _=>qm _
 have I:(y.map λr=>AV.sh (uT r)).map oN=y.map uT:=by rw[mPq];exact mCq λr _=>qm _
 have J:(x.map λr=>AV.sh (uT r)).map oN=x.map uT:=by rw[mPq];exact mCq λr _=>qm _
 have lw:(z.map λr=>[r.getD 1 0,r.getD 0 0]).length=z.length:=lMq ..
 have E:(∀r∈z.map (λr=>[r.getD 1 0,r.getD 0 0]),r≠[])=True:=eq_true λr hr=>by
  obtain⟨q,_,rfl⟩:=mMq.mp hr;simp
 have G:((z.map λr=>[r.getD 1 0,r.getD 0 0]).length<64)=True:=eq_true (by rw[lw];lia)
 generalize (z.map λr=>[r.getD 1 0,r.getD 0 0])=w at B n E G
 have C:(w.map λr=>AV.sh (uT r)).map oN=w.map uT:=by rw[mPq];exact mCq λr _=>qm _
 have ti:=vR w;have L:=K40.NX y;have M:B6 (.list (z.map uT)) (.list (z.map uT))=some (.bl true):=K35.Ic (Wc z) (by decide)
 have O:∀l:List D,HK (.list l) .non=some (.bl false):=λ_=>rfl
 have l1:(z.length<=rH)=True:=eq_true (wW (by lia))
 have l2:(z.length<rH)=True:=eq_true (HI (by lia))
 unfold dM at s t u ⊢
 simp_arith [tl,s,t,u,sz,I,J,O,Yq,O3,Sq,l1,B,HV,C,ti,E,G,and_self,n,L,l2,M]
end
def Xx{ns:Ϝ}(n:ns.length<=63):Nv [.scr ns]=some (.sh (.bl true)):=by
 obtain⟨P,Q,h,e⟩:=Ia ns;obtain⟨x,y,r,s⟩:=Jz ns;have t:=Of h (v0:=some (.sh (.scr ns)));have u:=Of r (v0:=some (.sh (.scr ns)));have m2:=rW (i:=((ns.length:Nat):Int)) (j:=2) (by decide)
 have l:∀a b:D,NL (.tup [a,b])=some (a,b):=λ_ _=>rfl
 have lw:Sg=oQ (G4 1 2 (oZ K36.uz (oB (oU 0) pD))) (oQ (zC (tK (pR IQ (pR tS (wb rB (ox (oq 0) oS)) (rC (.int 2))) (rC (.int 0)))) (G4 1 2 (oZ K36.vc (oB (oU 0) pD))) qJ) tl):=rfl
 by_cases c:((ns.length:Nat):Int) % 2=0
 .have d:decide (((ns.length:Nat):Int) % 2=0)=true:=decide_eq_true c
  simp_arith [Nv,lw,Ru,e,s,l,m2,d,u]
 .have d:decide (((ns.length:Nat):Int) % 2=0)=false:=decide_eq_false c
  simp_arith [Nv,lw,Ru,e,l,m2,d,t]
end K36
namespace K36
open PySem L2 Mr Z
def aav(K:Ζ) (c:Addr):Option Addr:=match K.lookup c with
 |some l=>(match l.data with
  | .fields vs=>(match (vs[11]?:Υ) with
   |some (.ref P)=>some P
   |_=>none)
  |_=>none)
 |none=>none
def VD{K:Ζ}{h:Heap}{P c:Addr}{q:Str}(n:vg K=[(P,q)]) (hn:K.lookup P=none) (ht:h.get? P=some (W.tabObj #[])) (r:W.CodeHd h c P):Dh K h:=by
 intro x l;rw[n]at l ⊢;obtain rfl:=mSq.mp l;exact⟨by simp[List.lookup],hn,ht,c,r⟩
def Xq{l:W.OpenLaw}{w:jF}{K:Ζ}{h:Heap}{mg:Str->Υ}{fa:Addr}(X:K.In h) (G:h.Ns jG mg) (hfa:mg "law" = some (.ref fa))
  (a0:At K "told_ends" xI f0 fd0)
  (a1:At K "ends_of" AI f1 fd1)
  (a2:At K "places_at" xT f2 fd2)
  (a3:At K "reached" AC f3 fd3)
  (a4:At K "pieces" Cg f4 fd4)
  (a5:At K "refuse_not_one_piece" rG f5 fd5)
  (a6:At K "turn_from" xV f6 fd6)
  (a7:At K "round_turns" vK f7 fd7)
  (a8:At K "round_ends" wK f8 fd8)
  (a9:At K "turn_code" xC f9 fd9)
  (u:At K "code_of" AH f10 fd10)
  (x:At K "round_code" wQ f11 fd11)
  (a12:At K "least_round" vJ f12 fd12)
  (y:At K "least_code" wz f13 fd13)
  (z:At K "codes" DX f14 fd14)
  (C:At K "by_codes" yS f15 fd15)
  (E:At K "laying" Cq f16 fd16)
  (H:At K "compared" yR f17 fd17)
  (I:At K "_law_cell" CJ f18 fd18)
  (J:At K "_law_name" Cm f19 fd19)
  (L:At K "_law_turns" AX f20 fd20)
  (M:At K "_law_turned" za f21 fd21)
  (O:At K "_law_good" B8 f22 fd22)
  (Q:At K "_law_copy" Ct f23 fd23)
  (R:At K "_law_renamed" xO f24 fd24)
  (S:At K "_law_whole" AZ f25 fd25)
  (U:At K "_law_follow" zk f26 fd26)
  (Y:At K "_law_pairs" A3 f27 fd27)
  (a28:At K "_law_is_laying" vG f28 fd28)
  (a29:At K "_law_built" AE f29 fd29)
  (a30:At K "_law_joined" zr f30 fd30)
  (a31:At K "_law_alike" AN f31 fd31)
  (a32:At K "_law_gap_names" vH f32 fd32)
  (a33:At K "_law_dealt" AY f33 fd33)
  (a34:At K "_law_any_map" xJ f34 fd34)
  (a35:At K "_law_flipped" xB f35 fd35)
  (a36:At K "_law_some_pair" vO f36 fd36)
  (a37:At K "_law_any_pair" wM f37 fd37)
  (a38:W.nsIn K jG "law" = some (some (.ref f38))) (l38:K.lookup f38=some ⟨oc38,od38,.func (W.fnOf "law" "law" (wG Bh) (uF Bh) (oH Bh) .none kV38 dc38 pm38 an38 cd38 ct38),sl38⟩) (c38:W.codeIn K cd38 "law" = true) (k38:W.keepIn K (.ref f38)=true)
  (btu:W.nsIn K jG "tuple" = some none)
  (z0:W.nsIn K jG "len" = some none) (z1:W.nsIn K jG "min" = some none) (z2:W.nsIn K jG "max" = some none) (z3:W.nsIn K jG "abs" = some none) (z4:W.nsIn K jG "all" = some none) (z5:W.nsIn K jG "sorted" = some none) (z6:W.nsIn K jG "isinstance" = some none) (z7:W.nsIn K jG "list" = some none) (z8:W.nsIn K jG "int" = some none) (z9:W.nsIn K jG "bool" = some none) (z10:W.nsIn K jG "str" = some none) (z11:W.nsIn K jG "dict" = some none) (z12:W.nsIn K jG "zip" = some none) (z13:W.nsIn K jG "enumerate" = some none) (z14:W.nsIn K jG "range" = some none) (z15:W.nsIn K jG "reversed" = some none)
  {r t:Addr}(hC:fd12.code = .ref r) (hP:aav K r=some t) (hT:W.codeHdIn K r t=true) (hM:vg K=[(t,(("least_round" : Str) ++ ".<locals>.") ++ "<lambda>")]) :
  ∃fd:jQ,(∀(s:Shared) (v:Value),mD s fd ⟨[v],[]⟩ [("_law_script", v)])/\∀base:Heap,K.In base->base.Ns jG mg->yk l.prog w K mg base Tv 12 fa fd ["_law_script"] (MZ K):=by
 have e:=hfa.symm.trans (W.mg_of X G a38);cases e;have B:Bt mg:=⟨W.mg_none_of X G z0,W.mg_none_of X G z1,W.mg_none_of X G z2,W.mg_none_of X G z3,W.mg_none_of X G z4,W.mg_none_of X G z5,W.mg_none_of X G z6,W.mg_none_of X G z7,W.mg_none_of X G z8,W.mg_none_of X G z9,W.mg_none_of X G z10,W.mg_none_of X G z11,W.mg_none_of X G z12,W.mg_none_of X G z13,W.mg_none_of X G z14,W.mg_none_of X G z15⟩;have D38:ye K mg "law" Bh ["_law_script"] _ _:=⟨MH l38 c38 k38,W.mg_of X G a38,b1 (MH l38 c38 k38) λ_ _ _ _ _ _ _=>rfl⟩
 refine⟨W.fnOf "law" "law" (wG Bh) (uF Bh) (oH Bh) .none kV38 dc38 pm38 an38 cd38 ct38,λs v=>.of_eq rfl,λbase kb nb=>?_⟩
 have n:=W.mg_none_of X G btu;have F0:=Iz (P:=l.prog) (w:=w) (base:=base) (zB X G a0 (b1 a0.F λ_ _ _ _ _ _ _=>rfl)) B
 have F1:=L7 (zB X G a1 (b1 a1.F λ_ _ _ _ _ _ _=>rfl)) B F0
 have F2:=Ie (P:=l.prog) (w:=w) (base:=base) (zB X G a2 (b1 a2.F λ_ _ _ _ _ _ _=>rfl)) B
 have F3:=Mh (zB X G a3 (b2 a3.F λ_ _ _ _ _ _ _ _=>rfl)) B F2
 have F4:=PZ (zB X G a4 (b1 a4.F λ_ _ _ _ _ _ _=>rfl)) B F3
 have F5:=yE (zB X G a5 (b1 a5.F λ_ _ _ _ _ _ _=>rfl)) B F4
 have F6:=HS (P:=l.prog) (w:=w) (base:=base) (zB X G a6 (b2 a6.F λ_ _ _ _ _ _ _ _=>rfl)) B
 have F7:=Ft (zB X G a7 (b2 a7.F λ_ _ _ _ _ _ _ _=>rfl)) B F2 F6
 have F8:=Gg (zB X G a8 (b2 a8.F λ_ _ _ _ _ _ _ _=>rfl)) B F0 F7
 have F9:=II (P:=l.prog) (w:=w) (base:=base) (zB X G a9 (b2 a9.F λ_ _ _ _ _ _ _ _=>rfl)) B n
 have F10:=LU (zB X G u (b1 u.F λ_ _ _ _ _ _ _=>rfl)) B n F0 F9
 have F11:=Gj (zB X G x (b2 x.F λ_ _ _ _ _ _ _ _=>rfl)) B F10 F7
 have F12:=FS (zB X G a12 (b1 a12.F λ_ _ _ _ _ _ _=>rfl)) hC hT (by rw[hM];exact mSq.mpr rfl) B F1 F8 F11
 have F13:=Gf (zB X G y (b1 y.F λ_ _ _ _ _ _ _=>rfl)) B F5 F1 F10 F11
 have F14:=QX (zB X G z (b1 z.F λ_ _ _ _ _ _ _=>rfl)) B F13 F4
 have F15:=Kb (zB X G C (b1 C.F λ_ _ _ _ _ _ _=>rfl)) B F4 F13
 have F16:=O8 (zB X G E (b2 E.F λ_ _ _ _ _ _ _ _=>rfl)) B F15 F12
 have F17:=Jp (zB X G H (b2 H.F λ_ _ _ _ _ _ _ _=>rfl)) B F14 F16
 have F18:=PQ (P:=l.prog) (w:=w) (base:=base) (zB X G I (b2 I.F λ_ _ _ _ _ _ _ _=>rfl)) B
 have F19:=OI (P:=l.prog) (w:=w) (base:=base) (zB X G J (b3 J.F λ_ _ _ _ _ _ _ _ _=>rfl)) B
 have F20:=LM (P:=l.prog) (w:=w) (base:=base) (zB X G L (b3 L.F λ_ _ _ _ _ _ _ _ _=>rfl)) B
 have F21:=JW (P:=l.prog) (w:=w) (base:=base) (zB X G M (b1 M.F λ_ _ _ _ _ _ _=>rfl)) B
 have F22:=P2 (zB X G O (b1 O.F λ_ _ _ _ _ _ _=>rfl)) B F21
 have F23:=PR (P:=l.prog) (w:=w) (base:=base) (zB X G Q (b1 Q.F λ_ _ _ _ _ _ _=>rfl)) B
 have F24:=Iv (P:=l.prog) (w:=w) (base:=base) (zB X G R (b4 R.F λ_ _ _ _ _ _ _ _ _ _=>rfl)) B
 have F25:=LF (P:=l.prog) (w:=w) (base:=base) (zB X G S (b1 S.F λ_ _ _ _ _ _ _=>rfl)) B
 have F26:=JG (P:=l.prog) (w:=w) (base:=base) (zB X G U (b1 U.F λ_ _ _ _ _ _ _=>rfl)) B
 have F27:=Mc (zB X G Y (b1 Y.F λ_ _ _ _ _ _ _=>rfl)) B n F25
 have F28:=Fi (zB X G a28 (b3 a28.F λ_ _ _ _ _ _ _ _ _=>rfl)) B F26 F27
 have F29:=Ma (zB X G a29 (b3 a29.F λ_ _ _ _ _ _ _ _ _=>rfl)) B F20
 have F30:=Je (zB X G a30 (b1 a30.F λ_ _ _ _ _ _ _=>rfl)) B F22
 have F31:=Ll (zB X G a31 (b2 a31.F λ_ _ _ _ _ _ _ _=>rfl)) B n F23 F17 F28
 have F32:=Eg (P:=l.prog) (w:=w) (base:=base) (zB X G a32 (b2 a32.F λ_ _ _ _ _ _ _ _=>rfl)) B
 have F33:=Lj (P:=l.prog) (w:=w) (base:=base) (zB X G a33 (b2 a33.F λ_ _ _ _ _ _ _ _=>rfl)) B
 have F34:=HM (zB X G a34 (b2 a34.F λ_ _ _ _ _ _ _ _=>rfl)) B F33
 have F35:=Hs (P:=l.prog) (w:=w) (base:=base) (zB X G a35 (b2 a35.F λ_ _ _ _ _ _ _ _=>rfl)) B
 have F36:=FT (zB X G a36 (b1 a36.F λ_ _ _ _ _ _ _=>rfl)) B F18 F29 F30 F19 F24
 have F37:=Ga (zB X G a37 (b1 a37.F λ_ _ _ _ _ _ _=>rfl)) B F18 F32 F34 F33 F35 F22 F24
 have F38:=XN D38 B F36 F31 F37;exact F38.ok.imp (Vk λns h=>Xx h)
def aa0{l:W.OpenLaw}{q:jC}{loose:List Str}{y:(Str->Υ)->Heap->Prop}{r:jF->Heap->Prop}{d:DefRec}{K:Params->Ζ}(hn:l.most=some 63) (t:d.params.defaults=[])
  (B:∀(w:jF) (h:Heap),r w h->(K w.params).In h) (C:∀(w:jF) (h:Heap),r w h->Dh (K w.params) h)
  (F:∀(w:jF) (mg:Str->Υ) (fa:Addr) (h:Heap),(K w.params).In h->h.Ns jG mg->mg d.name=some (.ref fa) ->
   ∃fd:jQ,(∀(s:Shared) (u:Value),mD s fd ⟨[u],[]⟩ [("_law_script", u)])/\∀base:Heap,(K w.params).In base->base.Ns jG mg->yk l.prog w (K w.params) mg base Tv 12 fa fd ["_law_script"] (MZ (K w.params))) :
  W.WalkO q loose y r l.row.toRowW d [] (λf vs=>PySem.call f vs) :=
 L2.VM (n:=63) (k:=12) (x := "_law_script") (CX:=λ_=>Tv) (sp:=λw=>MZ (K w.params)) hn (by decide) t ⟨rfl,by decide,by decide⟩ B C F (λ_ _ a E hl _ hS=>⟨a,E,rfl,hS,hl,λ_=>rfl⟩) λ_ _ _ _ _ z=>z
end K36
structure PySem.W.Fast:Prop where(tw896259183884235625 tw3480252636437276414 tw11849621878036041773 tw11357441212122056586 tw14091955341888790028 tw15031574924898852577 tw12385318950303753705 tw5857167709995159798 tw5822186208825365054 tw14798818005167033098 tw16414275873078449665 tw18438193822193220686 tw15423544228913744690 tw13443456812652598442 tw10214325536644937994 tw13243451817985306692 tw9943292459652627607 tw11086799454515454603 tw3344062051517040034 tw7556345512551388218 tw12683980997986716044 tw3323935217802682067 tw2894326037031193427 tw7382226781652149251 tw7868209202575160030 tw1853225069331503547 tw6211495597265603710 tw1229714869623957397 tw2600352450887889182 tw10449207545193631870 tw2761391238463295500 tw6159393576573637759 tw13000862681012343088 tw12692368221016995508 tw14757197961892125010 tw10942928103923841763 tw14885030299577837625 tw14740597770109168415 tw18240906639639630553 tw9122967364321628402 tw3362255501653939821 tw8468408642133562696 tw10372316785074258742 tw16162620265351761843 tw12134721064648758645 tw5991315617212387688 tw1823131759478860379 tw18298430188301880906 tw6473031159475219251 tw8148699574411237748 tw3099930636605628308 tw15789050142102058143 tw5690699741059109250 tw1269850464280275901 tw914147582860925256 tw3296360467327265242 tw12331853215604312229 tw9443064499831711992 tw12940357427288451185 tw17680666212690137560 tw5647831755120413311 tw6387461349374127652 tw13463172672582649148 tw4392403215946616368 tw7750051569637324987 tw12579928917715281642 tw7564366080113381587 tw4510618401574274468 tw1870995228143062061 tw12995488112167820777 tw8214617430251222263 tw10237554582766797566 tw14669883461475348305 tw3959399943067230199 tw1006682204915012815 tw11931783346161687023 tw5859148194075702816 tw6098256993465980751 tw563909893386620923 tw5843198260644861427 tw6324798374813612581 tw15884332923553256865 tw5598689800959352319 tw11237320399281527358 tw1219373482917010163 tw14167541680927032965 tw12350802195060737603 tw366548845387545484 tw7086586980754395169 tw8321516280540877308 tw15894111289461011901 tw14135798952096087265 tw3206518067366277496 tw8092922546544167241 tw1408536631359258787 tw10045710246392271670 tw9464590721378580404 tw7068716431998002377 tw7203356921705343799 tw9576977948548782163 tw12684491051144436256 tw2263400934497928018 tw3492646860349323419 tw526089385847709504 tw5943112110463554576 tw9551877604514899563 tw810233908485136659 tw2683093346744788017 tw15525283030693771850 tw9639349012937163294 tw1091044823518266091 tw8564984315975610872 tw18362219438797877175 tw17582480895985950656 tw11639501704830507771 tw5920932331848485858 tw7280843108963174372 tw34130640222344645 tw6678702904345821859 tw2993850255320682927 tw16044189562366750226 tw9713981913209231035 tw15674469781179727499 tw13435693765969152030 tw4355205607599861134 tw17044018196186989803 tw16400894901753202384 tw6356469356051363038 tw2584943835504521470 tw9173542372728880145 tw10900231499690976292 tw16267710309870939030 tw3549837295548493189 tw9999905659108818034 tw13933656772974593685 tw11352430396934843626 tw2412706710293998671 tw1074607644884999663 tw2467915849100511194 tw3221847188072428580 tw4642490245078579400 tw11233499520247266217 tw5343076528970890346 tw2442846529479214274 tw1868756389359653727 tw2361547511354149819 tw2916534418635352064 tw13659118461047757242 tw6332532694550830788 tw11184315634703375799 tw11322071207842460621 tw10120798531395233636 tw17284286293499878324 tw9813594617277807145 tw9791304393786567784 tw8646281512607313091 tw4730447541251618155 tw2883020012506203135 tw16237187865626766104 tw10069409323734012656 tw11808025842151072861 tw4736246120221252389 tw8919484604442197180 tw18121521917316912465 tw17472239157719663148 tw11638093829472107128 tw8675798611222520341 tw7498846451986581794 tw7035485698097506825 tw5531357305347073188 tw15657178430086774858 tw10197056827542963107 tw13084830072971842066 tw5497382412916542176 tw5208364418018485286 tw13630709778727853503 tw5509229889109142219 tw16953462354586424018 tw7522683040410257461 tw9697910772440144731 tw3230988145969888635 tw14397528912552866489 tw12975302989753738705 tw882773721975487362 tw17059200712749208379 tw17918927619605849212 tw17569138046008852717 tw10223064110520246311 tw17002309388174659354 tw8258769828775095409 tw789731762095744472 tw15192873588658520417 tw8125073344511437208 tw2129937685395460910 tw1843548914441956308 tw1387369708221175998 tw7816090758265902709 tw3268438930762818721 tw15909558625664293006 tw6235929996108167915:True)
open PySem PySem.W PyProof.Rows
set_option maxRecDepth 100000 in
set_option maxHeartbeats 0 in
theorem PySem.Challenge.cw_mapround_k36_whole_alike_is_laid_holds : PySem.Challenge.rw_mapround_k36_whole_alike_is_laid.Holds := by
 w_on;o_law;k_head;(case hw=>w_witness2)
 k_fill
 refine K36.aa0 (l:=PySem.Challenge.rw_mapround_k36_whole_alike_is_laid) rfl rfl (λw h Y=>W.km_in_of Y) ?T ?F
 case T=>exact λw h Y=>K36.VD (P:=138) (c:=142) (q:=(("least_round" : Str) ++ ".<locals>.") ++ "<lambda>") (by kernel_rfl) (by kernel_rfl) (W.km_tabs_of Y 138 (by k_mem)) (W.codeHd_of_K (W.km_in_of Y) (by kernel_rfl))
 case F =>
  intro w mg fa h KX G hmg;apply K36.Xq KX G hmg
  case a12=>exact Mr.Wa (by k_is) (by k_is) (by k_is) (by k_is)
  case hC=>first|exact rfl|k_is
  case hP=>first|k_is|exact rfl
  all_goals first|exact Mr.Wa (by k_is) (by k_is) (by k_is) (by k_is)|exact Mr.atM_mk (by k_is) (by k_is) (by k_is) (by k_is) (by k_is)|k_is|kernel_rfl

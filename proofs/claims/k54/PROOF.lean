import PyProof.Rows.All
import Wide.All
import OpenK.AllK
import Wide.FinOn
import Lean
import PyProof.EqAt
import PyProof.EqKinds
import PyProof.TupleCall
import KE.KIntText
import PyProof.ConsumeWalk
import PySem.Challenge.RW_mapround_k54_whole_no_crossing_no_handle
set_option Elab.async false
set_option linter.all false
set_option bootstrap.genMatcherCode false
set_option genSizeOf false
set_option compiler.extract_closed false
set_option maxRecDepth 100000
set_option maxHeartbeats 4000000
local macro_rules|`(∅)=>`(by lia)
local macro_rules|`(⋯)=>`(by first|decide|simp)
open Option renaming bind_eq_some_iff->oBq,map_eq_some_iff->oMq
open List renaming getElem?_eq_some_iff->gSq,getElem?_eq_getElem->gEg,getD_eq_getElem?_getD->gDq,length_append->lAq,length_map->lMq,mem_append->mAq,mem_flatten->mFq,mem_map->mMq,getElem?_map->gMq,mem_of_getElem?->mGq,map_congr_left->mCq,getElem_mem->gRq,length_singleton->lSq,mem_singleton->mSq,length_take->lTq,nodup_append->nAq,append_nil->aNq,flatten_append->fAq,getElem?_append_right->gYq,getElem?_append_left->gZq,length_cons->lCq,map_map->mPq,map_append->mBq,mem_cons_of_mem->mCo,length_set->lZq,flatten_cons->fCq,count_append->cAq,mem_cons->aa,append_assoc->ae,mem_cons_self->ah,mem_append_right->aj,mem_append_left->ao,nodup_cons->aq,map_cons->aw,drop_eq_getElem_cons->ax,mem_iff_getElem?->ay,length_range->aB,getElem?_set_ne->aC,Perm->aE,range->aF,perm_append_comm->aG,size_toArray->aH,length_drop->aJ,take_length->aK,perm_ext_iff_of_nodup->aL,getElem?_eq_none->aO,flatten_singleton->aQ,sublist_flatten_of_mem->aT,pairwise_append->aU,replicate->aV,getElem?_set_self->aW,take_append_drop->aZ,nodup_nil->bb,mem_flatMap->bf,count_pos_iff->bg,nodup_iff_pairwise_ne->bp,mem_filter->bq,Pairwise->bu,pairwise_map->bx,mem_reverse->bz,mem_range->bA,take_sublist->bB,mem_of_mem_drop->bE,take_add_one->bG,count_nil->bH,length->bJ,getElem?_replicate->bK,not_mem_nil->bL,getElem?_set->bN,flatMap_cons->bO,mem_of_mem_take->bQ,drop_eq_nil_of_le->bR,append_of_mem->bS,length_replicate->bU,length_eq_zero_iff->bV,filter_cons_of_pos->bW,Sublist->bZ,pairwise_iff_getElem->cc,take_of_length_le->cf,getElem?_range->cj,length_reverse->cm,filter_sublist->cu,drop_sublist->cw,length_nil->cF,count_cons->cJ,filter_append->cM,drop_length->cO,append_eq_nil_iff->cQ,ext_getElem?->cS,nil_append->cU,getElem?_drop->cV,nodup_range->cY,mem_iff_getElem->cZ,filter_cons_of_neg->de,reverse_append->dg,foldl_cons->dh,count_eq_zero->dG,length_eraseIdx->dN,reverse_cons->dO,find?_cons->dP,eraseIdx_cons_succ->dS,any_cons->dW,perm_iff_count->dX,countP_eq_length_filter->dY,find?_cons_of_neg->dZ,set_cons_zero->eh,map_replicate->eF,reverse->eI,mem_or_eq_of_mem_set->eK,getElem?_zip_eq_some->eO,dropLast_concat->eQ,length_eq_countP_add_countP->eS,getElem?_take_of_lt->eT,eq_of_mem_replicate->eU,length_pos_iff->eV,cons_append->eW,perm_middle->eZ,getElem?_cons_zero->ff,flatten_eq_nil_iff->fg,pairwise_cons->fh,set_cons_succ->fj,length_pos_of_mem->fk,find?_cons_of_pos->fo,map_id->fv,getElem?_reverse->fB,find?_isSome->fD,eq_nil_or_concat->fE,concat_eq_append->fF,count_cons_of_ne->fG,map_nil->fI,nodup_iff_count->fK,any_eq_true->fN,flatMap_append->fP,sublist_append_right->fQ,filter_map->fR,idxOf_lt_length_iff->fT,getElem_idxOf->fV,pairwise_mergeSort->gf,reverse_perm->gi,drop_of_length_le->gn,pairwise_lt_range->gu,findIdx_lt_length_of_exists->gw,take_succ_eq_append_getElem->gA,eraseIdxIfInBounds_toArray->gB,set_getElem_self->gE,length_filter_le->gG,min?_eq_some_iff->gH,flatten_nil->gJ,reverse_reverse->gM,count_cons_self->gN,set_set->gQ,filterMap_cons->gS,mergeSort_perm->gU,filter_eq_self->gV,perm_append_comm_assoc->gW,drop_zero->gX,idxOf_lt_length_of_mem->gY,map_take->ie,foldl_append->ij,getElem?_inj->ik,count_replicate_self->iq,sublist_append_left->iw,append_inj'->iB,map_reverse->iC,of_mem_zip->iF,filter_eq_nil_iff->iI,getElem?_zipWith->iM,getElem?_toArray->iP,findIdx_getElem->iW,all_cons->iX,replicate_succ->iY,map_eq_nil_iff->iZ,perm_singleton->ja,mem_filterMap->jd,getElem?_take->je,cons->ji,filter_congr->jk,length_zip->jq,drop_left->jw,take_left->jx,take_zero->jy,map_drop->jC,sum_cons->jE,zipWith->jF,any_map->jG
open Nat renaming le_refl->af,ne_of_lt->az,lt_of_lt_of_le->aR,zero_le->aX,le_succ->bP,lt_succ_iff_lt_or_eq->bT,le_trans->cz,not_lt_zero->cG,zero_add->cH,mod_eq_of_lt->cP,lt_succ_of_lt->cR,le_of_lt->cT,ne_of_gt->du,sub_self->dA,lt_succ_self->dC,mod_self->dU,lt_irrefl->eJ,add_sub_cancel->fi,min_eq_left->fm,mod_lt->fu,le_of_eq->fJ,strongRecOn->fS,lt_or_eq_of_le->fU,pos_of_ne_zero->fW,add_comm->gc,add_assoc->gC,le_add_right->gD,add_one_sub_one->gT,lt_trichotomy->hW,le_of_not_lt->iA,add_sub_cancel_left->iD,lt_trans->jf,add_zero->jg,le_of_lt_succ->jh,min_eq_right->jn,mod_add_mod->jr,min_self->jH
open Array renaming getElem?_eq_getElem->ag,length_toList->ar,getElem?_toList->au,toList_append->aY,getElem?_eq_some_iff->bo,getElem_mem->bC,toList_reverse->dJ,toList_push->dR,size_extract->fZ,getD->gj,toList_extract->gL,toList_setIfInBounds->hU,getElem?_extract->iG,mem_toList_iff->iU,Perm->ju,size_map->jz
open PySem.Heap renaming get?_push_of_some->ai,lt_size->ak,get?_push_size->aD,SameBut->cD,get?_update_other->df,get?_update_ne->dr,get?_update_self->fA,size_update->fM,get?_push_ne->gh,size_push->iT,ExtBut->jM
open Option renaming some->aA,map_some->cI,isSome_map->dQ,bind_some->gF,getD_none->jm,none->jL
open Bool renaming false_ne_true->aM,eq_iff_iff->cE,false_eq_true->cK,not_eq_true->dD,and_eq_true->fL,not_eq_true'->hZ,false_and->iS,eq_false_iff->jl,or_false->jD
open Sum renaming inl->aN,inr->hV
open PySem.F renaming plainAttrs_list->aS,slot_list_append->bh,type_list_append->bj,called_set->cW,slot_list_pop->dE,type_list_pop->dF,plain_extend_loop->fO,slot_list_index->iE,plain_set_new->iN,slot_set_iter->iQ,slot_list_lt->iV
open Int renaming neg_neg->bw,toNat_natCast->bF,emod_lt_of_pos->bI,emod_nonneg->cg,le_of_lt->gP,zero_add->gR,fdiv_eq_ediv_of_nonneg->gZ,mul_one->iJ,le_refl->iK,toNat->jj
open PyProof.Rows renaming callWith_type1->bD,callWith_builtin1->gK,boot_sorted->iu,boot_list->iH,boot_int->iR,boot_isinstance->jv,boot_bool->jI,boot_min->jN,boot_abs->jO,boot_sum->jP,lt_int->jQ
open PySem.Value renaming ref->bM,type->cX,int->gg,none->iz,bool->jt,isStrOf->jA,str->jB,isInt->jK
open Classical renaming propDecidable->fc,choose_spec->gI,byContradiction->ir
open Or renaming inr->gO,inl->jb
open Prod renaming ext->jc,fst->jJ
open PySem renaming wpAny_bind->jR,wpAny_pure->jT,model->jU,wpAny->jW,sizeLine->jY,Program->jZ,mainGlobals->kc,World->ke,starEach->kf,call_isinstance->kj,rawInt->km,codeAny_builtin->kr,wpAny_truthy_bool->ku,FuncData->ky,wpAny_call_entry->kz,sizeLine_eq->kA,wpAny_mono->kB,wpAny_setState_of->kC,cLine->kE,compareOp->kH,relabel->kJ,lookup_relabel_local->kK,wpAny_holding->kM,plainId_quiet->kN,sysModules->kP,wpAny_setField_rec->kR,wpAny_Call_Name_kw->kS,wpAny_passesOwn->kT,isinstance_true->kU,Scope->kW,wpAny_newObj_type->kX,codeAny->kZ,backTo->lu,wpAny_callSpecial?_slot->lB,intKind->lC,scanBound->lK,isinstance_false_int->lL,call_meets->lS,wpAny_newList->lU,behindInMarks->lV,sliceBounds->lW,wpAny_comprehension_free->mh,bootBuiltins->mj,binaryOp->mn,foldedSetIterable->mw,unsupported->mz,pyNext->mB,wpAny_attempt->mC,wpAny_isInstance->mE,wpAny_callSpecialIfBound?_slot->mG,wpAny_specialOf->mH,wpAny_ite_split->mI,wpAny_execs_nil->mJ,letOwnedTupleGo->mK,wpAny_typeOf->mL,codeAny_mono->mN,wpAny_fieldsOf->mO,tupleKind_room_in1->mP,attributeBase->mQ,fits_of_scanBound->mR,typeLookup->mS,assignEach->mT,valueAt->mU,setNext->mV,callerA->mW,wpAny_askSetting->mZ,relayAll->nc,Result->ni,wpAny_updateSeq->nj,tupleKind->nu,swapsWith->nv,atKey->ny,subscripted->nB,wpAny_isTrue_Compare1->nC,isinstance_false_none->nD,wpAny_seqItems->nE,wpAny_runValue->nF,newFunctionEnv->nJ,getItem->nO,Keyword->nP,BindsTo->nQ,PlainL->nR,isinstance_false_str->nT,codeAny_extend_loopS->nV,wpAny_rule->nW,intKind_is->nX,seqIndex?->oj,wpAny_of_eq->om,keywordEach->ou
open PyProof.Rows renaming Keyed->jS,wpS_bind->jV,wpS_pure->jX,arrOf->ki,seqObj->ko,IntsAre->kx,wpS_forRange->kF,SortKind->kG,wpS_mono->kL,setArr->kO,elem'->kQ,pairsOf->kY,oneType'->lg,pendingOf->lF,envOfC->lJ,wpS_modify->lO,wpS_get->lY,getElem?_mirror_all->lZ,sortedHeap->mq,reverseSlice'->mD,AllBare->mF,pairsOf_size->mM,gallopOf->nh,get?_update_seq->nq,entry_list_sort->nt,subscriptTail_builtinR->nA,slot_list_sort->nH,args_list_sort->nK,entry_proto_collect'->nU,keyKind'->nY,subscriptTail->nZ,listUpdate_at->oa,plain_sorted->oe,keyKind_ints->og,entry_sorted->oh,args_sorted1->oi,seqEpoch_at->oq,kind_sorted->ot
abbrev Λ:=List (List Int)
abbrev Ϝ:=List Int
abbrev Φ:=List (PySem.Addr×PySem.Obj)
abbrev Δ:=List PySem.Addr
abbrev Θ:=List Nat
abbrev Ξ:=List PySem.Value
abbrev Ω:=Array PySem.Value
abbrev Υ:=Option PySem.Value
abbrev Ψ:=PySem.Value->PySem.Shared->Prop
abbrev Ζ:=PySem.W.Frag
noncomputable section
open Array renaming mem_of_getElem?->aQq
local macro_rules|`(tactic|trivial)=>`(tactic|first|exact jb rfl|exact gO rfl|exact gO (jb rfl)|exact gO (gO rfl)|exact⟨rfl,rfl,rfl,by decide +kernel,rfl,by decide +kernel,by decide +kernel⟩|decide +kernel|fail)
def pO{c}{_:Decidable c}(h:c){α}{t e:α}:ite c t e=t:=if_pos h
def pK{c}{_:Decidable c}(h:¬c){α}{t e:α}:ite c t e=e:=if_neg h
theorem d0{p}[Decidable p](h:p):decide p=true:=decide_eq_true h
theorem d4{p}[Decidable p](h:¬p):decide p=false:=decide_eq_false h
namespace L2
open PySem PySem.Spec PyProof.Rows
abbrev pQ:=Sum Int Str
noncomputable def GA:pQ->Value->Bool
 | .inl k,v=>jK k v
 | .inr x,v=>jA x v
noncomputable def adz(w:ke):pQ->Int
 | .inl k=>hashInt k
 | .inr x=>hashStr w x
def qN:∀{k}{v},GA k v=true->(∃i t,k=aN i/\v=gg i t)∨(∃x t,k=hV x/\v=jB x t)
 | .inl i,v,h=>by
  obtain⟨t,e⟩:=Value.isInt_shape (k:=i) (v:=v) h;exact .inl ⟨i,t,rfl,e⟩
 | .inr x,v,h=>by
  obtain⟨t,e⟩:=Value.isStrOf_shape (x:=x) (v:=v) h;exact .inr ⟨x,t,rfl,e⟩
def P2(i)t:GA (.inl i) (.int i t)=true:=by simp[GA,jK]
def Os(x)t:GA (.inr x) (.str x t)=true:=by simp[GA,jA]
def Yi a b:decide ((aN a:pQ)=aN b)=(a == b):=by
 by_cases e:a=b
 .subst e;simp
 .have h:¬ (aN a:pQ)=aN b:=λq=>e (aN.inj q)
  rw[d4 h];exact(beq_eq_false_iff_ne.mpr e).symm
def YG a b:decide ((hV a:pQ)=hV b)=decide (a=b):=by
 by_cases e:a=b
 .subst e;simp
 .have h:¬ (hV a:pQ)=hV b:=λq=>e (hV.inj q)
  rw[d4 h,d4 e]
def X7(a)b:decide ((aN a:pQ)=hV b)=false:=d4 (λq=>nomatch q)
def XZ(a)b:decide ((hV a:pQ)=aN b)=false:=d4 (λq=>nomatch q)
def qQ(prog)w:PySem.KeyKind prog w pQ where
 is:=GA
 hash:=adz w
 inj:=λv a b ha hb=>by
  rcases qN ha with⟨i,t,rfl,rfl⟩|⟨x,t,rfl,rfl⟩
  .rcases qN hb with⟨j,u,rfl,e⟩|⟨y,u,rfl,e⟩
   .injection e with l _;rw[l]
   .exact nomatch e
  .rcases qN hb with⟨j,u,rfl,e⟩|⟨y,u,rfl,e⟩
   .exact nomatch e
   .injection e with l _;rw[l]
 byValue:=λk v h=>by
  rcases qN h with⟨i,t,rfl,rfl⟩|⟨x,t,rfl,rfl⟩ <;> rfl
 pyHash:=λn h=>by
  rcases qN n with⟨i,t,rfl,rfl⟩|⟨x,t,rfl,rfl⟩
  .exact wpAny_pyHash_int h
  .exact wpAny_pyHash_str h
 eqBool:=λs n h=>by
  rcases qN s with⟨i,t,rfl,rfl⟩|⟨x,t,rfl,rfl⟩
  .rcases qN n with⟨j,u,rfl,rfl⟩|⟨y,u,rfl,rfl⟩
   .rw[Yi]at h;exact wpAny_eqBool_int h
   .rw[X7]at h;exact SeqAt.EqAt.int_str i t y u _ _ _ _ h
  .rcases qN n with⟨j,u,rfl,rfl⟩|⟨y,u,rfl,rfl⟩
   .rw[XZ]at h;exact SeqAt.EqAt.str_int x t j u _ _ _ _ h
   .rw[YG]at h;exact wpAny_eqBool_str h
 «strs»:=λk x t v h=>by
  rcases qN h with⟨i,u,rfl,e⟩|⟨y,u,rfl,e⟩
  .exact nomatch e
  .injection e with l _
   subst l;cases v <;> rfl
def J8(prog)w i t:(qQ prog w).is (.inl i) (.int i t)=true:=P2 i t
def IF(prog)w x t:(qQ prog w).is (.inr x) (.str x t)=true:=Os x t
inductive V where
 |non|bl (b:Bool)|int (i:Int)|str (x:Str)|byt (b:Array UInt8)|flt (b:UInt64)|ref (a:Addr)|ty (n:String)
 deriving DecidableEq
def qI:V->Value->Prop
 | .non,u=>u=iz
 | .bl b,u=>u=jt b
 | .int i,u=>∃t,u=gg i t
 | .str x,u=>∃t,u=jB x t
 | .byt b,u=>∃t,u=Value.bytes b t
 | .flt b,u=>∃t,u=Value.float b t
 | .ref a,u=>u=bM a
 | .ty n,u=>u=cX n
abbrev qk:List V->Ξ->Prop:=Paired qI
theorem qk.length(r:qk l n):l.length=n.length:=Paired.length r
theorem qk.get:∀{l}{n}{i:Nat}{x},qk l n->l[i]?=some x->∃u,n[i]?=some u/\qI x u
 |_,_,_,_,.nil,e=>by simp at e
 |_,_,0,_,.cons r _,e=>by simp at e;subst e;exact⟨_,rfl,r⟩
 |_,_,i+1,x,.cons _ t,e=>by
  obtain⟨u,s,z⟩:=qk.get (i:=i) (x:=x) t (by simpa using e)
  exact⟨u,by simpa using s,z⟩
theorem qk.set(r:qI x u):∀{l}{n}i,qk l n->qk (l.set i x) (n.set i u)
 |_,_,_,.nil=>.nil
 |_,_,0,.cons _ t=>.cons r t
 |_,_,i+1,.cons q t=>.cons q (qk.set r i t)
theorem qk.append:∀{l n}{u ws},qk l u->qk n ws->qk (l++n) (u++ws)
 |_,_,_,_,.nil,s=>s
 |_,_,_,_,.cons r t,s=>.cons r (qk.append t s)
theorem qk.take:∀{l}{s}n,qk l s->qk (l.take n) (s.take n)
 |_,_,0,_=>.nil
 |_,_,_+1,.nil=>.nil
 |_,_,n+1,.cons r t=>.cons r (qk.take n t)
theorem qk.drop:∀{l}{s}n,qk l s->qk (l.drop n) (s.drop n)
 |_,_,0,r=>r
 |_,_,_+1,.nil=>.nil
 |_,_,n+1,.cons _ t=>qk.drop n t
def FO:Option V->Υ->Prop
 |some v,some u=>qI v u
 |none,none=>True
 |_,_=>False
def KV:List (κ×V)->List (κ×Value)->Prop:=Paired λ(p:κ×V) (q:κ×Value)=>p.1=q.1/\qI p.2 q.2
noncomputable def kV:pQ->V
 | .inl i=>.int i
 | .inr x=>.str x
inductive HO where
 /-- a list -/
 |lst (xs:List V)
 /-- a tuple (never changes) -/
 |tup (xs:List V)
 /-- a dict whose keys are ints and texts;one whose keys are tuples of ints and texts (the empty one is aaQ) -/
 |dK (kvs:List (pQ×V))|dT (kvs:List (List pQ×V))
 /-- a set of ints: its members,its size -/
 |set (S:Int->Bool) (n:Nat)
 /-- an instance of the class at C,its dict at dx,its attributes -/
 |ins (C dx:Addr) (fs:List (Str×V))
 /-- the dict of the instance at x -/
 |own (x:Addr)
 /-- the dict of an exception -/
 |xd (fs:List (Str×V))
 /-- a bound method,f of x -/
 |met (f x:Addr)
 /-- a range object lo,lo+1,.. below hi -/
 |rng (lo hi:Int)
 /-- a thing that is known to the object (the script;a dict while a loop walks it): read,never written while it is so -/
 |frz (o:Obj) (u:HO)
 /-- a code object's table -/
 |tbl (ps:Ω)
 /-- any other thing,by what is true of its one object (a def of one's own: SetO a S n:=HO.ext λh=>..) -/
 |ext (φ:Heap->Prop)
abbrev Hp:=Addr->Option HO
noncomputable def qE(H:Hp)(a:Addr)(o:HO):Hp:=λb=>if b=a then some o else H b
def oY:qE H a o a=some o:=by unfold qE;rw[pO rfl]
def pD(h:b≠a):qE H a o b=H b:=by unfold qE;rw[pK h]
def abI{H:Hp}(h:H a=some o)(h':H b=some u)(d:o≠u):a≠b:=by
 intro e;subst e;rw[h]at h';exact d (aA.inj h')
def rB{H:Hp}(h:H a=some o)(h':H b=none):a≠b:=by
 intro e;subst e;rw[h]at h';cases h'
section
variable (P:jZ)(w:ke)
def rq(H:Hp)(h:Heap)(a:Addr):HO->Prop
 | .lst s=>s.length<=jY/\∃l n,qk s l/\h.get? a=some { cls:=.type "list", data:=.seq l.toArray n }
 | .tup s=>s.length<=jY/\∃l:Ξ,qk s l/\IsTup h a l.toArray
 | .dK kvs=>kvs.length<=jY/\(a == kP)=false/\∃vs,KV kvs vs/\h.DictOf (qQ P w) a vs
 | .dT kvs=>kvs.length<=jY/\(a == kP)=false/\∃s:List (List pQ×Addr×Value),
   Paired (λ(p:List pQ×V) (q:List pQ×Addr×Value)=>p.1=q.1/\H q.2.1=some (.tup (p.1.map kV))/\qI p.2 q.2.2) kvs s /\
   ∃o E ep,h.get? a=some o/\o.ExactDict/\o.data = .dict E ep/\E.toList=s.map (entryOfKey (nu (qQ P w)))/\(s.map (·.1)).Nodup
 | .set S n=>h.SetOf (lC P w) a S n
 | .ins C B fs=>H B=some (.own a)/\fs.length<=1000/\B≠a/\h.get? a=some (W.instObj C B) /\
   ∃z,h.Ns1 B z/\(∀f,FO (fs.lookup f) (z f))/\PySem.Within z (fs.map (·.1))
 | .own _=>∃o,h.get? a=some o
 | .xd fs=>∃z,h.Ns1 a z/\∀f,FO (fs.lookup f) (z f)
 | .rng lo hi=>∃t u v,h.get? a=some { cls:=.type "range", data:=.fields #[.int lo t,.int hi u,.int 1 v] }
 | .frz o u=>h.get? a=some o/\rq H h a u
 | .tbl ps=>h.get? a=some { cls:=.none,data:=.fields ps }
 | .met f x=>h.get? a=some (W.methodObj (.ref f) (.ref x))
 | .ext φ=>φ h/\(∃o,h.get? a=some o)/\∀G I:Heap,φ G->(∀o,G.get? a=some o->I.get? a=some o)->φ I
def Bu(H:Hp)(h:Heap):Prop:=∀a o,H a=some o->rq P w H h a o
end
section
variable {a:Addr}
theorem rq.lt(x:rq P w H h a o):a<h.objs.size:=by
 cases o with
 |lst s=>obtain⟨_,_,_,_,e⟩:=x;exact ak e
 |tup s=>obtain⟨_,_,_,p⟩:=x;exact p.lt
 |dK l=>obtain⟨_,_,_,_,o,_,_,e,_⟩:=x;exact ak e
 |dT l=>obtain⟨_,_,_,_,o,_,_,e,_⟩:=x;exact ak e
 |set S n=>obtain⟨o,_,_,_,e,_⟩:=x;exact ak e
 |ins C t fs=>obtain⟨_,_,_,e,_⟩:=x;exact ak e
 |own y=>obtain⟨_,e⟩:=x;exact ak e
 |xd fs=>obtain⟨_,⟨_,_,_,e,_⟩,_⟩:=x;exact ak e
 |rng lo hi=>obtain⟨_,_,_,e⟩:=x;exact ak e
 |frz z u=>obtain⟨e,_⟩:=x;exact ak e
 |tbl B=>exact ak (show h.get? a=some _ from x)
 |met f y=>exact ak (show h.get? a=some _ from x)
 |ext φ=>obtain⟨_,⟨_,e⟩,_⟩:=x;exact ak e
theorem Paired.mapP{F G:α->β->Prop}:∀{l₁}{l₂},Paired F l₁ l₂->(∀a b,F a b->G a b)->Paired G l₁ l₂
 |_,_,.nil,_=>.nil
 |_,_,.cons r t,f=>.cons (f _ _ r) (Paired.mapP t f)
def rq.stay(x:rq P w H h a o)(k:∀b u,(b=a∨H b=some (.own a))->h.get? b=some u->h'.get? b=some u)
  (O:∀b,H b=some (.own a)->H' b=some (.own a)) (ht:∀b G,H b=some (.tup G)->H' b=some (.tup G)):rq P w H' h' a o:=by
 induction o with
 |lst G=>obtain⟨z,E,n,r,e⟩:=x;exact⟨z,E,n,r,k _ _ (.inl rfl) e⟩
 |tup G=>obtain⟨z,E,r,l,e,c⟩:=x;exact⟨z,E,r,l,k _ _ (.inl rfl) e,c⟩
 |dK I=>obtain⟨z,y,Q,r,l,s,B,e,c⟩:=x;exact⟨z,y,Q,r,l,s,B,k _ _ (.inl rfl) e,c⟩
 |dT I=>
  obtain⟨z,y,G,r,l,s,B,e,c⟩:=x;exact⟨z,y,G,Paired.mapP r λp q z=>⟨z.1,ht _ _ z.2.1,z.2.2⟩,l,s,B,k _ _ (.inl rfl) e,c⟩
 |set S n=>obtain⟨l,s,B,t,e,c⟩:=x;exact⟨l,s,B,t,k _ _ (.inl rfl) e,c⟩
 |ins C X fs=>
  obtain⟨d,z,ne,e,J,⟨L,s,B,R,c⟩,r⟩:=x;exact⟨O _ d,z,ne,k _ _ (.inl rfl) e,J,⟨L,s,B,k _ _ (.inr d) R,c⟩,r⟩
 |own y=>obtain⟨l,e⟩:=x;exact⟨l,k _ _ (.inl rfl) e⟩
 |xd fs=>obtain⟨J,⟨L,s,B,e,c⟩,r⟩:=x;exact⟨J,⟨L,s,B,k _ _ (.inl rfl) e,c⟩,r⟩
 |rng lo hi=>obtain⟨t,u,v,e⟩:=x;exact⟨t,u,v,k _ _ (.inl rfl) e⟩
 |frz l u U=>obtain⟨e,q⟩:=x;exact⟨k _ _ (.inl rfl) e,U q⟩
 |tbl M=>
  have e:h.get? a=some { cls:=.none,data:=.fields M }:=x;show h'.get? a=some { cls:=.none,data:=.fields M };exact k a _ (.inl rfl) e
 |met f y=>
  have e:h.get? a=some (W.methodObj (.ref f) (.ref y)):=x;show h'.get? a=some (W.methodObj (.ref f) (.ref y));exact k a _ (.inl rfl) e
 |ext φ=>obtain⟨p,⟨o,e⟩,st⟩:=x;exact⟨st _ _ p λo q=>k _ _ (.inl rfl) q,⟨o,k _ _ (.inl rfl) e⟩,st⟩
theorem Bu.lt(x:Bu P w H h)(e:H a=some o):a<h.objs.size:=(x a o e).lt
def Bu.fresh(x:Bu P w H h)(e:h.objs.size<=a):H a=none:=by
 cases q:H a with
 |none=>rfl
 |some u=>exact absurd (aR (x.lt q) e) (eJ _)
def Bu.kept(x:Bu P w H h)(k:∀b u,h.get? b=some u->h'.get? b=some u):Bu P w H h':=λa o e=>
 (x a o e).stay (λb u _ q=>k b u q) (λ_ q=>q) λ_ _ q=>q
def Bu.laid(x:Bu P w H h)(k:∀b u,h.get? b=some u->h'.get? b=some u)(l:h.objs.size<=a)(new:rq P w (qE H a o) h' a o):Bu P w (qE H a o) h':=λb u e=>by
 have hn:=x.fresh l
 by_cases hb:b=a
 .subst hb;rw[oY]at e;cases e;exact new
 .rw[pD hb]at e;exact(x b u e).stay (λc v _ q=>k c v q) (λc q=>by rw[pD (rB q hn)];exact q) λc n q=>by rw[pD (rB q hn)];exact q
end
def Rd(H:Hp)(a:Addr)(u:HO):Prop:=H a=some u∨∃o,H a=some (.frz o u)
def Rd.ok(r:Rd H a u)(x:Bu P w H h):rq P w H h a u:=by
 rcases r with r|⟨o,r⟩
 .exact x a u r
 .obtain⟨_,q⟩:=x a _ r;exact q
def Mut:Option HO->Prop
 |some (.lst _)=>True
 |some (.dK _)=>True
 |some (.dT _)=>True
 |some (.set _ _)=>True
 |some (.ins _ _ _)=>True
 |some (.ext _)=>True
 |_=>False
def Bu.write(ok:Bu P w H h)(mu:Mut (H x))(G:e=x∨H e=some (.own x))(k:∀b u,b≠e->h.get? b=some u->h'.get? b=some u)(E:∃u,h'.get? e=some u)
  (new:rq P w (qE H x o') h' x o'):Bu P w (qE H x o') h':=λb u q=>by
 have n:∀c y,H c=some (.own y)->c≠x:=λc y r z=>by subst z;rw[r]at mu;exact mu
 have s:∀c t,H c=some (.tup t)->c≠x:=λc t r z=>by subst z;rw[r]at mu;exact mu
 by_cases hb:b=x
 .subst hb;rw[oY]at q;cases q;exact new
 .rw[pD hb]at q
  by_cases l:b=e
  .have I:H b=some (.own x):=by
    rcases G with z|z
    .exact absurd (l.trans z) hb
    .rw[l];exact z
   rw[q]at I;cases I;obtain⟨v,J⟩:=E;exact⟨v,by rw[l];exact J⟩
  .refine(ok b u q).stay (λc v B r=>k c v ?_ r) (λc r=>by rw[pD (n c b r)];exact r) λc t r=>by rw[pD (s c t r)];exact r
   rcases B with rfl|B
   .exact l
   .rintro rfl;rcases G with z|z
    .exact n c b B z
    .rw[B]at z;cases z;exact hb rfl
structure Un (fs ex:Δ)(H H':Hp)(h h':Heap):Prop where
 keep:∀b o,h.get? b=some o->H b=none->b∉fs->b∉ex->h'.get? b=some o
 slot:∀b o,h.get? b=some o->H b=none->b∈fs->b∉ex->∃sl,h'.get? b=some { o with slots:=sl }
 free:∀b o,h.get? b=some o->H b=none->b∉ex->H' b=none
 there:∀b o,h.get? b=some o->b∉ex->∃o',h'.get? b=some o'
 tups:∀b xs,H b=some (.tup xs)->H' b=some (.tup xs)
 frzs:∀b o u,H b=some (.frz o u)->H' b=some (.frz o u)
 tbls:∀b ps,H b=some (.tbl ps)->∃more,H' b=some (.tbl (ps++more))
section
variable {a:Addr}
def Un.any(u:Un fs ex H H1 h h1)(q:h.get? b=some l)(n:H b=none)(s:b∉ex):∃sl,h1.get? b=some { l with slots:=sl }:=by
 by_cases hb:b∈fs
 .exact u.slot b l q n hb s
 .exact⟨l.slots,u.keep b l q n hb s⟩
def Un.kept(k:∀b u,h.get? b=some u->h'.get? b=some u):Un fs ex H H h h':=
 ⟨λb l q _ _ _=>k b l q,λb l q _ _ _=>⟨l.slots,k b l q⟩,λ_ _ _ n _=>n,λb l q _=>⟨l,k b l q⟩,λ_ _ q=>q,λ_ _ _ q=>q,λ_ s q=>⟨#[],by rw[q];simp⟩⟩
def Un.refl:Un fs ex H H h h:=Un.kept λ_ _ q=>q
def Un.laid(k:∀b u,h.get? b=some u->h'.get? b=some u)(l:h.objs.size<=a)(hn:H a=none):Un fs ex H (qE H a o) h h' where
 keep:=λb u q _ _ _=>k b u q
 slot:=λb u q _ _ _=>⟨u.slots,k b u q⟩
 free:=λb u q n _=>by rw[pD (az (aR (ak q) l))];exact n
 there:=λb u q _=>⟨u,k b u q⟩
 tups:=λb s q=>by rw[pD (rB q hn)];exact q
 frzs:=λb u s q=>by rw[pD (rB q hn)];exact q
 tbls:=λb ps q=>⟨#[],by rw[pD (rB q hn),q];simp⟩
def Un.write(mu:Mut (H x))(E:e=x∨H e=some (.own x))(k:∀b u,b≠e->h.get? b=some u->h'.get? b=some u)(s:∃u,h'.get? e=some u):Un fs ex H (qE H x o) h h':=by
 have B:∀b,H b=none->b≠x:=λb n z=>by subst z;rw[n]at mu;exact mu
 have hb:∀b,H b=none->b≠e:=λb n z=>by
  subst z;rcases E with r|r
  .exact B b n r
  .rw[n]at r;cases r
 have t:∀b u,H b=some u->¬ Mut (some u)->b≠x:=λb u q nm z=>by subst z;rw[q]at mu;exact nm mu
 refine⟨λb u q n _ _=>k b u (hb b n) q,λb u q n _ _=>⟨u.slots,k b u (hb b n) q⟩,λb u q n _=>by rw[pD (B b n)];exact n,λb u q _=>?_,
  λb G q=>by rw[pD (t b _ q λz=>z)];exact q,λb u G q=>by rw[pD (t b _ q λz=>z)];exact q,λb I q=>⟨#[],by rw[pD (t b _ q λz=>z),q];simp⟩⟩
 by_cases l:b=e
 .subst l;exact s
 .exact⟨u,k b u l q⟩
end
noncomputable def trk(h:Heap)(H:Hp):Δ:=(aF h.objs.size).filter λa=>(H a).isSome
def Hx(h:Heap)(H:Hp):Heap:=W.hideAll h (trk h H)
def On(h)H:(Hx h H).objs.size=h.objs.size:=W.hideAll_size _ _
def RO(e:h.get? b=some o)(n:H b=none):(Hx h H).get? b=some o:=
 W.hideAll_get _ e λl=>by
  have q:(H b).isSome=true:=(bq.mp l).2;rw[n]at q;simp at q
def VE(e:(Hx h H).get? b=some o):h.get? b=some o/\H b=none:=by
 have l:h.get? b=some o:=W.of_hideAll (trk h H) e;refine⟨l,?_⟩;cases q:H b with
 |none=>rfl
 |some x=>
  have n:b∈trk h H:=bq.mpr ⟨bA.mpr (ak l),by simp[q]⟩
  have z:(Hx h H).get? b=none:=W.hideAll_none (trk h H) n;rw[z]at e;cases e
noncomputable def Xg(g h:Heap)(L:Addr):Φ:=(aF h.objs.size).filterMap λa=>if a=L∨(g.get? a).isSome=true then none else (h.get? a).map λo=>(a,o)
def sL(g h:Heap)(L d:Addr):Φ:=(Xg g h L).filter λp=>decide (p.1≠d)
structure Mod (K:Ζ)(mg:Str->Υ)(base:Heap):Prop where
 kin:K.In base
 glob:base.Ns kc mg
 blt:∃mb,base.Ns builtinsNs mb/\∀x:Str,x ≠ "__name__" -> mb x=mj x
 nolimit:base.NoLimit
structure Cx where
 prog:jZ
 w:ke
 K:Ζ
 mg:Str->Υ
 base:Heap
 A:Around
 N:List Str
 s₀:Shared
 H₀:Hp
 env:Env
 outer:List Env
 stack:List Env
 ex:Δ
 fn:Str->Bool
 calm:Bool
 pn:Φ
 xe:Ψ
noncomputable def RN(l:List Env):Δ:=l.filterMap (·.frame)
abbrev Cx.fs(X:Cx):Δ:=RN X.outer
def Vis(l:kW)(x:Str):Prop:=l.names.lookup x=some .local∨l.names.lookup x=some .cell∨l.names.lookup x=some .free
def Zh(l:kW)(x:Str):Prop:=l.names.lookup x=some .local∨l.names.lookup x=some .cell
def acO(env:Env)(h:Heap)(m:Str->Υ)(x:Str)(u:Value):Prop:=
 (env.kindOf x=some .local/\m x=some u)∨((env.kindOf x=some .cell∨env.kindOf x=some .free)/\∃c,env.cells.lookup x=some c/\h.IsCell c (some u))
structure Cx.Ok (X:Cx):Prop where
 mod:Mod X.K X.mg X.base
 kind:X.env.scope.kind = .function
 glob:X.env.globals=kc
 blt:X.env.builtins=builtinsNs
 above:X.s₀.heap.objs.size<=X.env.locals
 inj:∀x y c,X.env.cells.lookup x=some c->X.env.cells.lookup y=some c->x=y
 has:∀x,(X.env.kindOf x=some .cell∨X.env.kindOf x=some .free)->∃c,X.env.cells.lookup x=some c
 cab:∀x c,X.fn x=true->X.env.cells.lookup x=some c->X.s₀.heap.objs.size<=c
 hd:X.calm=true->X.A.handled=none
 frames:X.A.frames=some X.stack
 stk:X.stack=X.outer∨(X.stack=X.env::X.outer/\X.env.frame=some X.env.locals)
 exf:∀b∈X.ex,b≠X.env.locals/\∀x c,X.env.cells.lookup x=some c->c≠b
 bs:∀b o,X.base.get? b=some o->X.s₀.heap.get? b=some o/\X.H₀ b=none
 bsz:X.base.objs.size<=X.s₀.heap.objs.size
 noex:∀b o,X.base.get? b=some o->b∉X.ex
 exfs:∀b∈X.ex,b∉X.fs
 funs:X.s₀.heap.FunFrames X.base X.outer
 frf:∀b∈X.fs,X.H₀ b=none
structure Inv (X:Cx)(oE:Φ)(σ:List (Option V))(H:Hp)(s:Shared):Prop where
 ok:X.Ok
 os:s.os=X.s₀.os
 bare:mF s.gens
 base:Un X.fs X.ex X.H₀ H X.s₀.heap s.heap
 loc:∃m,s.heap.Ns X.env.locals m/\∀(i:Nat) (x:Str) (v:V),X.N[i]?=some x->σ[i]?=some (some v)->Vis X.env.scope x->∃u,qI v u/\acO X.env s.heap m x u
 cell:∀x c,X.env.cells.lookup x=some c->∃v,s.heap.IsCell c v
 free:H X.env.locals=none
 freeC:∀x c,X.env.cells.lookup x=some c->H c=none
 pin:∀p∈X.pn++oE,s.heap.get? p.1=some p.2/\H p.1=none/\p.1≠X.env.locals/\p.1∉X.fs/\∀v,p.2.data ≠ .cell v
 hok:Bu X.prog X.w H s.heap
 len:σ.length=X.N.length
section
variable {X:Cx}
def Cx.Ok.nofr(ok:X.Ok)(e:X.base.get? b=some o):b∉X.fs:=λhb=>by
 have:=(ok.funs.mem hb).1;rw[e]at this;cases this
theorem Inv.bs(I:Inv X oE σ H s):∀b o,X.base.get? b=some o->s.heap.get? b=some o/\H b=none:=λb o e=>
 ⟨I.base.keep b o (I.ok.bs b o e).1 (I.ok.bs b o e).2 (I.ok.nofr e) (I.ok.noex b o e),I.base.free b o (I.ok.bs b o e).1 (I.ok.bs b o e).2 (I.ok.noex b o e)⟩
def Inv.bk(I:Inv X oE σ H s):∀b o,X.base.get? b=some o->s.heap.get? b=some o:=λb o e=>(I.bs b o e).1
theorem Inv.mod(I:Inv X oE σ H s):Mod X.K X.mg X.base:=I.ok.mod
def Inv.kIn(I:Inv X oE σ H s):X.K.In s.heap:=I.ok.mod.kin.keeps I.bk
theorem Inv.lt(I:Inv X oE σ H s):X.env.locals<s.heap.objs.size:=let ⟨_,hn,_⟩:=I.loc;hn.lt
def Inv.sz(I:Inv X oE σ H s):X.s₀.heap.objs.size<=s.heap.objs.size:=cz I.ok.above (cT I.lt)
def Inv.nofs(I:Inv X oE σ H s){a:Addr}(h:s.heap.objs.size<=a):a∉X.fs:=λhb=>by
 obtain⟨_,o,l,_⟩:=I.ok.funs.mem hb;exact absurd (aR (ak l) (cz I.sz h)) (eJ _)
def Inv.cne(I:Inv X oE σ H s):∀x c,X.env.cells.lookup x=some c->c≠X.env.locals:=λx c e z=>by
 obtain⟨v,o,t,hd⟩:=I.cell x c e;obtain⟨m,⟨u,B,E,l,n,_⟩,_⟩:=I.loc;rw[z,l]at t;cases t;rw[n]at hd;cases hd
theorem Inv.funs(I:Inv X oE σ H s):s.heap.FunFrames X.base X.outer:=by
 have all:∀(l:List Env),(∀b∈RN l,b∈X.fs)->X.s₀.heap.FunFrames X.base l->s.heap.FunFrames X.base l:=by
  intro l
  induction l with
  |nil=>intro _ _;trivial
  |cons env r u=>
   intro hs hl;obtain⟨hk,⟨L,o,n,hn,x,hd⟩,hr⟩:=hl;have t:L∈X.fs:=hs L (by unfold RN;rw[gS,n];exact ah)
   obtain⟨B,e⟩:=I.base.slot L o x (I.ok.frf L t) t λz=>I.ok.exfs L z t
   exact⟨hk,⟨L,_,n,hn,e,hd⟩,u (λb hb=>hs b (by unfold RN;rw[gS,n];exact mCo _ hb)) hr⟩
 exact all X.outer (λ_ hb=>hb) I.ok.funs
theorem Inv.stack(I:Inv X oE σ H s):s.heap.FunFrames X.base X.stack:=by
 rcases I.ok.stk with e|⟨e,l⟩
 .rw[e];exact I.funs
 .rw[e];obtain⟨m,hn,_⟩:=I.loc;refine .cons (by rw[I.ok.kind];decide) l hn ?_ I.funs
  exact Heap.get?_none_of_le (cz I.ok.bsz I.ok.above)
def Inv.stkSub(I:Inv X oE σ H s):∀b∈RN X.stack,b∈X.env.locals::X.fs:=λb hb=>by
 rcases I.ok.stk with e|⟨e,l⟩
 .rw[e]at hb;exact mCo _ hb
 .rw[e]at hb;unfold RN at hb;rw[gS,l]at hb;exact hb
def Inv.stkFree(I:Inv X oE σ H s):∀b∈RN X.stack,H b=none:=λb hb=>by
 rcases aa.mp (I.stkSub b hb)with e|hb
 .rw[e];exact I.free
 .obtain⟨_,o,l,_⟩:=I.ok.funs.mem hb;exact I.base.free b o l (I.ok.frf b hb) λz=>I.ok.exfs b z hb
def Inv.step{ch:Δ}(I:Inv X oE σ H s)
  (B:∀b∈ch,(b∈X.ex∨X.s₀.heap.objs.size<=b)/\b≠X.env.locals/\(∀x c,X.env.cells.lookup x=some c->c≠b)/\∀p∈X.pn++oE,p.1≠b)
  (keep:∀b o,b≠X.env.locals->b∉X.fs->b∉ch->s.heap.get? b=some o->H b=none->h'.get? b=some o)
  (slot:∀b o,b≠X.env.locals->b∈X.fs->b∉ch->s.heap.get? b=some o->H b=none->∃sl,h'.get? b=some { o with slots:=sl }) (free:∀b o,b∉ch->s.heap.get? b=some o->H b=none->H' b=none)
  (there:∀b o,b∉ch->s.heap.get? b=some o->∃P,h'.get? b=some P)
  (tups:∀b M,H b=some (.tup M)->H' b=some (.tup M)) (frzs:∀b o u,H b=some (.frz o u)->H' b=some (.frz o u)) (tbls:∀b ps,H b=some (.tbl ps)->∃more,H' b=some (.tbl (ps++more)))
  (ns:∀m,s.heap.Ns X.env.locals m->h'.Ns X.env.locals m) (hok:Bu X.prog X.w H' h') (hg:mF g') :
  Inv X oE σ H' { s with heap:=h',gens:=g',drawn:=d',toks:=t' }:=by
 have Q:∀b o,X.s₀.heap.get? b=some o->b≠X.env.locals:=λb o e=>az (aR (ak e) I.ok.above)
 have J:∀b o,X.s₀.heap.get? b=some o->b∉X.ex->b∉ch:=λb o e t hb=>by
  rcases(B b hb).1 with z|z
  .exact t z
  .exact absurd (aR (ak e) z) (eJ _)
 have E:∀x c,X.env.cells.lookup x=some c->∀v,s.heap.IsCell c v->h'.IsCell c v:=λx c e v ⟨o,O,hd⟩=>by
  have G:c∉ch:=λz=>(B c z).2.2.1 x c e rfl
  by_cases U:c∈X.fs
  .obtain⟨sl,q⟩:=slot c o (I.cne x c e) U G O (I.freeC x c e);exact⟨_,q,hd⟩
  .exact⟨o,keep c o (I.cne x c e) U G O (I.freeC x c e),hd⟩
 refine⟨I.ok,I.os,hg,⟨λb o e n hb t=>?_,λb o e n hb t=>?_,λb o e n t=>?_,λb o e t=>?_,λb M e=>tups b M (I.base.tups b M e),λb o M e=>frzs b o M (I.base.frzs b o M e),λb ps e=>?_⟩,?_,λx c e=>?_,?_,λx c e=>?_,λp Y=>?_,hok,I.len⟩
 .exact keep b o (Q b o e) hb (J b o e t) (I.base.keep b o e n hb t) (I.base.free b o e n t)
 .obtain⟨sl,L⟩:=I.base.slot b o e n hb t;obtain⟨S,R⟩:=slot b _ (Q b o e) hb (J b o e t) L (I.base.free b o e n t);exact⟨S,R⟩
 .obtain⟨P,L⟩:=I.base.there b o e t;exact free b P (J b o e t) L (I.base.free b o e n t)
 .obtain⟨P,L⟩:=I.base.there b o e t;exact there b P (J b o e t) L
 .obtain⟨m1,L⟩:=I.base.tbls b ps e;obtain⟨m2,R⟩:=tbls b _ L;exact⟨m1++m2,by rw[R,Array.append_assoc]⟩
 .obtain⟨m,hn,hl⟩:=I.loc;refine⟨m,ns m hn,λi x v L R e3=>?_⟩
  obtain⟨u,r,l⟩:=hl i x v L R e3;refine⟨u,r,?_⟩;rcases l with l|⟨k,c,e,z⟩
  .exact .inl l
  .exact .inr ⟨k,c,e,E x c e _ z⟩
 .obtain⟨v,z⟩:=I.cell x c e;exact⟨v,E x c e v z⟩
 .obtain⟨m,⟨o,_,_,O,_⟩,_⟩:=I.loc;exact free _ o (λz=>(B _ z).2.1 rfl) O I.free
 .obtain⟨v,o,O,hd⟩:=I.cell x c e;exact free c o (λz=>(B c z).2.2.1 x c e rfl) O (I.freeC x c e)
 .obtain⟨e,n,ne,nf,d⟩:=I.pin p Y;have G:p.1∉ch:=λz=>(B p.1 z).2.2.2 p Y rfl
  exact⟨keep p.1 p.2 ne nf G e n,free p.1 p.2 G e n,ne,nf,d⟩
def Inv.un(I:Inv X oE σ H s)(u:Un X.fs [] H H' s.heap h')(hok:Bu X.prog X.w H' h'):Inv X oE σ H' { s with heap:=h',toks:=t' }:=by
 obtain⟨m,⟨o,L,M,B,r⟩,_⟩:=id I.loc;obtain⟨O,E⟩:=u.any B I.free ⋯
 exact I.step (g':=s.gens) (d':=s.drawn) (ch:=[]) (λ_ z=>nomatch z) (λb o _ hb _ e n=>u.keep b o e n hb ⋯) (λb o _ hb _ e n=>u.slot b o e n hb ⋯) (λb o _ e n=>u.free b o e n ⋯) (λb o _ e=>u.there b o e ⋯) u.tups u.frzs u.tbls (λP G=>by
  obtain⟨Q,t,x,l,J⟩:=G;rw[B]at l;cases l;exact⟨_,t,x,E,J⟩) hok I.bare
def Inv.call(I:Inv X oE σ H s)(u:Un (RN X.stack) ch H H' s.heap h')(hok:Bu X.prog X.w H' h')(M:mF g')
  (t:∀b∈ch,(b∈X.ex∨X.s₀.heap.objs.size<=b)/\b≠X.env.locals/\(∀x c,X.env.cells.lookup x=some c->c≠b)/\∀p∈X.pn++oE,p.1≠b) :
  Inv X oE σ H' { s with heap:=h',gens:=g',drawn:=d',toks:=t' }:=by
 obtain⟨m,⟨o,Q,R,L,r⟩,_⟩:=id I.loc;obtain⟨S,E⟩:=u.any L I.free λz=>(t _ z).2.1 rfl
 exact I.step (ch:=ch) t (λb o E hb l e n=>u.keep b o e n (λz=>(aa.mp (I.stkSub b z)).elim E hb) l) (λb o _ _ l e n=>u.any e n l) (λb o l e n=>u.free b o e n l) (λb o l e=>u.there b o e l) u.tups u.frzs u.tbls (λU O=>by
  obtain⟨Y,G,J,B,P⟩:=O;rw[L]at B;cases B;exact⟨_,G,J,E,P⟩) hok M
def Inv.turned(I:Inv X oE σ H s)(k:∀b o,b≠l->s.heap.get? b=some o->h'.get? b=some o)(hn:H l=none)(E:l≠X.env.locals)
  (G:l∈X.ex∨X.s₀.heap.objs.size<=l) (J:∀x c,X.env.cells.lookup x=some c->c≠l) (L:∀p∈X.pn++oE,p.1≠l):Inv X oE σ H { s with heap:=h',toks:=t' }:=by
 have B:∀b u,H b=some u->b≠l:=λb u e z=>by rw[z,hn]at e;cases e
 refine I.step (g':=s.gens) (d':=s.drawn) (ch:=[l]) (λb hb=>?_) (λb o _ _ t e _=>k b o (λz=>t (by simp[z])) e) (λb o _ _ t e _=>⟨o.slots,k b o (λz=>t (by simp[z])) e⟩) (λ_ _ _ _ n=>n)
  (λb o t e=>⟨o,k b o (λz=>t (by simp[z])) e⟩) (λ_ _ e=>e) (λ_ _ _ e=>e) (λb R e=>⟨#[],by rw[e];simp⟩) (λm M=>?_) (λb u e=>?_) I.bare
 .have e:b=l:=by simpa using hb
  subst e;exact⟨G,E,J,L⟩
 .obtain⟨o,O,P,Q,r⟩:=M;exact⟨o,O,P,k _ o (Ne.symm E) Q,r⟩
 .refine(I.hok b u e).stay (λc v t q=>k c v ?_ q) (λ_ q=>q) λ_ _ q=>q
  rcases t with z|z
  .rw[z];exact B b u e
  .exact B c _ z
def Inv.tok(I:Inv X oE σ H s)t:Inv X oE σ H { s with toks:=t }:=I.un (h':=s.heap) (t':=t) Un.refl I.hok
theorem Inv.kept(I:Inv X oE σ H s)(k:∀b u,s.heap.get? b=some u->h'.get? b=some u):Inv X oE σ H { s with heap:=h',toks:=t' }:=I.un (Un.kept k) (I.hok.kept k)
theorem Inv.laid{a:Addr}(I:Inv X oE σ H s)(k:∀b u,s.heap.get? b=some u->h'.get? b=some u)(l:s.heap.objs.size<=a)(new:rq X.prog X.w (qE H a o) h' a o) :
  Inv X oE σ (qE H a o) { s with heap:=h',toks:=t' }:=I.un (Un.laid k l (I.hok.fresh l)) (I.hok.laid k l new)
theorem Inv.write(I:Inv X oE σ H s)(mu:Mut (H x))(n:e=x∨H e=some (.own x))(k:∀b u,b≠e->s.heap.get? b=some u->h'.get? b=some u)(l:∃u,h'.get? e=some u)
  (new:rq X.prog X.w (qE H x o) h' x o):Inv X oE σ (qE H x o) { s with heap:=h',toks:=t' }:=I.un (Un.write mu n k l) (I.hok.write mu n k l new)
def Inv.pins_of(I:Inv X oE σ H s)(h:∀p∈l,s.heap.get? p.1=some p.2/\H p.1=none/\p.1≠X.env.locals/\p.1∉X.fs/\∀v,p.2.data ≠ .cell v):Inv X l σ H s:=
 ⟨I.ok,I.os,I.bare,I.base,I.loc,I.cell,I.free,I.freeC,λp n=>(mAq.mp n).elim (λz=>I.pin p (ao _ z)) (h p),I.hok,I.len⟩
def Jz{N:List Str}(l:N.Nodup){i:Nat}(a:N[i]?=some x)(b:N[j]?=some x):i=j:=by
 obtain⟨u,n⟩:=gSq.mp a;obtain⟨z,t⟩:=gSq.mp b;exact(List.getElem_inj l).mp (n.trans t.symm)
def Ov{E:Ψ}(I:Inv X oE σ H s)(hN:X.N.Nodup)(hi:X.N[i]?=some x)(G:Zh X.env.scope x)(r:qI v u)
  (h:∀s',Inv X oE (σ.set i (some v)) H s'->(∃a,cD a s.heap s'.heap/\(a=X.env.locals∨X.env.cells.lookup x=some a))->Q () s') (hf:X.fn x=true∨X.env.scope.names.lookup x=some .local:=by trivial):jW M A (storeName X.env x u) Q E s:=by
 obtain⟨m,hn,hl⟩:=id I.loc;have S:(X.env.scope.kind == .class || (X.env.scope.kind == .module && X.env.locals != X.env.globals))=false:=by rw[I.ok.kind];rfl
 have O:i<σ.length:=by rw[I.len];exact(gSq.mp hi).1
 have cne:=I.cne;have l:∀{a:Addr}{h':Heap},(∃o,s.heap.get? a=some o/\H a=none)->cD a s.heap h'->Bu X.prog X.w H h':=λ{a h'} ha hs b ob e=>by
  obtain⟨_,_,J⟩:=ha;refine(I.hok b ob e).stay (λc w' B q=>(hs.2 c ?_).trans q) (λ_ q=>q) λ_ _ q=>q
  rintro rfl;rcases B with rfl|B
  .rw[J]at e;cases e
  .rw[J]at B;cases B
 rcases G with hk|hk
 .refine wpAny_storeName_local hk hn (λh' hn' hs=>?_) S
  obtain⟨oL,_,_,hoL,_⟩:=id hn;refine h _ ⟨I.ok,I.os,I.bare,⟨λb o e n hb G=>?_,λb o e n hb G=>?_,I.base.free,λb o e G=>?_,I.base.tups,I.base.frzs,I.base.tbls⟩,⟨_,hn',λj y v' t L e3=>?_⟩,λy c e=>?_,I.free,I.freeC,λp hp=>?_,l ⟨oL,hoL,I.free⟩ hs,by simpa using I.len⟩ ⟨_,hs,.inl rfl⟩
  .exact(hs.2 b (az (aR (ak e) I.ok.above))).trans (I.base.keep b o e n hb G)
  .obtain⟨sl,t⟩:=I.base.slot b o e n hb G;exact⟨sl,(hs.2 b (az (aR (ak e) I.ok.above))).trans t⟩
  .obtain⟨o',t⟩:=I.base.there b o e G;exact⟨o',(hs.2 b (az (aR (ak e) I.ok.above))).trans t⟩
  .by_cases P:j=i
   .subst P;rw[hi]at t;cases t;rw[aW O]at L;cases L;exact⟨u,r,.inl ⟨hk,by simp⟩⟩
   .rw[aC (Ne.symm P)]at L;obtain⟨u',r',q⟩:=hl j y v' t L e3;refine⟨u',r',?_⟩;rcases q with⟨k,e⟩|⟨k,c,e,z⟩
    .refine .inl ⟨k,?_⟩;have:y≠x:=λe=>P (Jz hN t (e ▸ hi))
     simp[this,e]
    .exact .inr ⟨k,c,e,z.sameBut hs (cne y c e)⟩
  .obtain⟨w',z⟩:=I.cell y c e;exact⟨w',z.sameBut hs (cne y c e)⟩
  .obtain⟨e,n,ne,nf,d⟩:=I.pin p hp;exact⟨(hs.2 p.1 ne).trans e,n,ne,nf,d⟩
 .have R:X.fn x=true:=by
   rcases hf with z|z
   .exact z
   .rw[z]at hk;cases hk
  obtain⟨c,B⟩:=I.ok.has x (.inl hk);obtain⟨w',z⟩:=I.cell x c B;refine wpAny_storeName_cell I.ok.kind hk B z (λh' U hs=>?_)
  obtain⟨oc,Y,hocd⟩:=id z;refine h { s with heap:=h' } ⟨I.ok,I.os,I.bare,⟨λb o e n hb G=>?_,λb o e n hb G=>?_,I.base.free,λb o e G=>?_,I.base.tups,I.base.frzs,I.base.tbls⟩,⟨m,hn.sameBut hs (Ne.symm (cne x c B)),λj y v' t L e3=>?_⟩,λy c' e=>?_,I.free,I.freeC,λp hp=>?_,l ⟨oc,Y,I.freeC x c B⟩ hs,by simpa using I.len⟩ ⟨c,hs,.inr B⟩
  .exact(hs.2 b (az (aR (ak e) (I.ok.cab x c R B)))).trans (I.base.keep b o e n hb G)
  .obtain⟨sl,t⟩:=I.base.slot b o e n hb G;exact⟨sl,(hs.2 b (az (aR (ak e) (I.ok.cab x c R B)))).trans t⟩
  .obtain⟨o',t⟩:=I.base.there b o e G;exact⟨o',(hs.2 b (az (aR (ak e) (I.ok.cab x c R B)))).trans t⟩
  .by_cases P:j=i
   .subst P;rw[hi]at t;cases t;rw[aW O]at L;cases L;exact⟨u,r,.inr ⟨.inl hk,c,B,U⟩⟩
   .rw[aC (Ne.symm P)]at L;obtain⟨u',r',q⟩:=hl j y v' t L e3;refine⟨u',r',?_⟩;rcases q with q|⟨k,c',e,z'⟩
    .exact .inl q
    .refine .inr ⟨k,c',e,z'.sameBut hs ?_⟩;rintro rfl;exact P (Jz hN t (I.ok.inj _ _ _ e B ▸ hi))
  .by_cases hcc:c'=c
   .subst hcc;exact⟨_,U⟩
   .obtain⟨w2,z2⟩:=I.cell y c' e;exact⟨w2,z2.sameBut hs hcc⟩
  .obtain⟨e,n,ne,nf,d⟩:=I.pin p hp;refine⟨(hs.2 p.1 ?_).trans e,n,ne,nf,d⟩;intro q;rw[q,Y]at e;have q':oc=p.2:=aA.inj e;exact d w' (by rw[←q'];exact hocd)
def IG{E:Ψ}(I:Inv X oE σ H s)(n:X.N.Nodup)(hi:X.N[i]?=some x)(t:Zh X.env.scope x)(r:qI v u)
  (h:∀l,Inv X oE (σ.set i (some v)) H l->Q () l) (z:X.fn x=true∨X.env.scope.names.lookup x=some .local:=by trivial):jW M A (storeName X.env x u) Q E s:=
 Ov I n hi t r (λl B _=>h l B) z
def Inv.call'(I:Inv X oE σ H s)(t:l.os=s.os)(u:Un (RN X.stack) ch H H' s.heap l.heap)(hok:Bu X.prog X.w H' l.heap)(z:mF l.gens)
  (n:∀b∈ch,(b∈X.ex∨X.s₀.heap.objs.size<=b)/\b≠X.env.locals/\(∀x c,X.env.cells.lookup x=some c->c≠b)/\∀p∈X.pn++oE,p.1≠b):Inv X oE σ H' l:=by
 obtain⟨h',B,E,G,J⟩:=l;have e:J=s.os:=t;subst e;exact I.call (g':=B) (t':=G) (d':=E) u hok z n
end
abbrev XK:=Value->Option Addr->Hp->Prop
abbrev St:=List (Option V)
abbrev VK:=V->Hp->Prop
abbrev TE:=St->Hp->VK->Prop
abbrev TT:=St->Hp->(Bool->Hp->Prop)->Prop
abbrev TA:=St->Hp->(List V->Hp->Prop)->Prop
structure AI where
 nx:St->Hp->Prop
 rt:VK
 bk:St->Hp->Prop:=λ_ _=>False
 ct:St->Hp->Prop:=λ_ _=>False
abbrev TS:=AI->St->Hp->Prop
def EP(X:Cx)(n:Φ)(σ:St)(Q:VK)(u:Value)(s:Shared):Prop:=∃v l,Inv X n σ l s/\qI v u/\Q v l
def TP(X:Cx)(n:Φ)(σ:St)(Q:Bool->Hp->Prop)(b:Bool)(s:Shared):Prop:=∃l,Inv X n σ l s/\Q b l
def AP(X:Cx)(n:Φ)(σ:St)(Q:List V->Hp->Prop)(s:Ξ)(t:Shared):Prop:=∃vs l,Inv X n σ l t/\qk vs s/\Q vs l
def SP(X:Cx)(s:Φ)(D:AI)(f:Flow)(t:Shared):Prop:=
 match f with
 | .next=>∃l n,Inv X s l n t/\D.nx l n
 | .brk=>∃l n,Inv X s l n t/\D.bk l n
 | .cont=>∃l n,Inv X s l n t/\D.ct l n
 | .ret u=>∃v l n,Inv X s l n t/\qI v u/\D.rt v n
def PE(X:Cx)(e:Expr)(t:TE):Prop:=
 ∀l s (σ:St) H Q,Inv X l σ H s->t σ H Q->jW (jU X.prog X.w) X.A (eval e X.env) (EP X l σ Q) X.xe s
def PT(X:Cx)(e:Expr)(t:TT):Prop:=
 ∀l s (σ:St) H Q,Inv X l σ H s->t σ H Q->jW (jU X.prog X.w) X.A (isTrue e X.env (eval e X.env)) (TP X l σ Q) X.xe s
def PW(X:Cx)(e:Expr)(t:TT):Prop:=
 ∀whole l s (σ:St) H Q,Inv X l σ H s->t σ H Q->jW (jU X.prog X.w) X.A (isTrue e X.env whole) (TP X l σ Q) X.xe s
def PW.pt(h:PW X e t):PT X e t:=h _
def PA(X:Cx)(n:List Expr)(t:TA):Prop:=
 ∀pos l s (σ:St) H Q,Inv X l σ H s->t σ H Q->jW (jU X.prog X.w) X.A (spliced (lu pos (kf n X.env))) (AP X l σ Q) X.xe s
def PS(X:Cx)(st:Stmt)(t:TS):Prop:=
 ∀l s (σ:St) H D,Inv X l σ H s->t D σ H->jW (jU X.prog X.w) X.A (exec st X.env) (SP X l D) X.xe s
def KD(X:Cx)(st:List Stmt)(t:TS):Prop:=
 ∀l s (σ:St) H D,Inv X l σ H s->t D σ H->jW (jU X.prog X.w) X.A (execs st X.env) (SP X l D) X.xe s
def thn{t:Sem α}{Q l}{E:Ψ}(h:jW M A t Q E s)(n:∀a s,Q a s->l a s):jW M A t l E s:=kB h n λ_ _ x=>x
section
def wU(i:Nat):TE:=λσ H Q=>∃v,σ[i]?=some (some v)/\Q v H
def tC(v:V):TE:=λ_ H Q=>Q v H
def Zt(B:X.N[i]?=some x)(E:Vis X.env.scope x)(hd:(x == ("__debug__" : Str))=false:=by decide)(t:(x == ("__classdict__" : Str))=false:=by decide):PE X (.Name x pos) (wU i):=by
 intro G s σ H Q I h;obtain⟨v,e,h⟩:=h;obtain⟨m,hn,hl⟩:=I.loc;obtain⟨u,r,l⟩:=hl i x v B e E;have fin:EP X G σ Q u s:=⟨v,H,I,r,h⟩;rcases l with⟨hk,J⟩|⟨hk,c,z,n⟩
 .exact wpAny_Name (wpAny_loadName_local I.ok.kind hk hn J fin) hd
 .rcases hk with hk|hk
  .exact wpAny_Name (wpAny_loadName_cell I.ok.kind hk z n fin) hd
  .exact wpAny_Name (wpAny_loadName_free I.ok.kind hk z n fin t) hd
def pB:PE X (.Constant (.int i) j pos) (tC (.int i)):=λ_ _ _ H _ I h=>wpAny_Constant_int ⟨.int i,H,I.tok _,⟨_,rfl⟩,h⟩
def XR:PE X (.Constant (.bool b) j pos) (tC (.bl b)):=λ_ _ _ H _ I h=>Constant_bool ⟨.bl b,H,I,rfl,h⟩
def Ya:PE X (.Constant .none j pos) (tC .non):=λ_ _ _ H _ I h=>Constant_none ⟨.non,H,I,rfl,h⟩
def aaj:PE X (.Constant (.str x) j pos) (tC (.str x)):=λ_ _ _ H _ I h=>Calls.Constant_str ⟨.str x,H,I.tok _,⟨_,rfl⟩,h⟩
def Gl(X:Cx)(x:Str):Prop:=X.env.kindOf x=some .globalImplicit
def Wj{E:Ψ}{σ:St}{Q:Ψ}(I:Inv X l σ H s)(n:Gl X x)(t:X.mg x=some u)(h:Q u s)
  (hd:(x == ("__debug__" : Str))=false:=by decide):jW (jU X.prog X.w) X.A (eval (.Name x pos) X.env) Q E s:=
 Calls.Name_function_global I.ok.kind n (Calls.loadGlobal_global (by rw[I.ok.glob];exact I.mod.glob.keeps I.bk) t h) hd
def vA{E:Ψ}{σ:St}{Q:Ψ}(I:Inv X l σ H s)(n:Gl X x)(t:X.mg x=none)(z:mj x=some u)(h:Q u s)
  (hn:x ≠ "__name__" := by decide) (hd:(x == ("__debug__" : Str))=false:=by decide):jW (jU X.prog X.w) X.A (eval (.Name x pos) X.env) Q E s:=by
 obtain⟨J,B,G⟩:=I.mod.blt;exact Calls.Name_function_global I.ok.kind n (Calls.loadGlobal_builtin (by rw[I.ok.glob];exact I.mod.glob.keeps I.bk) t (by rw[I.ok.blt];exact B.keeps I.bk) ((G x hn).trans z) h) hd
def Xa(l:Gl X x)(n:X.mg x=none)(s:mj x=some u)(r:qI v u)(hn:x ≠ "__name__" := by decide)(hd:(x == ("__debug__" : Str))=false:=by decide):PE X (.Name x pos) (tC v):=
 λ_ _ _ H _ I h=>vA I l n s ⟨v,H,I,r,h⟩ hn hd
def PC(X:Cx)(op:CmpOp)(a b:Expr)(t:TE):Prop:=
 ∀x s (σ:St) H Q,Inv X x σ H s->t σ H Q ->
  jW (jU X.prog X.w) X.A (eval a X.env) (λv l=>jW (jU X.prog X.w) X.A (eval b X.env) (λu n=>jW (jU X.prog X.w) X.A (kH op v u) (EP X x σ Q) X.xe n) X.xe l) X.xe s
def tB(t:TE):TT:=λσ H Q=>t σ H λx l=>∃c,x = .bl c/\Q c l
def TJ(h:PC X op a b t)(n:lV op b=false:=by first|exact l _ ⋯ ⋯|rfl):PT X (.Compare a [op] [b] pos) (tB t):=by
 intro z s σ H Q I hw;refine nC (thn (h z s σ H _ I hw) λv M n=>thn n λu O B=>thn B λc P ⟨x,E,G,J,L⟩=>?_) n
 obtain⟨d,rfl,q⟩:=L;cases J;exact ku ⟨E,G,q⟩
def S6(h:PE X e t)(l:∀whole,isTrue e X.env whole=(do let v ←whole;standAt e.pos;holding [v] (truthy v)):=by intro _;rfl):PT X e (tB t):=by
 intro n s σ H Q I hw;refine isTrue_plain (thn (h n s σ H _ I hw) λv G ⟨x,u,z,B,E⟩=>?_) (l _)
 obtain⟨d,rfl,q⟩:=E;cases B;exact ku ⟨u,z,q⟩
variable {sL:List Expr}
def abK(t u:TT):TT:=λσ H Q=>t σ H λc l=>if c=true then u σ l Q else Q false l
def tOr(t u:TT):TT:=λσ H Q=>t σ H λc l=>if c=true then Q true l else u σ l Q
def abi(t:TT):TT:=λσ H Q=>t σ H λc l=>Q (!c) l
def HQ(ha:PT X a tA):PW X (.BoolOp .And [a] pos) tA:=by
 intro n l s σ H Q I h;refine isTrue_and (thn (ha l s σ H Q I h) λc t e=>?_)
 cases c with
 |true=>exact isTrue_and_nil e
 |false=>exact e
def aaq(ha:PT X a tA):PW X (.BoolOp .Or [a] pos) tA:=by
 intro n l s σ H Q I h;refine isTrue_or (thn (ha l s σ H Q I h) λc t e=>?_)
 cases c with
 |false=>exact isTrue_or_nil e
 |true=>exact e
def Lq(ha:PT X a tA)(hb:PW X (.BoolOp .And (b::sL) pos) tB'):PW X (.BoolOp .And (a::b::sL) pos) (abK tA tB'):=by
 intro x l s σ H Q I h;refine isTrue_and (thn (ha l s σ H _ I h) λc z ⟨n,t,u⟩=>?_)
 cases c with
 |true=>exact hb x l z σ n Q t u
 |false=>exact⟨n,t,u⟩
def abY(ha:PT X a tA)(hb:PW X (.BoolOp .Or (b::sL) pos) tB'):PW X (.BoolOp .Or (a::b::sL) pos) (tOr tA tB'):=by
 intro x l s σ H Q I h;refine isTrue_or (thn (ha l s σ H _ I h) λc z ⟨n,t,u⟩=>?_)
 cases c with
 |true=>exact⟨n,t,u⟩
 |false=>exact hb x l z σ n Q t u
def ZT(ha:PT X a tA):PT X (.UnaryOp .Not a pos) (abi tA):=by
 intro l s σ H Q I h;exact isTrue_not (ha l s σ H (λc n=>Q (!c) n) I h)
def Xo(ta tb:TE):TE:=λσ H Q=>ta σ H λx l=>∃c,x = .bl c/\if c=true then tb σ l Q else Q (.bl false) l
def Xp(ta:TE):TE:=λσ H Q=>ta σ H λx l=>∃c,x = .bl c/\Q (.bl (!c)) l
def Hz(h:PE X a t):PE X (.BoolOp op [a] pos) t:=λl s σ H Q I hw=>BoolOp_one (h l s σ H Q I hw)
def Lh(ha:PE X a ta)(hb:PE X (.BoolOp .And (b::sL) pos) tb):PE X (.BoolOp .And (a::b::sL) pos) (Xo ta tb):=by
 intro n s σ H Q I h;refine BoolOp_and (thn (ha n s σ H _ I h) λv z ⟨x,t,u,B,l⟩=>?_)
 obtain⟨c,rfl,l⟩:=l;cases B;refine ku ?_;cases c with
 |true=>exact hb n z σ t Q u l
 |false=>exact⟨.bl false,t,u,rfl,l⟩
def ZP(ha:PE X a ta):PE X (.UnaryOp .Not a pos) (Xp ta):=by
 intro n s σ H Q I h;refine UnaryOp_ (thn (ha n s σ H _ I h) λv B ⟨x,t,u,z,l⟩=>?_)
 obtain⟨c,rfl,l⟩:=l;cases z;exact not_of (ku ⟨.bl (!c),t,u,rfl,l⟩)
end
def rF(K:Ζ)(H:Hp)(a:Addr)(s:List V):Prop:=
 Rd H a (.lst s) ∨
  ∃(o:Obj) (l:Ω) (n:Nat),K.lookup a=some o/\o.cls = .type "list" /\ o.dict=none/\o.data = .seq l n/\l.size<=jY/\qk s l.toList
def DG(K:Ζ)(H:Hp)(a:Addr)(s:List V):Prop:=
 Rd H a (.tup s) ∨
  ∃(o:Obj) (l:Ω) (n:Nat),K.lookup a=some o/\o.cls = .type "tuple" /\ o.data = .seq l n/\l.size<=jY/\qk s l.toList
noncomputable def adA:Value->Option V
 | .none=>some .non
 | .bool b=>some (.bl b)
 | .int i _=>some (.int i)
 | .str x _=>some (.str x)
 | .bytes b _=>some (.byt b)
 | .float b _=>some (.flt b)
 | .ref a=>some (.ref a)
 | .type n=>some (.ty n)
 |_=>none
def qI.abs(r:qI x u):adA u=some x:=by
 cases x with
 |non=>cases r;rfl
 |bl _=>cases r;rfl
 |int _=>obtain⟨t,rfl⟩:=r;rfl
 |str _=>obtain⟨t,rfl⟩:=r;rfl
 |byt _=>obtain⟨t,rfl⟩:=r;rfl
 |flt _=>obtain⟨t,rfl⟩:=r;rfl
 |ref _=>cases r;rfl
 |ty _=>cases r;rfl
theorem qI.inj(r:qI x u)(q:qI y u):x=y:=aA.inj (r.abs.symm.trans q.abs)
theorem qk.inj:∀{l n}{s},qk l s->qk n s->l=n
 |_,_,_,.nil,.nil=>rfl
 |_,_,_,.cons r t,.cons u x=>by rw[r.inj u,qk.inj t x]
section
variable {σ:St}
def rF.of{K}(h:H a=some (.lst xs)):rF K H a xs:=.inl (.inl h)
def DG.of{K}(h:H a=some (.tup xs)):DG K H a xs:=.inl (.inl h)
def Inv.list(I:Inv X oE σ H s)(h:rF X.K H a xs):∃l:Ξ,qk xs l/\nR s.heap a l.toArray/\xs.length<=jY:=by
 rcases h with h|⟨o,l,n,hk,t,hd,hs,u,r⟩
 .obtain⟨z,l,n,r,e⟩:=h.ok I.hok;exact⟨l,r,⟨_,n,e,rfl,rfl,rfl⟩,z⟩
 .refine⟨l.toList,r,⟨o,n,I.kIn a o hk,t,hd,by simpa using hs⟩,?_⟩
  have e:=r.length;simp only[ar]at e;lia
def Inv.tuple(I:Inv X oE σ H s)(h:DG X.K H a xs):∃l:Ξ,qk xs l/\IsTup s.heap a l.toArray/\xs.length<=jY:=by
 rcases h with h|⟨o,l,n,hk,t,hs,u,r⟩
 .obtain⟨z,l,r,p⟩:=h.ok I.hok;exact⟨l,r,p,z⟩
 .refine⟨l.toList,r,⟨o,I.kIn a o hk,t,n,by simpa using hs⟩,?_⟩
  have e:=r.length;simp only[ar]at e;lia
def Inv.list_inj(I:Inv X oE σ H s)(h:rF X.K H a xs)(h':rF X.K H a ys):xs=ys:=by
 obtain⟨t,r,⟨o,n,e,_,_,d⟩,_⟩:=I.list h;obtain⟨l,z,⟨E,G,u,_,_,x⟩,_⟩:=I.list h';rw[e]at u;cases u;rw[d]at x;injection x with B _
 have:t=l:=by simpa using congrArg Array.toList B
 subst this;exact r.inj z
end
noncomputable abbrev Cx.wish(X:Cx)(E:Ψ):Cx:={ X with xe:=E }
noncomputable abbrev Cx.nox(X:Cx):Cx:=X.wish λ_ _=>False
theorem Cx.Ok.wish{X:Cx}(ok:X.Ok)E:(X.wish E).Ok:=
 ⟨ok.mod,ok.kind,ok.glob,ok.blt,ok.above,ok.inj,ok.has,ok.cab,ok.hd,ok.frames,ok.stk,ok.exf,ok.bs,ok.bsz,ok.noex,ok.exfs,ok.funs,ok.frf⟩
def Cx.Ok.unwish{X:Cx}(ok:(X.wish E).Ok):X.Ok:=
 ⟨ok.mod,ok.kind,ok.glob,ok.blt,ok.above,ok.inj,ok.has,ok.cab,ok.hd,ok.frames,ok.stk,ok.exf,ok.bs,ok.bsz,ok.noex,ok.exfs,ok.funs,ok.frf⟩
section
variable {σ:St}
theorem Inv.wish(I:Inv X oE σ H s)E:Inv (X.wish E) oE σ H s:=⟨I.ok.wish E,I.os,I.bare,I.base,I.loc,I.cell,I.free,I.freeC,I.pin,I.hok,I.len⟩
theorem Inv.unwish(I:Inv (X.wish E) oE σ H s):Inv X oE σ H s:=⟨I.ok.unwish,I.os,I.bare,I.base,I.loc,I.cell,I.free,I.freeC,I.pin,I.hok,I.len⟩
theorem SP.unwish(h:SP (X.wish E) oE D f t):SP X oE D f t:=by
 cases f with
 |next=>obtain⟨l,n,I,q⟩:=h;exact⟨l,n,I.unwish,q⟩
 |brk=>obtain⟨l,n,I,q⟩:=h;exact⟨l,n,I.unwish,q⟩
 |cont=>obtain⟨l,n,I,q⟩:=h;exact⟨l,n,I.unwish,q⟩
 |ret u=>obtain⟨v,l,n,I,r,q⟩:=h;exact⟨v,l,n,I.unwish,r,q⟩
theorem KD.nox{st}(h:KD X.nox st t):KD X st t:=λoE s σ H D I hw=>
 kB (h oE s σ H D (I.wish _) hw) (λ_ _ q=>q.unwish) λ_ _ z=>False.elim z
end
section
variable {st:Stmt}{sL:List Stmt}
def Np:TS:=λD σ H=>D.nx σ H
def E1(t u:TS):TS:=λD σ H=>t { D with nx:=u D } σ H
def xa:KD X [] Np:=λ_ _ σ H _ I h=>mJ ⟨σ,H,I,h⟩
def oQ(x:PS X st t)(z:KD X sL u):KD X (st::sL) (E1 t u):=by
 intro n s σ H D I h;refine wpAny_execs_cons (thn (x n s σ H { D with nx:=u D } I h) λf B q=>?_)
 cases f with
 |next=>
  obtain⟨l,E,G,q⟩:=q;exact z n B l E D G q
 |ret v=>exact q
 |brk=>exact q
 |cont=>exact q
def qg(l:PS X st t):KD X [st] t:=by
 intro n s σ H D I h;refine wpAny_execs_cons (thn (l n s σ H D I h) λf x q=>?_)
 cases f with
 |next=>exact mJ q
 |ret v=>exact q
 |brk=>exact q
 |cont=>exact q
def Inv.quiet{σ:St}(I:Inv X l σ H s):interactive X.env=false:=by simp[interactive,I.ok.kind]
def zA(te:TE):TS:=λD σ H=>te σ H λ_ l=>D.nx σ l
def tV(l:PE X e te)(hs:nv e none pos.line X.env=pure false:=by rfl):PS X (.Expr e pos) (zA te):=by
 intro n s σ H D I h;exact wpAny_Expr_any (thn (l n s σ H _ I h) λv G ⟨x,z,B,J,E⟩=>⟨σ,z,B,E⟩) I.quiet hs
def Uh(te:TE):TS:=λD σ H=>te σ H D.rt
def yT(l:PE X e te):PS X (.Return (some e) pos) (Uh te):=by
 intro n s σ H D I h;exact wpAny_Return_some (thn (l n s σ H _ I h) λv J ⟨x,z,B,E,G⟩=>⟨x,σ,z,B,E,G⟩)
def Sq(c:TT)(t u:TS):TS:=λD σ H=>c σ H λb l=>if b=true then t D σ l else u D σ l
def zL(G:PT X c n)(ha:KD X a t)(hb:KD X b u):PS X (.If c a b pos) (Sq n t u):=by
 intro l s σ H D I h;refine wpAny_If (thn (G l s σ H _ I h) λd x ⟨z,B,E⟩=>?_)
 cases d with
 |true=>exact ha l x σ z D B E
 |false=>exact hb l x σ z D B E
def Sn:TS:=λ_ _ _=>False
def RW:PS X st Sn:=λ_ _ _ _ _ _ h=>h.elim
end
abbrev TG:=V->St->Hp->(St->Hp->Prop)->Prop
abbrev TGs:=List V->St->Hp->(St->Hp->Prop)->Prop
def PG(X:Cx)(l:Expr)(t:TG):Prop:=
 ∀x s (σ:St) H v u Q,Inv X x σ H s->qI v u->t v σ H Q ->
  jW (jU X.prog X.w) X.A (assign l X.env u) (λ_ B=>∃n z,Inv X x n z B/\Q n z) X.xe s
def PGs(X:Cx)(z:List Expr)(t:TGs):Prop:=
 ∀n s (σ:St) H vs u Q,Inv X n σ H s->qk vs u->t vs σ H Q ->
  jW (jU X.prog X.w) X.A (assignInOrder ((mT z X.env).map (·.2)) u) (λ_ B=>∃l x,Inv X n l x B/\Q l x) X.xe s
def rA(i:Nat):TG:=λv σ H Q=>Q (σ.set i (some v)) H
def Cz(l:X.N.Nodup)(hi:X.N[i]?=some x)(n:Zh X.env.scope x)(t:X.fn x=true∨X.env.scope.names.lookup x=some .local:=by trivial):PG X (.Name x pos) (rA i):=by
 intro B s σ H v u Q I r h;exact wpAny_assign_Name (IG I l hi n r (λE z=>⟨_,H,z,h⟩) t)
def KH:TGs:=λvs σ H Q=>vs=[]/\Q σ H
def ya(t:TG)(u:TGs):TGs:=λvs σ H Q=>∃v r,vs=v::r/\t v σ H λl n=>u r l n Q
def NK:PGs X [] KH:=by
 intro l s σ H n t Q I r h;obtain⟨e,h⟩:=h;subst e;cases r;exact assignInOrder_nil ⟨σ,H,I,h⟩
def Ff(z:PG X e t)(B:PGs X l u)
  (hs:(mT (e::l) X.env).map (·.2)=assign e X.env::(mT l X.env).map (·.2):=by rfl):PGs X (e::l) (ya t u):=by
 intro x s σ H P R Q I r h;obtain⟨v,S,E,h⟩:=h;subst E;cases r with
 |cons r G=>
  rw[hs];refine assignInOrder_cons (thn (z x s σ H _ _ _ I r h) λ_ J ⟨n,L,M,O⟩=>?_)
  exact B x J n L _ _ Q M G O
def Lb(K:Ζ)(n:Nat)(t:TGs):TG:=λv σ H Q=>∃a l,v = .ref a/\DG K H a l/\l.length=n/\t l σ H Q
def Se(E:X.calm=true)(h:PGs X l t)
  (hn:(mT l X.env).length=n:=by rfl) (x:(mT l X.env).findIdx? (·.1)=none:=by rfl):PG X (.Tuple l k pos) (Lb X.K n t):=by
 intro z s σ H v u Q I r hw;obtain⟨a,G,J,L,hl,hw⟩:=hw;subst J;cases r;obtain⟨M,B,ht,S⟩:=I.tuple L;refine assign_Tuple_tuple (I.ok.hd E) ht (by simp[hn,←hl,B.length]) x λO P=>?_
 have R:Inv X z σ H { s with heap:=O }:=I.kept (t':=s.toks) λb o e=>P b o (az (ak e)) e
 exact h z _ σ H G _ Q R (by simpa using B) hw
def FU(te:TE)(g:TG):TS:=λD σ H=>te σ H λx l=>g x σ l D.nx
def ZE(n:X.N.Nodup)(hi:X.N[i]?=some x)(t:Zh X.env.scope x)(u:PE X e te)(hs:nv e (some (.Name x l)) pos.line X.env=pure false:=by rfl)(z:X.fn x=true∨X.env.scope.names.lookup x=some .local:=by trivial) :
  PS X (.Assign [.Name x l] e pos) (FU te (rA i)):=by
 intro B s σ H D I h;refine wpAny_Assign_Name (thn (u B s σ H _ I h) λv O ⟨y,E,G,J,L⟩=>?_) hs
 exact IG G n hi t J (λP M=>⟨_,E,M,L⟩) z
def LR(c:TT)(u:TS):TS:=λD σ H=>∃W:Nat->St->Hp->Prop,(∃m,W m σ H)/\∀m σ H,W m σ H ->
 c σ H λb n=>if b=true then ∃N:St->Hp->Prop,(∀l s,N l s->∃t,t<m/\W t l s)/\u { D with nx:=N,ct:=N,bk:=D.nx } σ n else D.nx σ n
def Jf(R:PassesOwn (jU X.prog X.w) X.A X.env X.xe)(hc:PT X c P)(hb:KD X body Q):PS X (.While c body [] pos) (LR P Q):=by
 intro E s σ H D I h;obtain⟨W,⟨m0,w0⟩,turn⟩:=h;refine wpAny_While (codeAny_whileLoop (λn s'=>∃u S,Inv X E u S s'/\W n u S) ?_ m0 ⟨σ,H,I,w0⟩)
 rintro n s1 ⟨t,U,I1,w1⟩;refine kT R (thn (hc E s1 t U _ I1 (turn n t U w1)) λb s2 ⟨Y,I2,z⟩=>?_)
 cases b with
 |true=>
  obtain⟨N,hN,z⟩:=z;rw[pO rfl];refine kT R (thn (hb E s2 t Y _ I2 z) λf s3 B=>?_)
  cases f with
  |next=>
   obtain⟨l,x,G,J⟩:=B;obtain⟨L,M,O⟩:=hN l x J;exact⟨L,M,l,x,G,O⟩
  |cont=>
   obtain⟨l,x,G,J⟩:=B;obtain⟨L,M,O⟩:=hN l x J;exact⟨L,M,l,x,G,O⟩
  |brk=>exact B
  |ret v=>exact B
 |false=>
  rw[pK aM];exact mJ ⟨t,Y,I2,z⟩
structure It where
 go:Nat->Hp->Prop
 yld:Nat->Hp->V->Hp->Prop
 stop:Nat->Hp->Prop
def AH(X:Cx)(l:Φ)(H:Hp)(b:Addr):Prop:=
 H b=none/\b≠X.env.locals/\b∉X.fs/\(b∈X.ex∨X.s₀.heap.objs.size<=b)/\(∀x c,X.env.cells.lookup x=some c->c≠b)/\∀p∈X.pn++l,p.1≠b
def Inv.fpOk{σ:St}{b:Addr}(I:Inv X l σ H s)(hb:s.heap.objs.size<=b)(hn:n b=none):AH X l n b:=by
 refine⟨hn,du (aR I.lt hb),I.nofs hb,.inr (cz I.sz hb),λx c e z=>?_,λp t z=>?_⟩
 .obtain⟨v,q⟩:=I.cell x c e;exact absurd (aR q.lt (by rw[z];exact hb)) (eJ _)
 .exact absurd (aR (ak (I.pin p t).1) (by rw[z];exact hb)) (eJ _)
structure Hm (P:jZ)(w:ke)(K:Ζ)(tg:Expr)(J:It)(fp:Δ)(it:Addr)(tn:Nat->Heap->Prop):Prop where
 mem:it∈fp
 obj:∀i h,tn i h->∀b∈fp,∃o,h.get? b=some o/\∀v,o.data ≠ .cell v
 keep:∀i h h',tn i h->(∀b∈fp,∀o,h.get? b=some o->h'.get? b=some o)->tn i h'
 item:∀(X:Cx),X.prog=P->X.w=w->X.K=K->X.calm=true->∀(i:Nat) (oE:Φ) (s:Shared) (σ:St) (H:Hp) (E:Ψ),Inv X oE σ H s->(∀b∈fp,AH X oE H b)->tn i s.heap->J.go i H ->
  jW (jU P w) X.A (mB (.ref it)) (λr s1=>∃u,r=some u /\
   jW (jU P w) X.A (mK tg (.ref it) u) (λ_ s2=>∃x H',Inv X oE σ H' s2/\qI x u/\J.yld i H x H'/\tn (i+1) s2.heap/\∀b∈fp,H' b=none) E s1) E s
 done:∀(X:Cx),X.prog=P->X.w=w->X.K=K->X.calm=true->∀(i:Nat) (oE:Φ) (s:Shared) (σ:St) (H:Hp) (E:Ψ),Inv X oE σ H s->(∀b∈fp,AH X oE H b)->tn i s.heap->J.stop i H ->
  jW (jU P w) X.A (mB (.ref it)) (λr s1=>r=none/\Inv X oE σ H s1) E s
 self:∀(A:Around) (i:Nat) (s:Shared) (Q:Ψ) (E:Ψ),tn i s.heap->Q (.ref it) s->jW (jU P w) A (pyIter (.ref it)) Q E s
abbrev TI:=St->Hp->(It->Hp->Prop)->Prop
def PIE(X:Cx)(s:Φ)(σ:St)(x:Expr)(R:It->Hp->Prop)(l:Value)(s2:Shared):Prop:=
 ∃t fp u J n,l = .ref t/\Inv X s σ n s2/\Hm X.prog X.w X.K x J fp t u/\u 0 s2.heap/\(∀b∈fp,AH X s n b)/\R J n
def PI(X:Cx)(n iter:Expr)(t:TI):Prop:=
 ∀l s (σ:St) H R,Inv X l σ H s->t σ H R ->
  jW (jU X.prog X.w) X.A (eval iter X.env) (λv s1=>jW (jU X.prog X.w) X.A (pyIter v) (PIE X l σ n R) X.xe s1) X.xe s
def QP{E:Ψ}{vs:Ω}(z:s.heap.get? x=some o)(B:o.cls = .type n)(hd:o.data = .fields vs)
    (hn:["enumerate","zip","dict_itemiterator","dict_reverseitemiterator","odict_iterator","itertools.zip_longest","itertools.pairwise"].contains n=false) (l:Q () s):jW M A (mK t (.ref x) u) Q E s:=by
  unfold mK;cases t <;> first
    |exact jT l
    | (cases u <;> first
        |exact jT l
        | (refine jR (wpAny_load z ?_)
           rw[B,hd];show jW M A (if (["enumerate","zip","dict_itemiterator","dict_reverseitemiterator","odict_iterator","itertools.zip_longest","itertools.pairwise"].contains n && vs[0]? == some (km _))=true then _ else _) Q E s
           rw[pK (by intro h;rw[hn,iS]at h;cases h)]
           exact jT l))
noncomputable def Itl(K:Ζ)(a:Addr):It:=
 ⟨λi H=>∃l x,rF K H a l/\l[i]?=some x,λi H x n=>n=H/\∀l,rF K H a l->l[i]?=some x,λi H=>∃l,rF K H a l/\l.length<=i⟩
noncomputable def V2(lo:Int)(n:Nat):It:=⟨λi _=>i<n,λi H x l=>l=H/\x = .int (lo+i),λi _=>n<=i⟩
def PV{K}a l:Hm P w K tg (Itl K a) [l] l (λi h=>h.IsListIter l a i) where
 mem:=by simp
 obj:=λi h st b hb=>by
  have e:b=l:=by simpa using hb
  subst e;obtain⟨o,e,c,d⟩:=st;exact⟨o,e,λv z=>by rw[d]at z;cases z⟩
 keep:=λi h h' st k=>st.at λo e=>k l ⋯ o e
 item:=by
  intro X G hw J hc i oE s σ H E I t st L;subst G hw J;obtain⟨xs,x,B,M⟩:=L;obtain⟨O,Q,p,hz⟩:=I.list B;obtain⟨u,hu,ru⟩:=Q.get M;obtain⟨R,S,f2,U,Y,f5⟩:=t l ⋯
  refine wpAny_pyNext_list_item st p.isList (x:=u) (by simpa using hu) λh' n sb=>?_
  have I1:Inv X oE σ H { s with heap:=h' }:=I.turned (t':=s.toks) (λb o hb e=>(sb.2 b hb).trans e) R S U Y f5
  obtain⟨o,e,c,d⟩:=id n;exact⟨u,rfl,QP (s:={ s with heap:=h' }) e c d ⋯ ⟨x,H,I1,ru,⟨rfl,λys hy=>by rw[I.list_inj hy B];exact M⟩,n,λb hb=>(t b hb).1⟩⟩
 done:=by
  intro X G hw J hc i oE s σ H E I t st L;subst G hw J;obtain⟨xs,B,M⟩:=L;obtain⟨O,Q,p,hz⟩:=I.list B;obtain⟨R,S,f2,U,Y,f5⟩:=t l ⋯
  have hl:=Q.length;exact wpAny_pyNext_list_end (I.ok.hd hc) st p.isList (by simp;lia) λh' eb=>⟨rfl,I.turned (t':=s.toks) (λb o hb e=>eb b o hb e) R S U Y f5⟩
 self:=λ_ _ _ _ _ st h=>wpAny_pyIter_listiter st h
def KJ{K}l lo n:Hm P w K tg (V2 lo n) [l] l (λi h=>IsRangeIter h l (lo+(i:Nat)*1) ((n:Int)-(i:Nat)) 1) where
 mem:=by simp
 obj:=λi h st b hb=>by
  have e:b=l:=by simpa using hb
  subst e;exact⟨_,st,λv z=>by
   have z':Data.fields _=Data.cell v:=z;cases z'⟩
 keep:=λi h h' st k=>k l ⋯ _ st
 item:=by
  intro X B hw G J i U s σ H E I x st L;subst B hw G;obtain⟨M,O,f2,Q,R,S⟩:=x l ⋯
  have W:=Walks.range (prog:=X.prog) (w:=X.w) (I.ok.hd J) l lo 1 n;refine W.item i s _ _ L st λv h' Y hv u kk=>?_
  obtain⟨t,rfl⟩:=hv;have I1:Inv X U σ H { s with heap:=h',toks:=Y }:=I.turned (λb o hb e=>kk b o (by simpa using hb) e) M O Q R S
  refine⟨_,rfl,QP (s:={ s with heap:=h',toks:=Y }) (n:= "range_iterator") u rfl rfl ⋯ ⟨.int (lo+i),H,I1,⟨t,?_⟩,⟨rfl,rfl⟩,u,λb hb=>(x b hb).1⟩⟩
  rw[iJ]
 done:=by
  intro X B hw G J i U s σ H E I x st L;subst B hw G;obtain⟨M,O,f2,Q,R,S⟩:=x l ⋯
  exact wpAny_pyNext_range_end (I.ok.hd J) st (by have:n<=i:=L;lia) λh' eb=>⟨rfl,I.turned (t':=s.toks) (λb o hb e=>eb b o hb e) M O Q R S⟩
 self:=λ_ _ _ _ _ st h=>wpAny_pyIter_rangeiter st h
def Gh(K:Ζ)(tl:TE):TI:=λσ H R=>tl σ H λx l=>∃a,x = .ref a/\(∃n,rF K l a n)/\R (Itl K a) l
def ve(hl:PE X l tl):PI X tg l (Gh X.K tl):=by
 intro u s σ H R I h;refine thn (hl u s σ H _ I h) λv n ⟨x,z,t,B,E⟩=>?_
 obtain⟨a,e,⟨L,G⟩,q⟩:=E;subst e;cases B;obtain⟨J,M,p,O⟩:=t.list G;refine wpAny_pyIter_list p.isList ?_;refine⟨n.heap.objs.size,[n.heap.objs.size],_,_,z,rfl,t.kept (t':=n.toks) λb o e=>ai _ e,PV a _,⟨_,aD _ rfl,rfl,rfl⟩,λb hb=>?_,q⟩
 have e:b=n.heap.objs.size:=by simpa using hb
 subst e;exact t.fpOk (af _) (t.hok.fresh (af _))
def Uu{σ:St}{E:Ψ}{lo}(I:Inv X l σ H s)(z:-(2 ^ 62)<=lo)(B:lo<2 ^ 62)(G:-(2 ^ 62)<=hi)(J:hi<2 ^ 62)
  (q:R (V2 lo (hi-lo).toNat) H):jW (jU X.prog X.w) X.A (pyIter (.ref s.heap.objs.size)) (PIE X l σ tg R) E { s with heap:=s.heap.push { cls:=.type "range", data:=.fields #[.int lo t,.int hi u,.int 1 v] },toks:=n }:=by
 refine wpAny_pyIter_range (IsRange.new ..) (small_one z B G J) ?_;have x:Inv X l σ H { s with heap:=s.heap.push { cls:=.type "range", data:=.fields #[.int lo t,.int hi u,.int 1 v] },toks:=n }:=I.kept λb o e=>ai _ e
 refine⟨(s.heap.push { cls:=.type "range", data:=.fields #[.int lo t,.int hi u,.int 1 v] }).objs.size,[(s.heap.push { cls:=.type "range", data:=.fields #[.int lo t,.int hi u,.int 1 v] }).objs.size],_,_,H,rfl,
  x.kept (t':=n) λb o e=>ai _ e,KJ _ lo (hi-lo).toNat,?_,λb hb=>?_,q⟩
 .have L:lo+((0:Nat):Int)*1=lo:=by simp
  have M:(((hi-lo).toNat:Nat):Int)-((0:Nat):Int)=Builtin.Range.rangeSize lo hi 1:=by rw[rangeSize_one];split <;> lia
  show IsRangeIter _ _ (lo+((0:Nat):Int)*1) ((((hi-lo).toNat:Nat):Int)-((0:Nat):Int)) 1;rw[L,M];exact aD _ rfl
 .have e:b=(s.heap.push { cls:=.type "range", data:=.fields #[.int lo t,.int hi u,.int 1 v] }).objs.size:=by simpa using hb
  subst e;exact x.fpOk (af _) (x.hok.fresh (af _))
def Sv(l:TA):TI:=λσ H R=>l σ H λvs n=>∃j:Int,vs=[.int j]/\-(2 ^ 62)<=j/\j<2 ^ 62/\R (V2 0 j.toNat) n
def Af(u:Gl X "range")(x:X.mg "range" = none)(ha:PA X [a] n)(hs:kf [a] X.env=[(false,eval a X.env)]:=by rfl):PI X tg (.Call (.Name "range" p) [a] [] pos) (Sv n):=by
 intro z s σ H R I h;refine Call_ (vA I u x boot_range (bD (thn (ha pos z s σ H _ I h) λL M ⟨O,P,B,E,l⟩=>?_) hs rfl))
 obtain⟨j,e,l,G,q⟩:=l;subst e;cases E with
 |cons r J=>
  cases J;obtain⟨t,rfl⟩:=r;exact call_range_1 (Uu B ∅ ∅ l G (by simpa using q))
def Ii(u:TI)(g:TG)(z:TS):TS:=λD σ H=>u σ H λJ B=>∃W:Nat->Nat->St->Hp->Prop,(∃m,W 0 m σ B)/\∀i m σ H,W i m σ H ->
 (J.stop i H/\D.nx σ H)∨(J.go i H/\∃N:St->Hp->Prop,(∀l n,N l n->∃t,t<m/\W (i+1) t l n)/\∀x n,J.yld i H x n->g x σ n λs E=>z { D with nx:=N,ct:=N,bk:=D.nx } s E)
noncomputable def FF(fp:Δ)(h:Heap):Φ:=fp.filterMap λb=>(h.get? b).map λo=>(b,o)
def yK(hb:b∈fp)(e:h.get? b=some o):(b,o)∈FF fp h:=jd.mpr ⟨b,hb,by rw[e];rfl⟩
def OI(l:p∈FF fp h):p.1∈fp/\h.get? p.1=some p.2:=by
 obtain⟨b,hb,e⟩:=jd.mp l;cases q:h.get? b with
 |none=>rw[q]at e;cases e
 |some o=>
  rw[q]at e;have n:(b,o)=p:=aA.inj e;subst n;exact⟨hb,q⟩
def Inv.pinned{σ:St}(I:Inv X l σ H s)(t:∀b∈fp,AH X l H b)(u:∀b∈fp,∃o,s.heap.get? b=some o/\∀v,o.data ≠ .cell v):Inv X (l++FF fp s.heap) σ H s:=
 I.pins_of λp x=>(mAq.mp x).elim (λz=>I.pin p (aj _ z)) λz=>by
  obtain⟨hb,e⟩:=OI z;obtain⟨B,E,G,_⟩:=t p.1 hb;obtain⟨o,n,d⟩:=u p.1 hb;rw[e]at n;cases n;exact⟨e,B,E,G,d⟩
def Inv.unpinned{σ:St}(I:Inv X (l++pl) σ H s):Inv X l σ H s:=I.pins_of λp n=>I.pin p (aj _ (ao _ n))
def Ac(Q:PassesOwn (jU X.prog X.w) X.A X.env X.xe)(hc:X.calm=true)(hi:PI X tg iter wi)(hg:PG X tg g)(hb:KD X body tb)
  (hs:∀x,mw iter X.env x=pure x:=by intro _;rfl):PS X (.For tg iter body [] pos) (Ii wi g tb):=by
 intro O s σ H D I h;refine wpAny_For (thn (hi O s σ H _ I h) λv s1 h1=>thn h1 λitv s2 h2=>?_) hs
 obtain⟨it,R,tn,J,H2,e,I2,T,EZ,f2,W,⟨m0,w0⟩,turn⟩:=h2;subst e;have t:∀{L:Hp},(∀b∈R,L b=none)->∀b∈R,AH X O L b:=λhn b hb=>⟨hn b hb,(f2 b hb).2⟩
 refine codeAny_forLoop_any (λn s'=>∃i z L,Inv X O z L s'/\tn i s'.heap/\(∀b∈R,L b=none)/\W i n z L) ?_ m0 ⟨0,σ,H2,I2,EZ,λb hb=>(f2 b hb).1,w0⟩
 rintro n s3 ⟨i,B,Y,I3,st3,S,w3⟩;rcases turn i n B Y w3 with⟨stop,qn⟩|⟨go,N,hN,step⟩
 .refine kT Q (thn (T.done X rfl rfl rfl hc i O s3 B Y X.xe I3 (t S) st3 stop) λr s4 ⟨hr,I4⟩=>?_)
  subst hr;exact mJ ⟨B,Y,I4,qn⟩
 .refine kT Q (thn (T.item X rfl rfl rfl hc i O s3 B Y X.xe I3 (t S) st3 go) λr s4 ⟨u,hr,h4⟩=>?_)
  subst hr;refine kT Q (thn h4 λ_ s5 ⟨x,H5,I5,r5,y5,P,fr5⟩=>?_)
  have I5':=I5.pinned (t fr5) (T.obj _ _ P);refine kT Q (thn (hg _ s5 B H5 x u _ I5' r5 (step x H5 y5)) λ_ s6 ⟨σ6,H6,I6,q6⟩=>?_)
  refine kT Q (thn (hb _ s6 σ6 H6 _ I6 q6) λf s7 M=>?_)
  have again:∀{l:St}{E:Hp},Inv X (O++FF R s5.heap) l E s7->N l E->∃m,m<n/\∃i z L,Inv X O z L s7/\tn i s7.heap/\(∀b∈R,L b=none)/\W i m z L:=λ{l E} G U=>by
   obtain⟨m',hm,w7⟩:=hN l E U;refine⟨m',hm,i+1,l,E,G.unpinned,T.keep _ _ _ P λb hb o e=>(G.pin (b,o) (aj _ (aj _ (yK hb e)))).1,λb hb=>?_,w7⟩
   obtain⟨o,e,d⟩:=T.obj _ _ P b hb;exact(G.pin (b,o) (aj _ (aj _ (yK hb e)))).2.1
  cases f with
  |next=>obtain⟨l,E,G,U⟩:=M;exact again G U
  |cont=>obtain⟨l,E,G,U⟩:=M;exact again G U
  |brk=>obtain⟨l,E,G,M⟩:=M;exact⟨l,E,G.unpinned,M⟩
  |ret v=>obtain⟨x7,l,E,G,r7,M⟩:=M;exact⟨x7,l,E,G.unpinned,r7,M⟩
def EO{K}{g:TG}{E:TS}{D:AI}(n:Nat->St->Hp->Prop)(I:n 0 σ H)(hl:∀i σ H,i<=l.length->n i σ H->rF K H a l)
  (hs:∀i x σ H,l[i]?=some x->n i σ H->g x σ H λs B=>E { D with nx:=n (i+1),ct:=n (i+1),bk:=D.nx } s B) (hd:∀σ H,n l.length σ H->D.nx σ H) :
  ∃W:Nat->Nat->St->Hp->Prop,(∃m,W 0 m σ H)/\∀i m σ H,W i m σ H ->
   ((Itl K a).stop i H/\D.nx σ H)∨((Itl K a).go i H/\∃N:St->Hp->Prop,(∀t u,N t u->∃G,G<m/\W (i+1) G t u)/\∀x u,(Itl K a).yld i H x u->g x σ u λs B=>E { D with nx:=N,ct:=N,bk:=D.nx } s B):=by
 refine⟨λi m σ H=>m=l.length-i/\i<=l.length/\n i σ H,⟨l.length,by simp,aX _,I⟩,?_⟩
 rintro i m σ H ⟨rfl,hi,p⟩;have q:=hl i σ H hi p
 by_cases z:i<l.length
 .refine .inr ⟨⟨l,l[i],q,by simp[z]⟩,n (i+1),λt u J=>⟨l.length-(i+1),by lia,rfl,z,J⟩,λx u y=>?_⟩
  obtain⟨e,y⟩:=y;subst e;exact hs i x σ _ (y l q) p
 .have e:i=l.length:=by lia
  subst e;exact .inl ⟨⟨l,q,af _⟩,hd σ H p⟩
def O2{lo}{g:TG}{E:TS}{D:AI}(l:Nat->St->Hp->Prop)(I:l 0 σ H)
  (hs:∀i σ H,i<n->l i σ H->g (.int (lo+i)) σ H λs B=>E { D with nx:=l (i+1),ct:=l (i+1),bk:=D.nx } s B) (hd:∀σ H,l n σ H->D.nx σ H) :
  ∃W:Nat->Nat->St->Hp->Prop,(∃m,W 0 m σ H)/\∀i m σ H,W i m σ H ->
   ((V2 lo n).stop i H/\D.nx σ H)∨((V2 lo n).go i H/\∃N:St->Hp->Prop,(∀t u,N t u->∃G,G<m/\W (i+1) G t u)/\∀x u,(V2 lo n).yld i H x u->g x σ u λs B=>E { D with nx:=N,ct:=N,bk:=D.nx } s B):=by
 refine⟨λi m σ H=>m=n-i/\i<=n/\l i σ H,⟨n,by simp,aX _,I⟩,?_⟩
 rintro i m σ H ⟨rfl,hi,p⟩
 by_cases z:i<n
 .refine .inr ⟨z,l (i+1),λt u J=>⟨n-(i+1),by lia,rfl,z,J⟩,λx u y=>?_⟩
  obtain⟨e,y⟩:=y;subst e y;exact hs i σ _ z p
 .have e:i=n:=by lia
  subst e;exact .inl ⟨af _,hd σ H p⟩
abbrev R2:=V->V->Hp->VK->Prop
def Ed(X:Cx)(f:Value->Value->Sem Value)(r:R2):Prop:=
 ∀l s (σ:St) H x y v u Q,Inv X l σ H s->qI x v->qI y u->r x y H Q ->
  jW (jU X.prog X.w) X.A (f v u) (EP X l σ Q) X.xe s
def UnR(X:Cx)(f:Value->Sem Value)(r:V->Hp->VK->Prop):Prop:=
 ∀l s (σ:St) H x v Q,Inv X l σ H s->qI x v->r x H Q ->
  jW (jU X.prog X.w) X.A (f v) (EP X l σ Q) X.xe s
def uf(X:Cx)(f:Value)(r:List V->Hp->VK->Prop):Prop:=
 ∀l s (σ:St) H n t Q,Inv X l σ H s->qk n t->r n H Q ->
  jW (jU X.prog X.w) X.A (call f t) (EP X l σ Q) X.xe s
def adl(X:Cx)(r:V->Hp->(Bool->Hp->Prop)->Prop):Prop:=
 ∀l s (σ:St) H x v Q,Inv X l σ H s->qI x v->r x H Q ->
  jW (jU X.prog X.w) X.A (truthy v) (TP X l σ Q) X.xe s
def Xb(r:R2)(l n:TE):TE:=λσ H Q=>l σ H λx s=>n σ s λy t=>r x y t Q
def tUn(r:V->Hp->VK->Prop)(l:TE):TE:=λσ H Q=>l σ H λx n=>r x n Q
def rI(C:Int->Int->Prop)(g:Int->Int->V):R2:=λx y H Q=>∃i j,x = .int i/\y = .int j/\C i j/\Q (g i j) H
def Us(g:Int->Int->V):R2:=λx y H Q=>∃i j,x = .int i/\y = .int j/\Q (g i j) H
def rU(g:Int->V):V->Hp->VK->Prop:=λx H Q=>∃i,x = .int i/\Q (g i) H
def Yf(ha:PE X a ta)(hb:PE X b tb){σ:St}{R:V->V->Hp->Prop}(I:Inv X z σ H s)
  (h:ta σ H λx B=>tb σ B λy l=>R x y l) {Q:Ψ}{f:Value->Value->Sem Value}
  (E:∀v u s2 x y l,Inv X z σ l s2->qI x v->qI y u->R x y l->jW (jU X.prog X.w) X.A (f v u) Q X.xe s2) :
  jW (jU X.prog X.w) X.A (eval a X.env) (λv n=>jW (jU X.prog X.w) X.A (eval b X.env) (λu t=>jW (jU X.prog X.w) X.A (f v u) Q X.xe t) X.xe n) X.xe s:=by
 refine thn (ha z s σ H _ I h) λv G ⟨x,B,J,L,M⟩=>?_
 refine thn (hb z G σ B _ J M) λu s2 ⟨y,l,O,P,S⟩=>?_
 exact E v u s2 x y l O L P S
def qF(l:Ed X (mn op) r)(ha:PE X a ta)(hb:PE X b tb):PE X (.BinOp a op b pos) (Xb r ta tb):=by
 intro n s σ H Q I h;exact wpAny_BinOp (Yf ha hb I h λv u t x y z B E G q=>l n t σ z x y v u Q B E G q)
def EH(n:UnR X (unaryOp op) r)(ha:PE X a ta):PE X (.UnaryOp op a pos) (tUn r ta):=by
 intro l s σ H Q I h;exact UnaryOp_ (thn (ha l s σ H _ I h) λv t ⟨x,u,z,B,E⟩=>n l t σ u x v Q z B E)
def opI{g:Int->Int->Int}
  (rule:∀i j t u s (Q:Ψ) (E:Ψ),C i j->Q (.int (g i j) s.toks) { s with toks:=s.toks+1 }->jW (jU X.prog X.w) X.A (f (.int i t) (.int j u)) Q E s) :
  Ed X f (rI C λi j=>.int (g i j)):=by
 intro G s σ H x y v u Q I l n h;obtain⟨i,j,rfl,rfl,z,q⟩:=h;obtain⟨t,rfl⟩:=l;obtain⟨B,rfl⟩:=n;exact rule i j t B s _ _ z ⟨.int (g i j),H,I.tok _,⟨_,rfl⟩,q⟩
def acg{g:Int->Int->Int}
  (rule:∀i j t u s (Q:Ψ) (E:Ψ),Q (.int (g i j) s.toks) { s with toks:=s.toks+1 }->jW (jU X.prog X.w) X.A (f (.int i t) (.int j u)) Q E s) :
  Ed X f (Us λi j=>.int (g i j)):=by
 intro B s σ H x y v u Q I l n h;obtain⟨i,j,rfl,rfl,q⟩:=h;obtain⟨t,rfl⟩:=l;obtain⟨z,rfl⟩:=n;exact rule i j t z s _ _ ⟨.int (g i j),H,I.tok _,⟨_,rfl⟩,q⟩
def abP{g:Int->Int->Bool}
  (rule:∀i j t u s (Q:Ψ) (E:Ψ),Q (.bool (g i j)) s->jW (jU X.prog X.w) X.A (f (.int i t) (.int j u)) Q E s) :
  Ed X f (Us λi j=>.bl (g i j)):=by
 intro B s σ H x y v u Q I l n h;obtain⟨i,j,rfl,rfl,q⟩:=h;obtain⟨t,rfl⟩:=l;obtain⟨z,rfl⟩:=n;exact rule i j t z s _ _ ⟨.bl (g i j),H,I,rfl,q⟩
def YM(i j:Int):Prop:=0<j/\j<1073741824
def aah(i j:Int):Prop:=0<=j/\j<=1000000/\i.natAbs<2 ^ 64
def UG(i j:Int):Prop:=(-(2 ^ 64)<i/\i<2 ^ 64)∨(-(2 ^ 64)<j/\j<2 ^ 64)
def UG.ok(h:UG i j):IntMulOk i j:=by
 rcases h with⟨l,n⟩|⟨l,n⟩
 .exact .of_left (intBits_le_64 l n)
 .exact .of_right (intBits_le_64 l n)
def Aa:Ed X (mn .Add) (Us λi j=>.int (i+j)):=acg λ_ _ _ _ _ _ _ q=>add_int q
def Mi:Ed X (mn .Sub) (Us λi j=>.int (i-j)):=acg λ_ _ _ _ _ _ _ q=>sub_int q
def Ft:Ed X (mn .Mult) (rI UG λi j=>.int (i*j)):=opI λ_ _ _ _ _ _ _ l q=>mul_int q l.ok
def yO:Ed X (mn .FloorDiv) (rI YM λi j=>.int (i / j)):=opI λi j _ _ _ _ _ l q=>by
 have n:(0:Int)<j:=l.1;have s:j<1073741824:=l.2;exact floordiv_int ∅ (by rw[gZ i ∅];exact q) (.inl (PyProof.noPylong_small ∅))
def tL:Ed X (mn .Mod) (rI (λ_ j=>0<j) λi j=>.int (i % j)):=opI λi j _ _ _ _ _ l q=>by
 have n:(0:Int)<j:=l;exact mod_int' ∅ (by rw[Int.fmod_eq_emod_of_nonneg i ∅];exact q)
def Ll:Ed X (mn .Pow) (rI aah λi j=>.int (i ^ j.toNat)):=opI λ_ _ _ _ _ _ _ l q=>pow_int_small l.1 l.2.1 l.2.2 q
def unI{g:Int->Int}
  (rule:∀i t s (Q:Ψ) (E:Ψ),Q (.int (g i) s.toks) { s with toks:=s.toks+1 }->jW (jU X.prog X.w) X.A (f (.int i t)) Q E s) :
  UnR X f (rU λi=>.int (g i)):=by
 intro n s σ H x v Q I l h;obtain⟨i,rfl,q⟩:=h;obtain⟨t,rfl⟩:=l;exact rule i t s _ _ ⟨.int (g i),H,I.tok _,⟨_,rfl⟩,q⟩
def A9:UnR X (unaryOp .USub) (rU λi=>.int (-i)):=unI λ_ _ _ _ _ q=>neg_int q
noncomputable def scal:V->V->Bool
 | .non,.non=>true|.non,.int _=>true|.int _,.non=>true|.non,.bl _=>true|.bl _,.non=>true|.non,.str _=>true|.str _,.non=>true
 | .int _,.int _=>true|.bl _,.bl _=>true|.str _,.str _=>true|.byt _,.byt _=>true
 | .int _,.str _=>true|.str _,.int _=>true|.bl _,.str _=>true|.str _,.bl _=>true
 |_,_=>false
def rEq:R2:=λx y H Q=>scal x y=true/\Q (.bl (decide (x=y))) H
def rNe:R2:=λx y H Q=>scal x y=true/\Q (.bl (!decide (x=y))) H
def Nd:decide (V.int i=V.int j)=(i == j):=by
 rw[cE];simp
def Tp:decide (V.bl i=V.bl j)=(i == j):=by
 rw[cE];simp
def NT:decide (V.str i=V.str j)=(i == j):=by
 rw[cE];simp
def N7:decide (V.byt i=V.byt j)=(i.toList == j.toList):=by
 rw[cE];cases i;cases j;simp
def qw{σ:St}(I:Inv X l σ H s)(q:Q (.bl k) H)(e:k=n):EP X l σ Q (.bool n) s:=by
 subst e;exact⟨.bl k,H,I,rfl,q⟩
def TN:Ed X (kH .Eq) rEq:=by
 intro B s σ H x y v u Q I z l h;obtain⟨hs,q⟩:=h;cases x with
 |non=>
  cases z;cases y with
  |non=>cases l;exact PySem.EqNone.eq_none_none (qw I q ⋯)
  |bl j=>cases l;exact PySem.EqNone.eq_none_bool (qw I q ⋯)
  |int j=>obtain⟨n,rfl⟩:=l;exact PySem.EqNone.eq_none_int (qw I q ⋯)
  |str j=>obtain⟨n,rfl⟩:=l;exact PySem.EqNone.eq_none_str (qw I q ⋯)
  |_=>exact absurd (show false=true from hs) aM
 |bl i=>
  cases z;cases y with
  |non=>cases l;exact PySem.EqNone.eq_bool_none (qw I q ⋯)
  |bl j=>cases l;exact eq_bool (qw I q Tp)
  |str j=>obtain⟨n,rfl⟩:=l;exact PySem.EqMixed.eq_bool_str (qw I q ⋯)
  |_=>exact absurd (show false=true from hs) aM
 |int i=>
  obtain⟨t,rfl⟩:=z;cases y with
  |non=>cases l;exact PySem.EqNone.eq_int_none (qw I q ⋯)
  |int j=>obtain⟨n,rfl⟩:=l;exact eq_int (qw I q Nd)
  |str j=>obtain⟨n,rfl⟩:=l;exact PySem.EqMixed.eq_int_str (qw I q ⋯)
  |_=>exact absurd (show false=true from hs) aM
 |str i=>
  obtain⟨t,rfl⟩:=z;cases y with
  |non=>cases l;exact PySem.EqNone.eq_str_none (qw I q ⋯)
  |bl j=>cases l;exact PySem.EqMixed.eq_str_bool (qw I q ⋯)
  |int j=>obtain⟨n,rfl⟩:=l;exact PySem.EqMixed.eq_str_int (qw I q ⋯)
  |str j=>obtain⟨n,rfl⟩:=l;exact eq_str (qw I q NT)
  |_=>exact absurd (show false=true from hs) aM
 |byt i=>
  obtain⟨t,rfl⟩:=z;cases y with
  |byt j=>obtain⟨n,rfl⟩:=l;exact W.eq_bytes (qw I q N7)
  |_=>exact absurd (show false=true from hs) aM
 |_=>cases y <;> exact absurd (show false=true from hs) aM
def So:Ed X (kH .NotEq) rNe:=by
 intro B s σ H x y v u Q I z l h;obtain⟨hs,q⟩:=h;cases x with
 |non=>
  cases z;cases y with
  |non=>cases l;exact PySem.EqNone.ne_none_none (qw I q ⋯)
  |bl j=>cases l;exact PySem.EqNone.ne_none_bool (qw I q ⋯)
  |int j=>obtain⟨n,rfl⟩:=l;exact PySem.EqNone.ne_none_int (qw I q ⋯)
  |str j=>obtain⟨n,rfl⟩:=l;exact PySem.EqNone.ne_none_str (qw I q ⋯)
  |_=>exact absurd (show false=true from hs) aM
 |bl i=>
  cases z;cases y with
  |non=>cases l;exact PySem.EqNone.ne_bool_none (qw I q ⋯)
  |bl j=>cases l;exact ne_bool (qw I q (congrArg not Tp))
  |str j=>obtain⟨n,rfl⟩:=l;exact PySem.EqMixed.ne_bool_str (qw I q ⋯)
  |_=>exact absurd (show false=true from hs) aM
 |int i=>
  obtain⟨t,rfl⟩:=z;cases y with
  |non=>cases l;exact PySem.EqNone.ne_int_none (qw I q ⋯)
  |int j=>obtain⟨n,rfl⟩:=l;exact ne_int (qw I q (congrArg not Nd))
  |str j=>obtain⟨n,rfl⟩:=l;exact PySem.EqMixed.ne_int_str (qw I q ⋯)
  |_=>exact absurd (show false=true from hs) aM
 |str i=>
  obtain⟨t,rfl⟩:=z;cases y with
  |non=>cases l;exact PySem.EqNone.ne_str_none (qw I q ⋯)
  |bl j=>cases l;exact PySem.EqMixed.ne_str_bool (qw I q ⋯)
  |int j=>obtain⟨n,rfl⟩:=l;exact PySem.EqMixed.ne_str_int (qw I q ⋯)
  |str j=>obtain⟨n,rfl⟩:=l;exact ne_str (qw I q (congrArg not NT))
  |_=>exact absurd (show false=true from hs) aM
 |byt i=>
  obtain⟨t,rfl⟩:=z;cases y with
  |byt j=>obtain⟨n,rfl⟩:=l;exact W.ne_bytes (qw I q (congrArg not N7))
  |_=>exact absurd (show false=true from hs) aM
 |_=>cases y <;> exact absurd (show false=true from hs) aM
def Gy:Ed X (kH .Lt) (Us λi j=>.bl (decide (i<j))):=abP λ_ _ _ _ _ _ _ q=>lt_int q
def Kq:Ed X (kH .Gt) (Us λi j=>.bl (decide (j<i))):=abP λ_ _ _ _ _ _ _ q=>gt_int q
def Z9:Ed X (kH .Is) (λx y H Q=>y = .non/\Q (.bl (decide (x = .non))) H):=by
 intro z s σ H x y v u Q I l n h;obtain⟨rfl,q⟩:=h;cases n;refine is_none_gen (qw I q ?_);cases x <;> first
  | (cases l;rfl)
  | (obtain⟨t,rfl⟩:=l;rfl)
def V5:Ed X (kH .IsNot) (λx y H Q=>y = .non/\Q (.bl (!decide (x = .non))) H):=by
 intro z s σ H x y v u Q I l n h;obtain⟨rfl,q⟩:=h;cases n;refine isnot_none_gen (qw I q ?_);cases x <;> first
  | (cases l;rfl)
  | (obtain⟨t,rfl⟩:=l;rfl)
def vE b(h:op ≠ .In:=by decide)(l:op ≠ .NotIn:=by decide):lV op b=false:=by
 have n:(op == CmpOp.In)=false:=by cases op <;> first|rfl|exact absurd rfl h
 have s:(op == CmpOp.NotIn)=false:=by cases op <;> first|rfl|exact absurd rfl l
 cases b <;> simp[lV,n,s]
def D8(l:Ed X (kH op) r)(ha:PE X a ta)(hb:PE X b tb)(n:lV op b=false):PE X (.Compare a [op] [b] pos) (Xb r ta tb):=by
 intro t s σ H Q I h;exact wpAny_Compare1 (Yf ha hb I h λv u z x y B E G J q=>l t z σ B x y v u Q E G J q) n
def QU(t:TE):TT:=λσ H Q=>t σ H λx l=>∃k,x = .bl k/\Q k l
def vU(n:Ed X (kH op) r)(ha:PE X a ta)(hb:PE X b tb)(t:lV op b=false):PT X (.Compare a [op] [b] pos) (QU (Xb r ta tb)):=by
 intro l s σ H Q I h;refine nC (thn (ha l s σ H _ I h) λv B ⟨x,E,G,J,L⟩=>thn (hb l B σ E _ G L) λu M ⟨y,O,P,R,S⟩=>
  thn (n l M σ O x y v u _ P J R S) λc s3 ⟨z,U,Y,r3,k,e,q3⟩=>?_) t
 subst e;cases r3;exact ku ⟨U,Y,q3⟩
def Qn(r r':R2)(ta tb tc:TE):TE:=λσ H Q=>ta σ H λx n=>tb σ n λy s=>r x y s λz l=>∃k,z = .bl k /\
 (if k=true then tc σ l λt H4=>r' y t H4 Q else Q (.bl false) l)
def QH(L:Ed X (kH op) r)(t:Ed X (kH l) r')(ha:PE X a ta)(hb:PE X b tb)(M:PE X c tc)
  (O:lastMarks [op,l] [b,c]=false:=by with_unfolding_all rfl):PT X (.Compare a [op,l] [b,c] pos) (QU (Qn r r' ta tb tc)):=by
 intro n s σ H Q I h;refine isTrue_chain (thn (ha n s σ H _ I h) λv P ⟨x,R,S,U,Y⟩=>test_link (thn (hb n P σ R _ S Y) λu s2 ⟨y,H2,I2,B,q2⟩=>
  thn (L n s2 σ H2 x y v u _ I2 U B q2) λd s3 ⟨z,E,G,r3,k,e,J⟩=>?_)) O
 subst e;cases r3;refine ku ?_;cases k with
 |false=>
  obtain⟨k',e',q'⟩:=J;cases e';exact ite_ff ⟨E,G,q'⟩
 |true=>
  refine ite_tt (test_last (thn (M n s3 σ E _ G J) λw' s4 ⟨z',H4,I4,r4,q4⟩=>thn (t n s4 σ H4 y z' u w' _ I4 B r4 q4) λd' s5 ⟨z2,H5,I5,r5,k2,e2,q5⟩=>?_))
  subst e2;cases r5;exact ku ⟨H5,I5,q5⟩
def U4(K:Ζ)(x:V)(H:Hp)(k:Bool):Prop:=
 match x with
 | .non=>k=false
 | .bl b=>k=b
 | .int i=>k=(i != 0)
 | .str y=>y.length<=jY/\k=((y.length:Int) != 0)
 | .byt y=>y.size<=jY/\k=((y.size:Int) != 0)
 | .ref p=>(∃l,rF K H p l/\k = !l.isEmpty)∨(∃l,DG K H p l/\k = !l.isEmpty)∨∃kvs,H p=some (.dK kvs)/\k = !kvs.isEmpty
 |_=>False
def La{kvs:List (κ×V)}{vs}(r:KV kvs vs):(!vs.isEmpty) = !kvs.isEmpty:=by
 cases r <;> rfl
def EV(r:qk n l):(!l.toArray.isEmpty) = !n.isEmpty:=by
 cases r <;> simp
def HY:(jY:Nat)<2 ^ 63:=by rw[kA];decide
def Rj:adl X (λx H Q=>∃k,U4 X.K x H k/\Q k H):=by
 intro P s σ H x v Q I B h;obtain⟨k,e,q⟩:=h;have hl:=HY;have hs:jY=16777216:=kA;cases x with
 |non=>
  cases B;have l:k=false:=e;subst l;exact truthy_none ⟨H,I,q⟩
 |bl b=>
  cases B;have l:k=b:=e;subst l;exact ku ⟨H,I,q⟩
 |int i=>
  obtain⟨t,rfl⟩:=B;have l:k=(i != 0):=e;subst l;exact PySem.P.truthy_int ⟨H,I,q⟩
 |str y=>
  obtain⟨t,rfl⟩:=B;obtain⟨M,l⟩:y.length<=jY/\k=((y.length:Int) != 0):=e;subst l;exact PySem.P.truthy_str ∅ ⟨H,I.tok _,q⟩
 |byt y=>
  obtain⟨t,rfl⟩:=B;obtain⟨M,l⟩:y.size<=jY/\k=((y.size:Int) != 0):=e;subst l;exact W.truthy_bytes ∅ ⟨H,I.tok _,q⟩
 |ref p=>
  cases B;have l:(∃z,rF X.K H p z/\k = !z.isEmpty)∨(∃z,DG X.K H p z/\k = !z.isEmpty)∨∃n,H p=some (.dK n)/\k = !n.isEmpty:=e;rcases l with⟨z,E,l⟩|⟨z,E,l⟩|⟨n,E,l⟩
  .subst l;obtain⟨J,r,pl,L⟩:=I.list E;have u:=r.length;exact wpAny_truthy_list pl.isList (by simp only[aH];lia) ⟨H,I.tok _,by rw[EV r];exact q⟩
  .subst l;obtain⟨J,r,pl,L⟩:=I.tuple E;have u:=r.length;exact truthy_tuple pl (by simp only[aH];lia) ⟨H,I.tok _,by rw[EV r];exact q⟩
  .subst l;obtain⟨L,O,G,r,m⟩:n.length<=jY/\(p == kP)=false/\∃G,KV n G/\s.heap.DictOf (qQ X.prog X.w) p G:=I.hok p _ E;have u:n.length=G.length:=Paired.length r;exact wpAny_truthy_dict O m ∅ ⟨H,I.tok _,by rw[La r];exact q⟩
 |_=>exact(show False from e).elim
def Cc(ha:PE X a ta)(t:∀whole,isTrue a X.env whole=(do let v ←whole;standAt a.pos;holding [v] (truthy v))) :
  PT X a (λσ H Q=>ta σ H λx l=>∃k,U4 X.K x l k/\Q k l):=by
 intro n s σ H Q I h;exact isTrue_plain (thn (ha n s σ H _ I h) λv u ⟨x,z,B,E,G⟩=>Rj n u σ z x v Q B E G) (t _)
def vH(r:qk [x] l):∃u,l=[u]/\qI x u:=by
 cases r with
 |cons n s=>cases s;exact⟨_,rfl,n⟩
def Tn(r:qk [x,y] l):∃u n,l=[u,n]/\qI x u/\qI y n:=by
 cases r with
 |cons s t=>
  cases t with
  |cons z B=>cases B;exact⟨_,_,rfl,s,z⟩
def Tg:uf X (.builtin "abs") (λl H Q=>∃i,l=[.int i]/\Q (.int (if i<0 then -i else i)) H):=by
 intro n s σ H l x Q I r h;obtain⟨i,rfl,q⟩:=h;obtain⟨u,rfl,t,rfl⟩:=vH r;exact call_abs_int λu z=>⟨.int (if i<0 then -i else i),H,I.tok _,⟨_,rfl⟩,q⟩
def aaO(K:Ζ)(x:V)(H:Hp)(n:Nat):Prop:=
 match x with
 | .str y=>y.length<=jY/\n=y.length
 | .byt y=>y.size<=jY/\n=y.size
 | .ref p=>(∃l,rF K H p l/\n=l.length)∨∃l,DG K H p l/\n=l.length
 |_=>False
def tR:uf X (.builtin "len") (λl H Q=>∃x n,l=[x]/\aaO X.K x H n/\Q (.int n) H):=by
 intro P s σ H l R Q I r h;obtain⟨x,n,rfl,e,q⟩:=h;obtain⟨u,rfl,E⟩:=vH r;have hl:=HY;have hs:jY=16777216:=kA;cases x with
 |str y=>
  obtain⟨t,rfl⟩:=E;obtain⟨M,B⟩:y.length<=jY/\n=y.length:=e;subst B;exact len_str ∅ ⟨.int _,H,I.tok _,⟨_,rfl⟩,q⟩
 |byt y=>
  obtain⟨t,rfl⟩:=E;obtain⟨M,B⟩:y.size<=jY/\n=y.size:=e;subst B;exact W.len_bytes ∅ ⟨.int _,H,I.tok _,⟨_,rfl⟩,q⟩
 |ref p=>
  cases E;have B:(∃l,rF X.K H p l/\n=l.length)∨∃l,DG X.K H p l/\n=l.length:=e;rcases B with⟨l,G,B⟩|⟨l,G,B⟩
  .subst B;obtain⟨J,L,pl,O⟩:=I.list G;have z:=L.length;exact Calls.call_len_list pl.isList (by simp only[aH];lia) ⟨.int l.length,H,I.tok _,⟨_,by simp only[aH];rw[z]⟩,q⟩
  .subst B;obtain⟨J,L,pl,O⟩:=I.tuple G;have z:=L.length;exact len_tuple pl (by simp only[aH];lia) ⟨.int l.length,H,I.tok _,⟨_,by simp only[aH];rw[z]⟩,q⟩
 |_=>exact(show False from e).elim
def FO.some_of(r:FO (some v) o):∃u,o=some u/\qI v u:=by
 cases o with
 |none=>exact(show False from r).elim
 |some u=>exact⟨u,rfl,r⟩
structure vv (k:Nat)(A:Around):Prop where
 hd:A.handled=none
 dp:A.depth+3*k+5<recursionLimit
 un:A.units+16*k+200<kE
def vv.mono(r:vv k A)(h:j<=k):vv j A:=⟨r.hd,by have:=r.dp;lia,by have:=r.un;lia⟩
theorem vv.deeper(r:vv (k+1) A)env:vv k (A.deeper env):=
 ⟨r.hd,by have:=r.dp;show A.depth+1+3*k+5<_;lia,by have:=r.un;show A.units+3+16*k+200<_;lia⟩
theorem vv.depth(r:vv k A):A.depth<recursionLimit:=by have:=r.dp;lia
theorem vv.units(r:vv k A):A.units+64<kE:=by have:=r.un;lia
def vy:TA:=λ_ H Q=>Q [] H
def rN(l:TE)(tr:TA):TA:=λσ H Q=>l σ H λx n=>tr σ n λs t=>Q (x::s) t
def oU:PA X [] vy:=λ_ _ _ _ H Q I h=>Calls.spliced_nil ⟨[],H,I,.nil,h⟩
def oK(ha:PE X e te)(hr:PA X es t)(hs:kf (e::es) X.env=(false,eval e X.env)::kf es X.env:=by rfl):PA X (e::es) (rN te t):=by
 intro pos l s σ H Q I h;rw[hs];show jW _ _ (spliced ((false,eval e X.env)::lu pos (kf es X.env))) _ _ s;refine Calls.spliced_cons (thn (ha l s σ H _ I h) λu n ⟨x,z,B,E,G⟩=>?_)
 exact thn (hr pos l n σ z _ B G) λR S ⟨J,L,M,O,P⟩=>⟨x::J,L,M,.cons E O,P⟩
def abq(t:TA):TE:=λσ H Q=>t σ H λl n=>l.length<=jY/\∀p,n p=none->Q (.ref p) (qE n p (.tup l))
def Yt(t:TA):TE:=λσ H Q=>t σ H λl n=>l.length<=jY/\∀p,n p=none->Q (.ref p) (qE n p (.lst l))
def ZC(h:PA X es t):PE X (.Tuple es x1 pos) (abq t):=by
 intro B s σ H Q I E;refine wpAny_Tuple_spliced (thn (h pos B s σ H _ I E) λG l ⟨J,n,x,r,z,q⟩=>⟨by rw[←r.length];exact z,?_⟩)
 have L:n l.heap.objs.size=none:=x.hok.fresh (af _);refine⟨.ref l.heap.objs.size,qE n l.heap.objs.size (.tup J),x.laid (t':=l.toks) (λb u e=>ai _ e) (af _) ?_,rfl,q _ L⟩
 exact⟨z,G,r,⟨_,aD _ rfl,rfl,_,rfl⟩⟩
def ue(h:PA X es t):PE X (.List es pos) (Yt t):=by
 intro B s σ H Q I E;refine wpAny_List_spliced (thn (h pos B s σ H _ I E) λG l ⟨J,n,x,r,z,q⟩=>⟨by rw[←r.length];exact z,?_⟩)
 have L:n l.heap.objs.size=none:=x.hok.fresh (af _);refine⟨.ref l.heap.objs.size,qE n l.heap.objs.size (.lst J),x.laid (t':=l.toks) (λb u e=>ai _ e) (af _) ?_,rfl,q _ L⟩
 exact⟨z,G,0,r,aD _ rfl⟩
abbrev Sp:=List V->Hp->VK->XK->Prop
abbrev Rh:=List Env->Hp->Shared->XK->Value->Shared->Prop
structure Vz (P:jZ)(w:ke)(K:Ζ)(mg:Str->Υ)(base:Heap)(A:Around)(outer:List Env)(s:Shared)(H:Hp):Prop where
 frames:A.frames=some outer
 mod:Mod K mg base
 bs:∀b o,base.get? b=some o->s.heap.get? b=some o/\H b=none
 bsz:base.objs.size<=s.heap.objs.size
 funs:s.heap.FunFrames base outer
 frf:∀b∈RN outer,H b=none
 hok:Bu P w H s.heap
 bare:mF s.gens
def CE(outer:List Env)(P:jZ)(w:ke)(H:Hp)(s:Shared)(Q:VK)(u:Value)(l:Shared):Prop:=
 ∃v n,l.os=s.os/\mF l.gens/\Un (RN outer) [] H n s.heap l.heap/\Bu P w n l.heap/\qI v u/\Q v n
def CR(CX:Rh)(outer:List Env)(P:jZ)(w:ke)(H:Hp)(s:Shared)(Q:VK)(E:XK)(r:ni)(l:Shared):Prop:=
 match r with
 | .ok (.ret u)=>CE outer P w H s Q u l
 | .ok _=>False
 | .error e=>CX outer H s E e l
structure DB (P:jZ)(w:ke)(K:Ζ)(mg:Str->Υ)(base:Heap)(CX:Rh)(k:Nat)(f:Addr)(fd:ky)(ps:List Str)(sp:Sp):Prop where
 len:∀vs H Q E,sp vs H Q E->vs.length=ps.length
 run:∀(A:Around) (outer:List Env) (s:Shared) (H:Hp) (args:Args) (us:Ξ) (vs:List V) (Q:VK) (E:XK),vv k A->Vz P w K mg base A outer s H->nQ s fd args (ps.zip us)->qk vs us->sp vs H Q E ->
  kZ (jU P w) A (.call (.ref f) args) (CR CX outer P w H s Q E) s
def DB.imp{K}(F:DB P w K mg base CX k f fd ps sp)
  (h:∀vs H Q E,l vs H Q E->sp vs H Q E):DB P w K mg base CX k f fd ps l:=
 ⟨λvs H Q E q=>F.len vs H Q E (h _ _ _ _ q),λA outer s H n t vs Q E hr u hb x hs=>F.run A outer s H n t vs Q E hr u hb x (h _ _ _ _ hs)⟩
section
variable {σ:St}
def Inv.env0(I:Inv X oE σ H s):Vz X.prog X.w X.K X.mg X.base X.A X.stack s H:=
 ⟨I.ok.frames,I.ok.mod,I.bs,cz I.ok.bsz I.sz,I.stack,I.stkFree,I.hok,I.bare⟩
def Inv.after(I:Inv X oE σ H s)(h:CE X.stack X.prog X.w H s Q u s'):EP X oE σ Q u s':=by
 obtain⟨v,n,os,bare,un,hok,r,q⟩:=h;obtain⟨hh,g,d,t,l⟩:=s';obtain rfl:l=s.os:=os;exact⟨v,n,I.call (h':=hh) (g':=g) (d':=d) (t':=t) (ch:=[]) un hok bare (λb z=>absurd z ⋯),r,q⟩
end
def GW(sp:Sp)(l:List V)(E:XK)(t:TA):TE:=λσ H Q=>t σ H λvs n=>sp (vs++l) n Q E
def AJ(K:Ζ)(fd:ky)(ps:List Str)(ds:Ξ):Prop:=
 ∀s l,K.In s.heap->(l++ds).length=ps.length->nQ s fd ⟨l,[]⟩ (ps.zip (l++ds))
def AJ.all{K}(h:∀l:Ξ,l.length=ps.length->bindArgs fd ⟨l,[]⟩=pure (ps.zip l)):AJ K fd ps []:=λs l _ hl=>by
 rw[aNq]at hl ⊢;exact .of_eq (h l hl)
def LV(CX:Rh)(X:Cx)(E:XK):Prop:=∀n (σ:St) H s e l,Inv X n σ H s->CX X.stack H s E e l->X.xe e l
def Y4{σ:St}(F:DB X.prog X.w X.K X.mg X.base CX k f fd ps sp)(hr:vv k X.A)(hb:AJ X.K fd ps ds)(hd:qk dvs ds)(G:LV CX X E)
  (I:Inv X z σ H s) (r:qk vs l) (h:sp (vs++dvs) H Q E):jW (jU X.prog X.w) X.A (call (.ref f) l) (EP X z σ Q) X.xe s:=by
 have B:qk (vs++dvs) (l++ds):=r.append hd;have hl:(l++ds).length=ps.length:=by rw[←B.length];exact F.len _ _ _ _ h
 refine wpAny_call (mN (F.run X.A X.stack s H ⟨l,[]⟩ (l++ds) (vs++dvs) Q E hr I.env0 (hb s l I.kIn hl) B h) λr J n=>?_)
 cases r with
 |error e=>exact G z σ H s e J I n
 |ok fl=>
  cases fl with
  |ret u=>exact I.after n
  |next=>exact False.elim n
  |brk=>exact False.elim n
  |cont=>exact False.elim n
def Wx(F:DB X.prog X.w X.K X.mg X.base CX k f fd ps sp)(hr:vv k X.A)(z:Gl X x)(B:X.mg x=some (.ref f))(hk:W.keepIn X.K (.ref f)=true)(hb:AJ X.K fd ps ds)(hd:qk dvs ds)(G:LV CX X E)
  (ha:PA X (e::es) t) (l:(x == ("__debug__" : Str))=false:=by decide) (J:kf (e::es) X.env=(false,eval e X.env)::kf es X.env:=by rfl) (n:(lu pos (kf es X.env)).any (·.1)=false:=by rfl) :
  PE X (.Call (.Name x p) (e::es) [] pos) (GW sp dvs E t):=by
 intro L s σ H Q I h;refine kS (Wj I z B ?_ l);refine W.callWith_K (h₀:=X.base) I.ok.mod.kin hk (thn (ha pos L s σ H _ I h) λM O ⟨P,R,u,r,q⟩=>⟨u.kIn,?_⟩) J n
 exact Y4 F hr hb hd G u r q
structure oZ (N P:List Str)(sc:kW):Prop where
 kind:sc.kind = .function
 co:sc.isCoroutine=false
 gen:sc.isGenerator=false
 nd:N.Nodup
 pre:N.take P.length=P
 par:∀x∈P,sc.names.lookup x=some .local∨sc.names.lookup x=some .cell
 nofree:∀y∈sc.names,y.2 ≠ .free
theorem Gd{kindOf}:∀{binds}{m:Str->Υ},(∀v,(x,v)∉binds)->bindL kindOf binds m x=m x
 | [],_,_=>rfl
 | (n,v)::r,m,h=>by
  unfold bindL;rw[Gd λw hw=>h w (mCo _ hw)]
  split
  .have:x≠n:=by rintro rfl;exact h v ah
   simp[this]
  .rfl
theorem G2{kindOf}:∀{binds}{m:Str->Υ},(∀v,(x,v)∉binds)->bindC kindOf binds m x=m x
 | [],_,_=>rfl
 | (n,v)::r,m,h=>by
  unfold bindC;rw[G2 λw hw=>h w (mCo _ hw)]
  split
  .rfl
  .have:x≠n:=by rintro rfl;exact h v ah
   simp[this]
theorem GZ{kindOf}:∀{P:List Str}{vs:Ξ}{i:Nat}{m:Str->Υ},P.Nodup->P[i]?=some x->vs[i]?=some v->kindOf x=some .local ->
  bindL kindOf (P.zip vs) m x=some v
 | [],_,_,_,_,h,_,_=>by simp at h
 |_::_,[],_,_,_,_,h,_=>by simp at h
 |p::P,w::vs,0,m,nd,h1,h2,hk=>by
  simp at h1 h2;subst h1;subst h2;show bindL kindOf ((p,w)::P.zip vs) m p=_;unfold bindL;rw[Gd λv l=>(aq.mp nd).1 (iF l).1,pO hk]
  simp
 |p::P,w::vs,i+1,m,nd,h1,h2,hk=>by
  show bindL kindOf ((p,w)::P.zip vs) m x=_;unfold bindL;exact GZ (i:=i) (aq.mp nd).2 (by simpa using h1) (by simpa using h2) hk
theorem Gr{kindOf}:∀{P:List Str}{vs:Ξ}{i:Nat}{m:Str->Υ},P.Nodup->P[i]?=some x->vs[i]?=some v->kindOf x≠some .local ->
  bindC kindOf (P.zip vs) m x=some v
 | [],_,_,_,_,h,_,_=>by simp at h
 |_::_,[],_,_,_,_,h,_=>by simp at h
 |p::P,w::vs,0,m,nd,h1,h2,hk=>by
  simp at h1 h2;subst h1;subst h2;show bindC kindOf ((p,w)::P.zip vs) m p=_;unfold bindC;rw[G2 λv l=>(aq.mp nd).1 (iF l).1,pK hk]
  simp
 |p::P,w::vs,i+1,m,nd,h1,h2,hk=>by
  show bindC kindOf ((p,w)::P.zip vs) m x=_;unfold bindC;exact Gr (i:=i) (aq.mp nd).2 (by simpa using h1) (by simpa using h2) hk
noncomputable def ux(N:List Str)(vs:List V):St:=vs.map some++aV (N.length-vs.length) none
noncomputable def IS(CX:Rh)(P:jZ)(w:ke)(K:Ζ)(mg:Str->Υ)(base:Heap)(N:List Str)(l:Str)(scope:kW)(f:Addr)(t:Value)(A:Around)(outer:List Env)(s:Shared)(H:Hp)(E:XK):Cx where
 prog:=P
 w:=w
 K:=K
 mg:=mg
 base:=base
 A:=A.deeper (lJ l scope s.heap.objs.size f t)
 N:=N
 s₀:=s
 H₀:=H
 env:=lJ l scope s.heap.objs.size f t
 outer:=outer
 stack:=lJ l scope s.heap.objs.size f t::outer
 ex:=[]
 calm:=true
 fn:=λ_=>true
 pn:=[]
 xe:=λe u=>jW (jU P w) (A.deeper (lJ l scope s.heap.objs.size f t)) (leaving (lJ l scope s.heap.objs.size f t) e) (λ_ n=>CX outer H s E e n) (λx n=>CX outer H s E x n) u
def Jt{l:kW}(h:l.names.lookup x=some .cell):∃c,(cellsFrom n l.names []).lookup x=some c:=by
 have q:=W.cellsFrom_some l.names n [] (.inl h);exact Option.isSome_iff_exists.mp q
def Pz{K}
  (S:oZ N ps scope) (hd:A.handled=none) (B:Vz P w K mg base A outer s H) (hl:vs.length=ps.length) (r:qk vs Q)
  (x:InCallC s s.heap.objs.size (bindL (lJ l scope s.heap.objs.size f M).kindOf (ps.zip Q) λ_=>none) (cellsFrom (s.heap.objs.size+1) scope.names []) (bindC (lJ l scope s.heap.objs.size f M).kindOf (ps.zip Q) λ_=>none) s1) :
  Inv (IS CX P w K mg base N l scope f M A outer s H E) [] (ux N vs) H s1:=by
 have U:ps.length<=N.length:=by have:=congrArg bJ S.pre;rw[lTq]at this;lia
 obtain⟨O,Y,rfl,hk⟩:=x.done;have G:∀b:Addr,b∉(IS CX P w K mg base N l scope f M A outer s H E).ex:=λb z=>absurd (show b∈([]:Δ)from z) ⋯
 refine⟨⟨B.mod,S.kind,rfl,rfl,af _,λy z c O t=>?_,λy I=>?_,λy c _ h=>?_,λ_=>hd,Around.frames_deeper B.frames,.inr ⟨rfl,rfl⟩,λb z=>absurd z (G b),B.bs,B.bsz,λb _ _=>G b,λb z=>absurd z (G b),B.funs,B.frf⟩,
  rfl,B.bare,Un.kept hk,⟨_,x.toInCall.ns,λi y v O t h3=>?_⟩,λy c h=>⟨_,x.cell y c h⟩,B.hok.fresh (af _),λy c h=>?_,λp J=>absurd (show p∈([]:Φ)from J) ⋯,B.hok.kept hk,?_⟩
 .exact name_of_addr x.apart (PySem.mem_of_lookup O) (PySem.mem_of_lookup t)
 .have I:scope.names.lookup y=some .cell∨scope.names.lookup y=some .free:=I;rcases I with I|I
  .exact Jt I
  .exact absurd rfl (S.nofree _ (PySem.mem_of_lookup I))
 .exact cT (x.above y c (PySem.mem_of_lookup h))
 .have hi:i<vs.length:=by
   unfold ux at t
   by_cases hi:i<vs.length
   .exact hi
   .rw[gYq (by simpa using hi)]at t
    rw[bK]at t;split at t <;> cases t
  have ha:vs[i]?=some v:=by
   unfold ux at t;rw[gZq (by simpa using hi),gMq]at t
   cases e:vs[i]? with
   |none=>rw[e]at t;cases t
   |some a=>rw[e]at t;cases t;rfl
  obtain⟨u,R,X⟩:=r.get ha;have J:ps[i]?=some y:=by
   rw[←S.pre,eT ∅];exact O
  have L:ps.Nodup:=by rw[←S.pre];exact S.nd.sublist (bB _ _)
  refine⟨u,X,?_⟩;rcases S.par y (mGq J)with k|k
  .exact .inl ⟨k,GZ L J R k⟩
  .obtain⟨c,e⟩:=Jt (n:=s.heap.objs.size+1) k;refine .inr ⟨.inl k,c,e,?_⟩;have q:=x.cell y c e;rw[Gr L J R (by show scope.names.lookup y≠_;rw[k];decide)]at q
   exact q
 .exact B.hok.fresh (cT (x.above y c (PySem.mem_of_lookup h)))
 .unfold ux;show _=N.length;rw[lAq,lMq,bU];lia
def aba{K:Ζ}{kV}
  {Y:Array Υ}(lk:K.lookup f=some ⟨oc,od,.func (W.fnOf name l z body scope dV kV R pm an L ct),Y⟩) (hcd:W.codeIn K L l=true) (S:oZ N ps scope)
  (len:∀vs H Q E,sp vs H Q E->vs.length=ps.length)
  (M:∀A outer s H vs Q E,vv k (A.deeper (lJ l scope s.heap.objs.size f L))->sp vs H Q E ->
   ∃t,KD (IS CX P w K mg base N l scope f L A outer s H E) body t/\t { nx:=λ_ G=>Q .non G,rt:=Q } (ux N vs) H) :
  DB P w K mg base CX (k+1) f (W.fnOf name l z body scope dV kV R pm an L ct) ps sp:=by
 refine⟨len,λA outer s H args us vs Q E hr U hb r X=>?_⟩
 have hl:=len _ _ _ _ X;have KX:K.In s.heap:=U.mod.kin.keeps λb o e=>(U.bs b o e).1
 have lim:s.heap.NoLimit:=U.mod.nolimit.keeps λb o e=>(U.bs b o e).1
 have O:∀y∈ps.zip us,scope.names.lookup y.1=some .local∨(scope.names.lookup y.1=some .cell/\((cellsFrom (s.heap.objs.size+1) scope.names []).lookup y.1).isSome=true):=λ⟨n,v⟩ hy=>by
  rcases S.par n (iF hy).1 with q|q
  .exact .inl q
  .exact .inr ⟨q,W.cellsFrom_some _ _ _ (.inl q)⟩
 refine codeAny_call_function hr.depth (KX _ _ lk) rfl S.co S.gen rfl (W.codeRec_of KX hcd) (hb _ _ _ _ ?_);refine wpAny_newFunctionEnv_cells S.kind O λenv he s1 x=>?_
 subst he;refine⟨lim.keeps x.toInCall.keep,codeAny_func ?_⟩;obtain⟨t,ht,hq⟩:=M A outer s H vs Q E (hr.deeper _) X;have I:Inv (IS CX P w K mg base N l scope f L A outer s H E) [] (ux N vs) H s1:=Pz S hr.hd U hl r x;refine kB (ht [] s1 (ux N vs) H _ I hq) (λfl s' hs=>?_) λe s' hs=>hs
 have fin:∀{B:St}{G:Hp}{v:V}{u:Value},Inv (IS CX P w K mg base N l scope f L A outer s H E) [] B G s'->qI v u->Q v G->CE outer P w H s Q u s':=
  λ{B G v u} J rv q=>⟨v,G,J.os,J.bare,J.base,J.hok,rv,q⟩
 cases fl with
 |ret u=>
  obtain⟨v,B,G,J,rv,q⟩:=hs;exact fin J rv q
 |next=>
  obtain⟨B,G,J,q⟩:=hs;exact fin (v:=V.non) (u:=iz) J rfl q
 |brk=>
  obtain⟨_,_,_,q⟩:=hs;exact False.elim q
 |cont=>
  obtain⟨_,_,_,q⟩:=hs;exact False.elim q
section
variable {id:String}
def K2(r:List V->Hp->VK->Prop)(t:TA):TE:=λσ H Q=>t σ H λvs l=>r vs l Q
def sV(z:uf X (.builtin id) r)(B:Gl X x)(E:X.mg x=none)(G:mj x=some (.builtin id))(ha:PA X (e::es) t)(hn:x ≠ "__name__" := by decide)(l:(x == ("__debug__" : Str))=false:=by decide)
  (J:kf (e::es) X.env=(false,eval e X.env)::kf es X.env:=by rfl) (n:(lu pos (kf es X.env)).any (·.1)=false:=by rfl):PE X (.Call (.Name x p) (e::es) [] pos) (K2 r t):=by
 intro u s σ H Q I h;refine kS (vA I B E G ?_ hn l);exact gK (thn (ha pos u s σ H _ I h) λL M ⟨O,P,R,S,U⟩=>z u M σ P O L Q R S U) J n
def CB(z:uf X (.type T) r)(B:Gl X x)(E:X.mg x=none)(G:mj x=some (.type T))(ha:PA X (e::es) t)(hn:x ≠ "__name__" := by decide)(l:(x == ("__debug__" : Str))=false:=by decide)
  (J:kf (e::es) X.env=(false,eval e X.env)::kf es X.env:=by rfl) (n:(lu pos (kf es X.env)).any (·.1)=false:=by rfl):PE X (.Call (.Name x p) (e::es) [] pos) (K2 r t):=by
 intro u s σ H Q I h;refine kS (vA I B E G ?_ hn l);exact bD (thn (ha pos u s σ H _ I h) λL M ⟨O,P,R,S,U⟩=>z u M σ P O L Q R S U) J n
end
end L2
namespace HT
open PySem PyProof.Rows
noncomputable def sH:Ϝ->Ϝ->Bool
 | [],[]=>false
 | [],_::_=>true
 |_::_,[]=>false
 |x::l,y::n=>if x=y then sH l n else decide (x<y)
def yR x y(l n:Ϝ):sH (x::l) (y::n)=if x=y then sH l n else decide (x<y):=rfl
def FS:sH [] []=false:=rfl
def Ex y(l:Ϝ):sH [] (y::l)=true:=rfl
def E4 x(l:Ϝ):sH (x::l) []=false:=rfl
def TB(A)s a t c u:∃e,SeqAt.EqAt A s (.int a t) (.int c u) e/\(e=true↔a=c):=
 ⟨(a == c),SeqAt.EqAt.int_int a t c u,by simp⟩
def T1(A)s a t c u prog w(E:Ψ)(Q:Ψ)(h:Q (.bool (decide (a<c))) s) :
  jW (jU prog w) A (richCompare .Lt (.int a t) (.int c u)) Q E s:=
 (jQ h:jW (jU prog w) A (kH .Lt (.int a t) (.int c u)) Q E s)
noncomputable def Gn(n d:Nat):Option Int->Nat
 |none=>d
 |some v=>if v<0 then (v+(n:Int)).toNat else min v.toNat n
def Qu n d:Gn n d none=d:=rfl
def DP(n d k:Nat):Gn n d (some (k:Int))=min k n:=by
 show(if (k:Int)<0 then ((k:Int)+(n:Int)).toNat else min (k:Int).toNat n)=min k n
 rw[pK ∅,bF]
end HT
namespace L2
open PySem PySem.Spec PyProof.Rows
abbrev TO:=St->Hp->(Option Int->Hp->Prop)->Prop
def PO(X:Cx)(e:Option Expr)(t:TO):Prop:=
 ∀l s (σ:St) H Q,Inv X l σ H s->t σ H Q ->
  jW (jU X.prog X.w) X.A (evalPart e X.env) (λu x=>∃o n,Inv X l σ n x/\IsPart u o/\Q o n) X.xe s
def N3:TO:=λ_ H Q=>Q none H
def Xs(t:TE):TO:=λσ H Q=>t σ H λx l=>∃i,x = .int i/\Q (some i) l
def yX{ns:Ϝ}:∀{l},qk (ns.map V.int) l->kx l ns:=by
 induction ns with
 |nil=>intro l r;rw[fI]at r;cases r;exact .nil
 |cons n ns s=>
  intro l r;rw[aw]at r;cases r with
  |cons u x=>
   obtain⟨t,e⟩:=u;subst e;exact .cons n t (s x)
section
variable {lo:Option Expr}
def DK:PO X none N3:=by
 intro l s σ H Q I h;rw[evalPart_none];exact jT ⟨none,H,I,.none,h⟩
def Ag(h:PE X e te):PO X (some e) (Xs te):=by
 intro l s σ H Q I hw;rw[evalPart_some];refine thn (h l s σ H _ I hw) λu G ⟨x,n,z,B,E⟩=>?_
 obtain⟨i,rfl,q⟩:=E;obtain⟨t,rfl⟩:=B;exact⟨some i,n,z,.int i t,q⟩
def SlR(X:Cx)(r:V->Option Int->Option Int->Hp->VK->Prop):Prop:=
 ∀l s (σ:St) H x v n t lo hi sl Q,Inv X l σ H s->qI x v->s.heap.IsSliceOf sl n t .none->IsPart n lo->IsPart t hi->r x lo hi H Q ->
  ∃T id,mS (.type T) "__getitem__" = pure (some (.builtin id))/\s.TypeIs v T/\jW (jU X.prog X.w) X.A (nO v (.ref sl)) (EP X l σ Q) X.xe s
def tSl(r:V->Option Int->Option Int->Hp->VK->Prop)(te:TE)(tl th:TO):TE:=λσ H Q=>te σ H λx n=>tl σ n λl s=>th σ s λu t=>r x l u t Q
def zO(hr:SlR X r)(G:PE X e te)(hl:PO X lo tl)(J:PO X hi th):PE X (.Subscript e (.Slice lo hi none p2) pos) (tSl r te tl th):=by
 intro t s σ H Q I h;refine Subscript_ (thn (G t s σ H _ I h) λv L ⟨x,M,O,P,R⟩=>?_)
 refine wpAny_Slice (thn (hl t L σ M _ O R) λz S ⟨l,U,Y,pl,q2⟩=>thn (J t S σ U _ Y q2) λB n ⟨u,E,I3,pu,q3⟩=>?_)
 rw[evalPart_none];refine jT ?_;have I4:Inv X t σ E { n with heap:=n.heap.push { cls:=.type "slice", data:=.fields #[z,B,.none] } }:=I3.kept (t':=n.toks) λb ob q=>ai _ q
 obtain⟨T,id,hT,ht,hg⟩:=hr t { n with heap:=n.heap.push { cls:=.type "slice", data:=.fields #[z,B,.none] } } σ E x v z B l u n.heap.objs.size Q I4 P (Heap.IsSliceOf.new ..) pl pu q3
 show jW (jU X.prog X.w) X.A (nZ e (.Slice lo hi none p2) v (.ref n.heap.objs.size)) (EP X t σ Q) X.xe { n with heap:=n.heap.push { cls:=.type "slice", data:=.fields #[z,B,.none] } }
 exact tail_any (ops:=[.ref n.heap.objs.size,v]) ht hT hg (by with_unfolding_all rfl)
def O4(l:List V)(lo hi:Option Int):List V:=(l.drop (HT.Gn l.length 0 lo)).take (HT.Gn l.length l.length hi-HT.Gn l.length 0 lo)
def JC(l)lo hi:(O4 l lo hi).length<=l.length:=by
 unfold O4;rw[lTq,aJ];lia
end
noncomputable def KF(n:Nat)(i:Int):Option Nat:=if 0<=i then (if i<n then some i.toNat else none)else if -(n:Int)<=i then some (i+n).toNat else none
def atI{α:Type}(l:List α)(i:Int):Option α:=(KF l.length i).bind λj=>l[j]?
def Ni(h:KF n i=some j):oj i n=some j/\j<n/\-(n:Int)<=i/\i<n:=by
 unfold KF at h
 by_cases s:0<=i
 .rw[pO s]at h
  by_cases l:i<n
  .rw[pO l]at h;have e:i.toNat=j:=aA.inj h;exact⟨by rw[seqIndex_of s l,e],by lia,by lia,l⟩
  .rw[pK l]at h;cases h
 .rw[pK s]at h
  by_cases l:-(n:Int)<=i
  .rw[pO l]at h;have e:(i+n).toNat=j:=aA.inj h;exact⟨by rw[seqIndex_neg ∅ l,e],by lia,l,by lia⟩
  .rw[pK l]at h;cases h
def MR{l:List α}{v}(h:atI l i=some v):∃j,oj i l.length=some j/\l[j]?=some v/\j<l.length/\-(l.length:Int)<=i/\i<l.length:=by
 unfold atI at h;cases e:KF l.length i with
 |none=>rw[e]at h;cases h
 |some j=>
  rw[e]at h;obtain⟨n,s,t,u⟩:=Ni e;exact⟨j,n,h,s,t,u⟩
def uC{l:List α}{j:Nat}{v}(h:l[j]?=some v):atI l (j:Int)=some v:=by
 have n:j<l.length:=(gSq.mp h).1;have e:KF l.length (j:Int)=some j:=by
  unfold KF;rw[pO ∅,pO ∅];simp
 unfold atI;rw[e];exact h
def JQ(l:List α)v:atI (l++[v]) (-1)=some v:=by
 have hl:(l++[v]).length=l.length+1:=by simp
 have e:KF (l++[v]).length (-1)=some l.length:=by
  unfold KF;rw[hl,pK ⋯,pO ∅]
  congr 1;lia
 unfold atI;rw[e];show(l++[v])[l.length]?=some v;simp
def WD(b:Expr):Prop:=∀o i,nB b false o i=operate [o,i] (nO o i)
def IxR(X:Cx)(r:R2):Prop:=
 ∀n l t s (σ:St) H x y v u Q,Inv X t σ H s->qI x v->qI y u->r x y H Q ->
  nB l false v u=operate [v,u] (nO v u)->jW (jU X.prog X.w) X.A (nZ n l v u) (EP X t σ Q) X.xe s
def MtR(X:Cx)(id:String)(r:V->List V->Hp->VK->Prop):Prop:=
 ∀l s (σ:St) H x n v t Q,Inv X l σ H s->qI x v->qk n t->r x n H Q ->
  jW (jU X.prog X.w) X.A (call (.builtin id) (v::t)) (EP X l σ Q) X.xe s
section
def Cm(hr:IxR X r)(ha:PE X a ta)(hb:PE X b tb)(hs:WD b):PE X (.Subscript a b pos) (Xb r ta tb):=by
 intro l s σ H Q I h;exact Subscript_ (Yf ha hb I h λv u n x y t z B E q=>hr a b l n σ t x y v u Q z B E q (hs _ _))
def VU(K:Ζ):R2:=λx y H Q=>∃p l i v,x = .ref p/\y = .int i/\rF K H p l/\atI l i=some v/\Q v H
def abB(K:Ζ):R2:=λx y H Q=>∃p l i v,x = .ref p/\y = .int i/\DG K H p l/\atI l i=some v/\Q v H
def vY:IxR X (VU X.K):=by
 intro n B L s σ H x y v u Q I P R h hs;obtain⟨p,xs,i,z,rfl,rfl,S,U,q⟩:=h;cases P;obtain⟨t,rfl⟩:=R;obtain⟨E,r,pl,hz⟩:=I.list S;obtain⟨j,l,Y,h3,h4,h5⟩:=MR U;obtain⟨w,M,G⟩:=r.get Y;have hl:=r.length;have hn:=HY;have fin:EP X L σ Q w s:=⟨z,H,I,G,q⟩
 by_cases O:0<=i
 .have J:i.toNat=j:=by
   rw[seqIndex_of O h5]at l;exact aA.inj l
  exact item_listR pl.isList O ∅ (by rw[J];simpa using M) fin hs
 .have J:(i+(E.toArray.size:Int)).toNat=j:=by
   rw[seqIndex_neg ∅ h4]at l
   rw[aH,←hl];exact aA.inj l
  exact nA (x:=w) pl.isList.typeIs slot_list_getitem.lookup
   (wpAny_getItem_list_neg (Q:=λr s'=>r=w/\EP X L σ Q r s') pl.isList ∅ (by rw[aH] <;> lia) ∅ (by rw[J];simpa using M) ⟨rfl,fin⟩) hs
def Y7:IxR X (abB X.K):=by
 intro l n E s σ H x y v u Q I G J h hs;obtain⟨p,Y,i,z,rfl,rfl,L,M,q⟩:=h;cases G;obtain⟨t,rfl⟩:=J;obtain⟨O,r,pl,hz⟩:=I.tuple L;obtain⟨j,P,R,h3,h4,h5⟩:=MR M;obtain⟨w,S,B⟩:=r.get R;have hl:=r.length;have hn:=HY;have fin:EP X E σ Q w s:=⟨z,H,I,B,q⟩;exact nA (x:=w) pl.typeIs slot_tuple_getitem.lookup
  (getItem_tuple (j:=j) (Q:=λr U=>r=w/\EP X E σ Q r U) pl ∅ ∅ (by rw[aH,←hl];exact P) (by simpa using S) ⟨rfl,fin⟩) hs
def Ib(lo hi)n:(lW lo hi none n).1=((HT.Gn n 0 lo:Nat):Int)/\(lW lo hi none n).2.1=((HT.Gn n n hi:Nat):Int)/\(lW lo hi none n).2.2=1:=by
 refine⟨?_,?_,rfl⟩
 .cases lo with
  |none=>simp[lW,HT.Gn]
  |some i=>
   simp only[lW,HT.Gn,jm,show(1:Int)>0 by decide,if_true]
   by_cases h:i<0
   .simp only[h,if_true] <;> lia
   .simp only[h,if_false] <;> lia
 .cases hi with
  |none=>simp[lW,HT.Gn]
  |some i=>
   simp only[lW,HT.Gn,jm,show(1:Int)>0 by decide,if_true]
   by_cases h:i<0
   .simp only[h,if_true] <;> lia
   .simp only[h,if_false] <;> lia
def FK(l:Ξ)lo hi:slicePick l.toArray lo hi none=((l.drop (HT.Gn l.length 0 lo)).take (HT.Gn l.length l.length hi-HT.Gn l.length 0 lo)).toArray:=by
 obtain⟨n,s,t⟩:=Ib lo hi l.toArray.size;unfold slicePick;rw[n,s,t];simp only[sliceRange_one,pick_run,aH] <;> rfl
def aa7(K:Ζ):V->Option Int->Option Int->Hp->VK->Prop:=λx lo hi H Q=>∃a l,x = .ref a/\rF K H a l/\∀p,H p=none->Q (.ref p) (qE H p (.lst (O4 l lo hi)))
def BY:SlR X (aa7 X.K):=by
 intro G s σ H x v J L lo hi M Q I t hs pl u h;obtain⟨a,l,rfl,z,q⟩:=h;cases t;obtain⟨B,r,ht,E⟩:=I.list z;have n:=r.length;refine⟨"list", _,slot_list_getitem.lookup,ht.isList.typeIs,?_⟩;refine wpAny_getItem_list_slice ht.isList hs pl u .none ⋯ ?_ (by rw[aH] <;> lia)
 rw[FK,←n];refine⟨.ref s.heap.objs.size,_,I.laid (t':=s.toks) (o:=.lst (O4 l lo hi)) (λb O q=>ai _ q) (af _) ?_,rfl,q _ (I.hok.fresh (af _))⟩
 exact⟨cz (JC l lo hi) E,_,0,(r.drop (HT.Gn l.length 0 lo)).take (HT.Gn l.length l.length hi-HT.Gn l.length 0 lo),aD _ rfl⟩
noncomputable def AO:V->Bool
 | .non=>true
 | .bl _=>true
 | .int _=>true
 | .str _=>true
 |_=>false
noncomputable def Xu:V->V->Bool
 | .non,.non=>true
 | .bl a,.bl b=>a == b
 | .bl a,.int b=>(if a then 1 else 0) == b
 | .int a,.bl b=>a == (if b then 1 else 0)
 | .int a,.int b=>a == b
 | .str a,.str b=>a == b
 |_,_=>false
def aax(z:qI y u)(l:qI x v)(E:AO y=true)(B:AO x=true):SeqAt.EqAt A s u v (Xu y x):=by
 cases y with
 |non=>
  cases z;cases x with
  |non=>cases l;exact SeqAt.EqAt.same _
  |bl b=>cases l;exact SeqAt.EqAt.none_bool b
  |int b=>obtain⟨t,rfl⟩:=l;exact SeqAt.EqAt.none_int b t
  |str b=>obtain⟨t,rfl⟩:=l;exact SeqAt.EqAt.none_str b t
  |_=>exact absurd (show false=true from B) aM
 |bl a=>
  cases z;cases x with
  |non=>cases l;exact SeqAt.EqAt.bool_none a
  |bl b=>cases l;exact SeqAt.EqAt.bool_bool a b
  |int b=>obtain⟨t,rfl⟩:=l;exact SeqAt.EqAt.bool_int a b t
  |str b=>obtain⟨t,rfl⟩:=l;exact SeqAt.EqAt.bool_str a b t
  |_=>exact absurd (show false=true from B) aM
 |int a=>
  obtain⟨n,rfl⟩:=z;cases x with
  |non=>cases l;exact SeqAt.EqAt.int_none a n
  |bl b=>cases l;exact SeqAt.EqAt.int_bool a n b
  |int b=>obtain⟨t,rfl⟩:=l;exact SeqAt.EqAt.int_int a n b t
  |str b=>obtain⟨t,rfl⟩:=l;exact SeqAt.EqAt.int_str a n b t
  |_=>exact absurd (show false=true from B) aM
 |str a=>
  obtain⟨n,rfl⟩:=z;cases x with
  |non=>cases l;exact SeqAt.EqAt.str_none a n
  |bl b=>cases l;exact SeqAt.EqAt.str_bool a n b
  |int b=>obtain⟨t,rfl⟩:=l;exact SeqAt.EqAt.str_int a n b t
  |str b=>obtain⟨t,rfl⟩:=l;exact SeqAt.EqAt.str_str a n b t
  |_=>exact absurd (show false=true from B) aM
 |_=>exact absurd (show false=true from E) aM
def V3(x:V)(u:Value):Bool:=match u with
 | .none=>Xu .non x
 | .bool b=>Xu (.bl b) x
 | .int i _=>Xu (.int i) x
 | .str z _=>Xu (.str z) x
 |_=>false
def T2(r:qI y u)(f:AO y=true):V3 x u=Xu y x:=by
 cases y with
 |non=>cases r;rfl
 |bl b=>cases r;rfl
 |int i=>obtain⟨t,rfl⟩:=r;rfl
 |str z=>obtain⟨t,rfl⟩:=r;rfl
 |_=>exact absurd (show false=true from f) aM
theorem Ia:∀{l}{n},qk l n->l.all AO=true->n.any (V3 x)=l.any λy=>Xu y x
 |_,_,.nil,_=>rfl
 |y::l,u::n,.cons r t,f=>by
  rw[iX,fL]at f;rw[dW,dW,T2 r f.1,Ia t f.2]
theorem Em(B:qI x v)(E:AO x=true):∀{n}{z},qk n z->n.all AO=true->∀u∈z,SeqAt.EqAt A s u v (V3 x u)
 |_,_,.nil,_=>λu l=>by cases l
 |y::n,u::z,.cons r t,f=>λG l=>by
  rw[iX,fL]at f;rcases aa.mp l with rfl|l
  .rw[T2 r f.1];exact aax r B f.1 E
  .exact Em B E t f.2 G l
def inV(x:V)(l:List V):Bool:=l.any λy=>Xu y x
def rIn(K:Ζ)(neg:Bool):R2:=λx y H Q=>∃p l,y = .ref p/\(rF K H p l∨DG K H p l)/\AO x=true/\l.all AO=true/\Q (.bl (if neg then !inV x l else inV x l)) H
def Ig:Ed X (kH .NotIn) (rIn X.K true):=by
 intro G s σ H x y v u Q I t B h;obtain⟨p,J,rfl,n,z,fs,q⟩:=h;cases B;rcases n with n|n
 .obtain⟨l,r,pl,E⟩:=I.list n;refine SeqAt.notIn_listAt (V3 x) pl.isList (λw hw=>Em t z r fs w (by simpa using hw)) ⟨.bl _,H,I,rfl,?_⟩
  rw[show l.toArray.any (V3 x)=l.any (V3 x) by simp,Ia r fs]
  exact q
 .obtain⟨l,r,pl,E⟩:=I.tuple n;refine SeqAt.notIn_tupleAt (V3 x) pl (λw hw=>Em t z r fs w (by simpa using hw)) ⟨.bl _,H,I,rfl,?_⟩
  rw[show l.toArray.any (V3 x)=l.any (V3 x) by simp,Ia r fs]
  exact q
def uf.or(h:uf X f r)(h':uf X f r'):uf X f (λl H Q=>r l H Q∨r' l H Q):=by
 intro n s σ H l t Q I u q;rcases q with q|q
 .exact h n s σ H l t Q I u q
 .exact h' n s σ H l t Q I u q
def BO:uf X (.type "list") (λP H Q=>∃p z,P=[.ref p]/\(rF X.K H p z∨DG X.K H p z)/\∀l,H l=none->Q (.ref l) (qE H l (.lst z))):=by
 intro S s σ H P Y Q I r h;obtain⟨p,z,rfl,G,q⟩:=h;obtain⟨u,rfl,U⟩:=vH r;cases U;have fin:∀(t:Ξ),qk z t->z.length<=jY->∀(x:Heap) (B:Nat),(∀b R,s.heap.get? b=some R->x.get? b=some R) ->
   x.get? s.heap.objs.size=some { cls:=.type "list", dict:=none,data:=.seq t.toArray B,slots:=#[] }->EP X S σ Q (.ref s.heap.objs.size) { s with heap:=x }:=λt E J x B kp e=>
  ⟨.ref s.heap.objs.size,_,I.laid (t':=s.toks) kp (af _) (show rq X.prog X.w _ x _ (.lst z)from ⟨J,t,B,E,e⟩),rfl,q _ (I.hok.fresh (af _))⟩
 rcases G with G|G
 .obtain⟨t,E,pl,J⟩:=I.list G;have L:=E.length;obtain⟨o,M,O,n,hd⟩:=pl.isList;exact call_list_seq p (.inl rfl) M O hd (λx B kp e=>fin t E J x B kp e) (by simp only[aH] <;> lia)
 .obtain⟨t,E,pl,J⟩:=I.tuple G;have L:=E.length;obtain⟨o,M,O,n,hd⟩:=pl;exact call_list_seq p (.inr rfl) M O hd (λx B kp e=>fin t E J x B kp e) (by simp only[aH] <;> lia)
def tyV(K:Ζ)(T:String)(x:V)(H:Hp):Prop:=match x with
 | .str _=>T = "str"
 | .int _=>T = "int"
 | .ref p=>(T = "list" /\ ∃l,rF K H p l)∨(T = "tuple" /\ ∃o,K.lookup p=some o/\o.cls = .type "tuple" /\ o.dict=none) ∨
   (T = "dict" /\ ((∃kvs,H p=some (.dK kvs))∨∃kvs,H p=some (.dT kvs)))∨(T = "set" /\ ∃S n,H p=some (.set S n))
 |_=>False
def QT{σ:St}(I:Inv X E σ H s)(r:qI x v)(ty:tyV X.K T x H) :
  s.TypeIs v T/\∀a,v = .ref a->∃B,s.heap.get? a=some B/\B.dict=none:=by
 cases x with
 |str z=>
  obtain⟨t,rfl⟩:=r;cases(show T = "str" from ty)
  exact⟨typeIs_str s z t,λ_ e=>nomatch e⟩
 |int i=>
  obtain⟨t,rfl⟩:=r;cases(show T = "int" from ty)
  exact⟨typeIs_int s i t,λ_ e=>nomatch e⟩
 |ref p=>
  cases r;rcases ty with⟨rfl,M,G⟩|⟨rfl,o,hk,J,hd⟩|⟨rfl,hk⟩|⟨rfl,S,n,hk⟩
  .obtain⟨L,_,pl,_⟩:=I.list G;refine⟨pl.isList.typeIs,λa e=>?_⟩
   cases e;obtain⟨o,n,e,c,hd,_⟩:=pl;exact⟨o,e,hd⟩
  .refine⟨⟨o,I.kIn p o hk,J⟩,λa e=>?_⟩
   cases e;exact⟨o,I.kIn _ o hk,hd⟩
  .have z:∃o,s.heap.get? p=some o/\o.ExactDict:=by
    rcases hk with⟨l,hk⟩|⟨l,hk⟩
    .obtain⟨_,_,_,_,o,_,_,e,ex,_⟩:=I.hok p _ hk;exact⟨o,e,ex⟩
    .obtain⟨_,_,_,_,o,_,_,e,ex,_⟩:=I.hok p _ hk;exact⟨o,e,ex⟩
   obtain⟨o,e,ex⟩:=z;refine⟨⟨o,e,ex.1⟩,λa u=>?_⟩
   cases u;exact⟨o,e,ex.2.1⟩
  .obtain⟨o,_,_,_,e,ex,_⟩:=I.hok p _ hk;refine⟨⟨o,e,ex.1⟩,λa u=>?_⟩
   cases u;exact⟨o,e,ex.2.1⟩
 |_=>exact False.elim ty
def abx(K:Ζ)(T:String)(r:V->List V->Hp->VK->Prop)(to:TE):TE:=λσ H Q=>to σ H λx l=>tyV K T x l/\r x [] l Q
def OQ(K:Ζ)(T:String)(r:V->List V->Hp->VK->Prop)(to:TE)(t:TA):TE:=λσ H Q=>to σ H λx l=>tyV K T x l/\t σ l λn s=>r x n s Q
variable {id:String}
def He(G:PlainAttrs T)(slot:Slot T name id)(u:typeOf (.builtin id)=pure (.type "method_descriptor"))(J:MtR X id r)(L:PE X o to)
  (l:mQ o name X.env (eval o X.env)=eval o X.env:=by rfl) (n:(apos.endLine == cpos.line)=true:=by rfl):PE X (.Call (.Attribute o name apos) [] [] cpos) (abx X.K T r to):=by
 intro z s σ H Q I h;refine wpAny_Call_method0_late l n (thn (L z s σ H _ I h) λv M ⟨x,O,B,E,ty,P⟩=>?_)
 obtain⟨R,S⟩:=QT B E ty;exact⟨T,id,G,slot,u,R,S,Calls.callWith_builtin rfl (PySem.evalArgs_none (J z M σ O x [] v [] Q B E .nil P))⟩
def wX(M:PlainAttrs T)(slot:Slot T name id)(B:typeOf (.builtin id)=pure (.type "method_descriptor"))(O:MtR X id r)(P:PE X o to)(ha:PA X (e::es) t)
  (n:mQ o name X.env (eval o X.env)=eval o X.env:=by rfl)
  (z:((lu cpos (kf (e::es) X.env)).all (λx=>!x.1) && (backToKw cpos (ou [] X.env)).all (λx=>x.1.isSome)
   && decide ((e::es).length+([]:List nP).length+(if ([]:List nP).isEmpty then 0 else 1)<30))=true:=by rfl)
  (u:(apos.endLine == cpos.line)=true:=by rfl) (hs:kf (e::es) X.env=(false,eval e X.env)::kf es X.env:=by rfl) (l:(lu cpos (kf es X.env)).any (·.1)=false:=by rfl) :
  PE X (.Call (.Attribute o name apos) (e::es) [] cpos) (OQ X.K T r to t):=by
 intro E s σ H Q I h;refine wpAny_Call_method_late n z u rfl (thn (P E s σ H _ I h) λv R ⟨x,S,G,J,ty,U⟩=>?_)
 obtain⟨Y,h2⟩:=QT G J ty;refine⟨T,id,M,slot,B,Y,h2,?_⟩;have L:=ha cpos E R σ S _ G U;rw[hs]at L ⊢;refine Calls.callWith_builtin (by show(false || (lu cpos (kf es X.env)).any (·.1))=false;rw[l] <;> rfl) (Calls.evalArgs_plain ?_)
 exact thn L λus s2 ⟨vs,H2,I2,r2,q2⟩=>O E s2 σ H2 x vs v us Q I2 J r2 q2
/- xs.append(e),list.index on a module's tuple .. are MtR facts of 06m -/
end
def MtM(X:Cx)(id:String)(r:V->List V->Hp->VK->Prop):Prop:=
 ∀l s (σ:St) H x n v t Q,Inv X l σ H s->qI x v->qk n t->r x n H Q ->
  jW (jU X.prog X.w) X.A (call (.builtin id) (v::t)) (EP X l σ Q) X.xe s
def qk.one:∀{x}{l},qk [x] l->∃u,l=[u]/\qI x u
 |_,_,.cons r .nil=>⟨_,rfl,r⟩
def qk.zero:∀{l},qk [] l->l=[]
 |_,.nil=>rfl
theorem qk.dropLast(h:qk l n):qk l.dropLast n.dropLast:=by
 induction h with
 |nil=>exact .nil
 |cons r t s=>
  cases t with
  |nil=>exact .nil
  |cons q u=>exact .cons r s
theorem qk.eraseIdx:∀{l}{n}i,qk l n->qk (l.eraseIdx i) (n.eraseIdx i)
 |_,_,_,.nil=>.nil
 |_,_,0,.cons _ t=>t
 |_,_,i+1,.cons r t=>.cons r (qk.eraseIdx i t)
theorem qk.reverse(h:qk l n):qk l.reverse n.reverse:=by
 induction h with
 |nil=>exact .nil
 |cons r t s=>rw[dO,dO];exact qk.append s (.cons r .nil)
def Bm{α:Type}(l:List α):l.eraseIdx (l.length-1)=l.dropLast:=by
 induction l with
 |nil=>rfl
 |cons a r n=>
  cases r with
  |nil=>rfl
  |cons b r=>
   have e:(a::b::r).length-1=((b::r).length-1)+1:=by
    have s:(a::b::r).length=r.length+2:=rfl;have t:(b::r).length=r.length+1:=rfl;lia
   rw[e,dS,n]
   all_goals rfl
theorem GJ{α:Type}:∀(l:List α) i,(l.eraseIdx i).length<=l.length
 | [],_=>af _
 |_::_,0=>bP _
 |_::r,i+1=>Nat.succ_le_succ (GJ r i)
section
variable {σ:St}
def Inv.lset{t:Ξ}{f:Ω->Ω}(I:Inv X oE σ H s)(z:H l=some (.lst xs))
  (e:s.heap.get? l=some { cls:=.type "list", data:=.seq t.toArray n }) (B:f t.toArray=its'.toArray) (E:qk ys its') (hz:ys.length<=jY) :
  Inv X oE σ (qE H l (.lst ys)) { s with heap:=s.heap.update l (Obj.mapSeq f),toks:=t' }:=by
 have q:=PySem.IsL.update e f;rw[B]at q;refine I.write (x:=l) (e:=l) (by rw[z];exact trivial) (.inl rfl) (λJ u hb G=>(df s.heap (Obj.mapSeq f) (Ne.symm hb)).trans G) ⟨_,q⟩ ?_
 exact⟨hz,its',_,E,q⟩
def Inv.lnew(I:Inv X oE σ H s)(t:qk ys n)(hz:ys.length<=jY) :
  Inv X oE σ (qE H s.heap.objs.size (.lst ys)) { s with heap:=s.heap.push { cls:=.type "list", data:=.seq n.toArray },toks:=t' }:=
 I.laid (λ_ _ q=>ai _ q) (af _) ⟨hz,n,0,t,aD _ rfl⟩
theorem Inv.fresh(I:Inv X oE σ H s):H s.heap.objs.size=none:=I.hok.fresh (af _)
def Inv.lstM(I:Inv X oE σ H s)(u:H l=some (.lst xs)):xs.length<=jY/\∃t n,qk xs t/\xs.length=t.length/\s.heap.get? l=some { cls:=.type "list", data:=.seq t.toArray n }:=by
 obtain⟨z,t,n,r,e⟩:=I.hok l _ u;exact⟨z,t,n,r,r.length,e⟩
def TL(h:n<=jY):Builtin.List.listTooLong n=false:=by
 unfold Builtin.List.listTooLong;exact d4 ∅
end
def vP:V->List V->Hp->VK->Prop:=λx vs H Q=>∃l n y,x = .ref l/\vs=[y]/\H l=some (.lst n)/\n.length<jY/\Q .non (qE H l (.lst (n++[y])))
def ri:MtM X "list.append" vP:=by
 intro L s σ H x M v O Q I E G h;obtain⟨l,P,y,rfl,rfl,B,R,q⟩:=h;cases E;obtain⟨u,rfl,J⟩:=G.one;obtain⟨z,t,n,r,hl,e⟩:=I.lstM B;refine lS F.slot_list_append ⟨_,e,rfl⟩ F.entry_list_append (F.args_list_append_2 _ _) (PySem.list_append l t.toArray n u (by rw[aH];lia)) ⟨e,?_⟩
 refine⟨.non,_,I.lset (its':=t++[u]) B e ⋯ (r.append (.cons J .nil)) ?_,rfl,q⟩
 rw[lAq,lSq];lia
def M6:V->List V->Hp->VK->Prop:=λx vs H Q=>∃l b n s,x = .ref l/\vs=[.ref b]/\H l=some (.lst n)/\H b=some (.lst s)/\n.length+s.length<=jY/\Q .non (qE H l (.lst (n++s)))
def PH:MtM X "list.extend" M6:=by
 intro oE s σ H x vs v us Q I L M h;obtain⟨l,b,xs,zs,rfl,rfl,J,O,hz,q⟩:=h;cases L;obtain⟨u,rfl,P⟩:=M.one;cases P;obtain⟨z,B,n,r,hl,e⟩:=I.lstM J;obtain⟨z2,t,R,S,U,Y⟩:=I.lstM O;have G:B.toArray.size+t.toArray.size<=jY:=by rw[aH,aH];lia
 have E:¬ (!B.toArray.isEmpty && Builtin.List.listTooLong (B.toArray.size+t.toArray.size))=true:=by
  rw[TL G,Bool.and_false];exact aM
 refine lS F.slot_list_extend ⟨_,e,rfl⟩ F.entry_list_extend (F.args_list_extend_2 _ _)
  (AutoSeq1.list_extend_list_list_0 l B.toArray n b t.toArray R E (by rw[aH];lia) ∅) ⟨e,Y,?_⟩
 refine⟨.non,_,I.lset (its':=B++t) J e ⋯ (r.append S) ?_,rfl,q⟩
 rw[lAq];lia
def aao:V->List V->Hp->VK->Prop:=λx vs H Q=>∃l n y,x = .ref l/\vs=[]/\H l=some (.lst n)/\n[n.length-1]?=some y/\Q y (qE H l (.lst n.dropLast))
def Io:MtM X "list.pop" aao:=by
 intro R s σ H x S v U Q I J L h;obtain⟨l,Y,y,rfl,rfl,G,M,q⟩:=h;cases J;have B:=L.zero;subst B;obtain⟨z,t,n,r,hl,e⟩:=I.lstM G;obtain⟨u,O,P⟩:=r.get M;have E:t.toArray[t.toArray.size-1]?=some u:=by
  show t.toArray[t.length-1]?=some u;rw[←au,←hl];exact O
 refine lS F.slot_list_pop ⟨_,e,rfl⟩ F.entry_list_pop (F.args_list_pop_1 _) (MeetsSeq.list_pop_last l t.toArray n u E (by rw[aH];lia)) ⟨e,?_⟩
 refine⟨y,_,I.lset (its':=t.dropLast) G e ?_ r.dropLast ?_,P,q⟩
 .show t.toArray.eraseIdxIfInBounds (t.toArray.size-1)=t.dropLast.toArray;rw[aH,gB,Bm]
 .rw[List.length_dropLast];lia
def Ue:V->List V->Hp->VK->Prop:=λx vs H Q=>∃l n i k y,x = .ref l/\vs=[.int i]/\H l=some (.lst n)/\-(2 ^ 63)<=i/\i<2 ^ 63/\oj i n.length=some k/\n[k]?=some y/\Q y (qE H l (.lst (n.eraseIdx k)))
def Je:MtM X "list.pop" Ue:=by
 intro U s σ H x Y v us Q I J L h;obtain⟨l,M,i,k,y,rfl,rfl,G,O,P,hk,R,q⟩:=h;cases J;obtain⟨u,rfl,S⟩:=L.one;obtain⟨t,rfl⟩:=S;obtain⟨z,B,n,r,hl,e⟩:=I.lstM G;obtain⟨w,hw,E⟩:=r.get R;refine lS F.slot_list_pop ⟨_,e,rfl⟩ F.entry_list_pop (F.args_list_pop_2 _ _)
  (MeetsSeq.list_pop_at l B.toArray n i t k w (fitsIndex_both O P) (by rw[aH,←hl];exact hk) (by rw[←au];exact hw) (by rw[aH];lia)) ⟨e,?_⟩
 refine⟨y,_,I.lset (its':=B.eraseIdx k) G e ?_ (r.eraseIdx k) ?_,E,q⟩
 .show B.toArray.eraseIdxIfInBounds k=(B.eraseIdx k).toArray;rw[gB]
 .have:=GJ M k;lia
def aci:R2:=λx y H Q=>∃l b n s,x = .ref l/\y = .ref b/\H l=some (.lst n)/\H b=some (.lst s)/\n.length+s.length<=jY/\∀p,H p=none->Q (.ref p) (qE H p (.lst (n++s)))
def YO:Ed X (mn .Add) aci:=by
 intro S s σ H x y v u Q I E G h;obtain⟨l,b,U,Y,rfl,rfl,J,L,hz,q⟩:=h;cases E;cases G;obtain⟨z,B,n,r,hl,e⟩:=I.lstM J;obtain⟨z2,t,n2,M,O,P⟩:=I.lstM L;refine PySem.P.add_list e P ?_ (by rw[aH,aH];lia)
 have R:B.toArray++t.toArray=(B++t).toArray:=by simp
 rw[R];exact⟨.ref _,_,I.lnew (t':=s.toks) (r.append M) (by rw[lAq];lia),rfl,q _ I.fresh⟩
section
variable {κ:Type}[DecidableEq κ]
noncomputable def Co(kvs:List (κ×V))(k:κ):Option V:=(kvs.find? λkv=>decide (kv.1=k)).map (·.2)
def zV(kvs:List (κ×V))(k:κ)(v:V):List (κ×V):=
 if (kvs.any λkv=>decide (kv.1=k))=true then kvs.map (λkv=>if kv.1=k then (kv.1,v)else kv)else kvs++[(k,v)]
def Fb{p:κ×V}(e:p.1=k):Co (p::r) k=some p.2:=by simp[Co,dP,e]
def Eh{p:κ×V}(e:¬ p.1=k):Co (p::r) k=Co r k:=by simp[Co,dP,e]
theorem J1 k:∀kvs:List (κ×V),(kvs.any λkv=>decide (kv.1=k))=(Co kvs k).isSome
 | []=>rfl
 |p::r=>by
  rw[dW]
  by_cases e:p.1=k
  .simp only[Fb e,d0 e,Bool.true_or,Option.isSome_some]
  .rw[Eh e,d4 e,Bool.false_or];exact J1 k r
def Ab(kvs:List (κ×V))k v:(zV kvs k v).length<=kvs.length+1:=by
 unfold zV;split
 .rw[lMq];lia
 .rw[lAq,lCq,cF];lia
def FO.isSome_eq(r:FO o u):o.isSome=u.isSome:=by
 cases o with
 |none=>cases u with
  |none=>rfl
  |some _=>exact(show False from r).elim
 |some _=>cases u with
  |none=>exact(show False from r).elim
  |some _=>rfl
def KV.val{kvs:List (κ×V)}(r:KV kvs vs)k:FO (Co kvs k) (mU vs k):=by
 unfold KV at r
 induction r with
 |nil=>exact True.intro
 | @cons p q B l h t u=>
  obtain⟨s,x⟩:=h
  by_cases e:p.1=k
  .have n:q.1=k:=s.symm.trans e;have b:mU (q::l) k=some q.2:=by simp[mU,dP,n]
   rw[Fb e,b];exact x
  .have n:¬ q.1=k:=λz=>e (s.trans z)
   have b:mU (q::l) k=mU l k:=by simp[mU,dP,n]
   rw[Eh e,b];exact u
theorem KV.any{kvs:List (κ×V)}(r:KV kvs vs)k:(kvs.any λkv=>decide (kv.1=k))=vs.any λkv=>decide (kv.1=k):=by
 unfold KV at r
 induction r with
 |nil=>rfl
 |cons h t l=>rw[dW,dW,l,h.1]
def KV.repl{kvs:List (κ×V)}(r:KV kvs vs)k(n:qI y u) :
  KV (kvs.map λkv=>if kv.1=k then (kv.1,y)else kv) (vs.map λkv=>if kv.1=k then (kv.1,u)else kv):=by
 unfold KV at r ⊢
 induction r with
 |nil=>exact .nil
 | @cons p q B E h t s=>
  rw[aw,aw];refine .cons ?_ s;obtain⟨l,x⟩:=h
  by_cases e:p.1=k
  .rw[pO e,pO (l.symm.trans e)];exact⟨l,n⟩
  .rw[pK e,pK (λz=>e (l.trans z))];exact⟨l,x⟩
def KV.put{kvs:List (κ×V)}(r:KV kvs vs)k(l:qI y u):KV (zV kvs k y) (stored vs k u):=by
 unfold zV stored;rw[r.any k]
 by_cases e:(vs.any λkv=>decide (kv.1=k))=true
 .rw[pO e,pO e];exact r.repl k l
 .rw[pK e,pK e];exact Paired.snoc r ⟨rfl,l⟩
theorem KV.length{kvs:List (κ×V)}(r:KV kvs vs):kvs.length=vs.length:=Paired.length r
end
def Kd(r:qI (kV k) u):(qQ P w).is k u=true:=by
 cases k with
 |inl i=>obtain⟨t,e⟩:=(show ∃t,u=gg i t from r);subst e;exact J8 P w i t
 |inr x=>obtain⟨t,e⟩:=(show ∃t,u=jB x t from r);subst e;exact IF P w x t
theorem GQ:∀{ks}{l},qk (ks.map kV) l->ItemsAre (qQ P w) ks l
 | [],_,r=>by rw[fI]at r;cases r;exact .nil
 |k::ks,_,r=>by
  rw[aw]at r;cases r with
  |cons h t=>exact .cons (Kd h) (GQ t)
abbrev KT(H:Hp):List (List pQ×V)->List (List pQ×Addr×Value)->Prop:=Paired λp q=>p.1=q.1/\H q.2.1=some (.tup (p.1.map kV))/\qI p.2 q.2.2
def KT.val(r:KT H kvs s)k:FO (Co kvs k) ((ny s k).map (·.2)):=by
 induction r with
 |nil=>exact True.intro
 | @cons p q E l h t x=>
  obtain⟨u,_,B⟩:=h
  by_cases e:p.1=k
  .have n:q.1=k:=u.symm.trans e;have b:ny (q::l) k=some q.2:=by simp[ny,dP,n]
   rw[Fb e,b];exact B
  .have n:¬ q.1=k:=λz=>e (u.trans z)
   have b:ny (q::l) k=ny l k:=by simp[ny,dP,n]
   rw[Eh e,b];exact x
def KT.repl(r:KT H kvs n)k(x:qI y u) :
  KT H (kvs.map λkv=>if kv.1=k then (kv.1,y)else kv) (n.map (putAt k u)):=by
 induction r with
 |nil=>exact .nil
 | @cons p q G I h t B=>
  rw[aw,aw];refine .cons ?_ B;obtain⟨l,s,E⟩:=h;unfold putAt
  by_cases e:p.1=k
  .rw[pO e,pO (l.symm.trans e)];exact⟨l,s,x⟩
  .rw[pK e,pK (λz=>e (l.trans z))];exact⟨l,s,E⟩
def KT.put(r:KT H kvs l)k(hb:H b=some (.tup (k.map kV)))(n:qI y u) :
  KT H (zV kvs k y) (storedH l k b u):=by
 have e:(kvs.any λkv=>decide (kv.1=k))=(ny l k).isSome:=by
  rw[J1,(r.val k).isSome_eq,dQ]
 unfold zV storedH;rw[e]
 by_cases q:(ny l k).isSome=true
 .rw[pO q,pO q];exact r.repl k n
 .rw[pK q,pK q];exact Paired.snoc r ⟨rfl,hb,n⟩
def KT.keeps(r:KT H kvs n)(ht:∀b s,H b=some (.tup s)->l b=some (.tup s)):KT l kvs n:=
 Paired.mapP r λ_ _ z=>⟨z.1,ht _ _ z.2.1,z.2.2⟩
def Xx(ok:Bu P w H h)(e:Rd H a u):rq P w H h a u:=e.ok ok
def Gx(ok:Bu P w H h)(e:Rd H a (.dK kvs)):kvs.length<=jY/\(a == kP)=false/\∃vs,KV kvs vs/\h.DictOf (qQ P w) a vs:=
 show rq P w H h a (.dK kvs)from Xx ok e
def XM(ok:Bu P w H h)(e:H a=some (.dK kvs)):kvs.length<=jY/\(a == kP)=false/\∃vs,KV kvs vs/\h.DictOf (qQ P w) a vs:=Gx ok (.inl e)
def HX(ok:Bu P w H h)(e:H a=some (.tup (ks.map kV))):(nu (qQ P w)).is h ks a:=by
 obtain⟨_,l,r,o,s,t,n,u⟩:=(show rq P w H h a (.tup (ks.map kV))from ok a _ e)
 exact⟨o,l.toArray,n,s,t,u,by simpa using GQ r⟩
def Jg(ok:Bu P w H h)(e:Rd H a (.dT kvs)):kvs.length<=jY/\(a == kP)=false /\
  ∃s,KT H kvs s/\h.DictOfH (nu (qQ P w)) a s:=by
 obtain⟨z,y,s,r,o,B,E,G,I,J,L,M⟩:=(show rq P w H h a (.dT kvs)from Xx ok e)
 refine⟨z,y,s,r,o,B,E,G,I,J,L,λx n=>?_,M⟩
 have all:∀{l:List (List pQ×V)}{m:List (List pQ×Addr×Value)},KT H l m->∀x∈m,(nu (qQ P w)).is h x.1 x.2.1:=by
  intro l m q
  induction q with
  |nil=>intro x n;exact nomatch n
  | @cons p q Q R u t O=>
   intro x n;rcases aa.mp n with e|n
   .subst e;exact HX ok (by rw[←u.1];exact u.2.1)
   .exact O x n
 exact all r x n
def abt(ok:Bu P w H h)(e:H a=some (.dT kvs)):kvs.length<=jY/\(a == kP)=false /\
  ∃l,KT H kvs l/\h.DictOfH (nu (qQ P w)) a l:=Jg ok (.inl e)
def E7(H:Hp)(a:Addr)(y:V)(r:Option V):Prop:=
 (∃kvs k,Rd H a (.dK kvs)/\y=kV k/\r=Co kvs k)∨∃kvs k b,Rd H a (.dT kvs)/\y = .ref b/\H b=some (.tup (k.map kV))/\r=Co kvs k
def QI(H:Hp)(a:Addr)(y v:V)(l:Hp):Prop:=
 (∃kvs k,H a=some (.dK kvs)/\y=kV k/\kvs.length<jY/\l=qE H a (.dK (zV kvs k v))) ∨
 ∃kvs k b,H a=some (.dT kvs)/\y = .ref b/\H b=some (.tup (k.map kV))/\kvs.length<jY/\l=qE H a (.dT (zV kvs k v))
theorem E7.k{k}(e:H a=some (.dK kvs)):E7 H a (kV k) (Co kvs k):=.inl ⟨kvs,k,.inl e,rfl,rfl⟩
theorem QI.k{k}(e:H a=some (.dK kvs))(hl:kvs.length<jY):QI H a (kV k) v (qE H a (.dK (zV kvs k v))):=.inl ⟨kvs,k,e,rfl,hl,rfl⟩
section
variable {σ:St}{E:Ψ}
def Inv.big(I:Inv X oE σ H s):kP<s.heap.objs.size:=by
 have h:kc<s.heap.objs.size:=(I.mod.glob.keeps I.bk).lt;exact jf ⋯ h
def OF{Q:Ψ}(O:A.units+1<kE)(I:Inv X oE σ H s)(g:E7 H a y (some v))(L:qI y u)(h:∀x M,Inv X oE σ H M->qI v x->Q x M) :
  jW (jU X.prog X.w) A (nO (.ref a) u) Q E s:=by
 rcases g with⟨B,k,e,G,l⟩|⟨B,k,b,e,G,P,l⟩
 .subst G;obtain⟨z,hd,R,n,dd⟩:=Gx I.hok e;obtain⟨x,hw,t⟩:=FO.some_of (v:=v) (o:=mU R k) (by rw[l];exact n.val k)
  exact wpAny_getItem_of (Kd L) dd.mapOf hw (h x _ (I.tok _) t)
 .subst G;cases(show u=bM b from L)
  obtain⟨z,hd,S,n,dd⟩:=Jg I.hok e;obtain⟨x,hw,t⟩:=FO.some_of (v:=v) (o:=(ny S k).map (·.2)) (by rw[l];exact n.val k)
  obtain⟨p,U,J⟩:=oMq.mp hw;refine wpAny_getItem_heap (mP O) (HX I.hok P) dd U ?_;rw[J];exact h x _ (I.tok _) t
def VB{Q:Ψ}(J:A.units+1<kE)(I:Inv X oE σ H s)(g:E7 H a y o)(B:qI y u)(h:∀G,Inv X oE σ H G->Q (.bool (!o.isSome)) G) :
  jW (jU X.prog X.w) A (kH .NotIn u (.ref a)) Q E s:=by
 rcases g with⟨t,k,e,x,l⟩|⟨t,k,b,e,x,L,l⟩
 .subst x;obtain⟨z,hd,M,n,dd⟩:=Gx I.hok e;refine wpAny_notIn_of (Kd B) hd dd.mapOf ?_;rw[← (n.val k).isSome_eq,←l];exact h _ (I.tok _)
 .subst x;cases(show u=bM b from B)
  obtain⟨z,hd,O,n,dd⟩:=Jg I.hok e;refine wpAny_notIn_heap (mP J) (HX I.hok L) hd dd ?_;have q:=(n.val k).isSome_eq;rw[dQ]at q;rw[←q,←l];exact h _ (I.tok _)
def Il(I:Inv X oE σ H s)(mu:Mut (H a))(hs:cD a s.heap h')(n:∃q,h'.get? a=some q)(new:rq X.prog X.w (qE H a l) h' a l) :
  Inv X oE σ (qE H a l) { s with heap:=h',toks:=t' }:=
 I.write (x:=a) (e:=a) mu (.inl rfl) (λb q hb z=>(hs.2 b hb).trans z) n new
def QE(z:kvs.length<=jY)(hd:(a == kP)=false)(l:KV kvs vs)(dd:h'.DictOf (qQ P w) a vs) :
  rq P w n h' a (.dK kvs):=⟨z,hd,vs,l,dd⟩
def Qd(hu:A.units+1<kE)(I:Inv X oE σ H s)(g:QI H a y v M)(O:qI y u)(P:qI v r)(h:∀R,Inv X oE σ M R->Q () R) :
  jW (jU X.prog X.w) A (setItem (.ref a) u r) Q E s:=by
 rcases g with⟨n,k,e,G,l,J⟩|⟨n,k,b,e,G,S,l,J⟩
 .subst G J;obtain⟨z,hd,vs,t,dd⟩:=XM I.hok e;have L:vs.length<=jY:=by rw[←t.length];exact z
  have hl:(zV n k v).length<=jY:=by have:=Ab n k v;lia
  refine wpAny_setItem_pairs (hsz:=L) (Kd O) dd λU x hs=>h _ ?_
  have he:∃q,U.get? a=some q:=let ⟨q,_,_,B,_⟩:=x;⟨q,B⟩
  exact Il I (by rw[e];exact True.intro) hs he (QE hl hd (t.put k P) x)
 .subst G J;cases(show u=bM b from O)
  obtain⟨z,hd,xs,t,dd⟩:=abt I.hok e;have L:xs.length<=jY:=by rw[←Paired.length t];exact z
  have hl:(zV n k v).length<=jY:=by have:=Ab n k v;lia
  refine wpAny_setItem_heap (hsz:=L) (mP hu) (HX I.hok S) dd λU x hs=>h _ ?_
  obtain⟨q,es,ep,B,h2,h3,h4,_,h5⟩:=x;refine Il I (by rw[e];exact True.intro) hs ⟨q,B⟩ ⟨hl,hd,_,(t.put k S P).keeps λc ys Y=>?_,q,es,ep,B,h2,h3,h4,h5⟩
  rw[pD (abI Y e (λz=>nomatch z))]
  exact Y
end
section
variable {σ:St}{E:Ψ}
def abH{Q:Ψ}(I:Inv X oE σ H s)(e:Rd H a (.dK kvs))(h:∀t n,Inv X oE σ H n->Q (.int kvs.length t) n):jW (jU X.prog X.w) A (call (.builtin "len") [.ref a]) Q E s:=by
 obtain⟨z,hd,x,l,dd⟩:=Gx I.hok e;refine call_len_dict hd dd (by rw[←l.length];rw[kA]at z;lia) ?_
 rw[←l.length];exact h _ _ (I.tok _)
end
def acp(i:Expr):Prop:=∀l n,nB i false l n=operate [l,n] (nO l n)
def WB{E:Ψ}{id}{Q:Ψ}
  (hl:mS (.type T) "__getitem__" = pure (some (.builtin id))) (hs:acp l)
  (h:jW (jU prog w) A (eval n env) (λo z=>jW (jU prog w) A (eval l env) (λi t=>t.TypeIs o T/\jW (jU prog w) A (nO o i) Q E t) E z) E s) :
  jW (jU prog w) A (eval (.Subscript n l pos) env) Q E s:=by
 refine Subscript_ (kB h (λo z G=>kB G (λi t u=>?_) λ_ _ x=>x) λ_ _ x=>x)
 obtain⟨I,u⟩:=u;unfold nZ;refine jR ?_;rw[getitemInPython_of_ne I.not_modules];refine jR (mH I hl ?_);have fin:jW (jU prog w) A (nB l false o i) (λr B=>jW (jU prog w) A (letTemporaryGo n o r >>= λ_=>pure r) Q E B) E t:=by
  rw[hs o i];exact wpAny_operating (kB u (λr B H=>jR (wpAny_letTemporaryGo (jT H))) λ_ _ x=>x)
 first
  |exact jT (jR fin)
  |exact jR (jT (jR fin))
  |exact jR fin
def Jb{σ:St}(I:Inv X n σ H s)(g:E7 H a y o):s.TypeIs (.ref a) "dict" := by
 rcases g with⟨l,k,e,_,_⟩|⟨l,k,b,e,_,_,_⟩
 .obtain⟨_,_,t,_,dd⟩:=Gx I.hok e;exact dd.typeIs
 .obtain⟨_,_,u,_,dd⟩:=Jg I.hok e;exact dd.typeIs
def Q4(n ty:TE):TE:=λσ H Q=>n σ H λx s=>ty σ s λy l=>∃a v,x = .ref a/\E7 l a y (some v)/\Q v l
def HW(ty n:TE):TE:=λσ H Q=>ty σ H λy s=>n σ s λx l=>∃a o,x = .ref a/\E7 l a y o/\Q (.bl (!o.isSome)) l
def XB(l ty n:TE):TS:=λD σ H=>n σ H λv s=>l σ s λx t=>ty σ t λy u=>∃a H4,x = .ref a/\QI u a y v H4/\D.nx σ H4
def Ht(z:X.A.units+1<kE)(B:PE X o td)(hi:PE X i ty)(hs:acp i):PE X (.Subscript o i pos) (Q4 td ty):=by
 intro n s σ H Q I h;refine WB PySem.F.slot_dict_getitem.lookup hs (thn (B n s σ H _ I h) λu E ⟨x,G,J,L,M⟩=>thn (hi n E σ G _ J M) λU Y ⟨y,O,t,P,a,v,ex,g,R⟩=>?_)
 subst ex;obtain rfl:u=bM a:=L;exact⟨Jb t g,OF z t g P λw' s3 S l=>⟨v,O,S,l,R⟩⟩
def Gj(n:X.A.units+1<kE)(hi:PE X i ty)(t:PE X o td):PC X .NotIn i o (HW ty td):=by
 intro l s σ H Q I h;refine thn (hi l s σ H _ I h) λU z ⟨y,B,E,G,J⟩=>thn (t l z σ B _ E J) λu Y ⟨x,L,M,O,a,P,ex,g,R⟩=>?_
 subst ex;obtain rfl:u=bM a:=O;exact VB n M g G λs3 S=>⟨.bl (!P.isSome),L,S,rfl,R⟩
def N8(n:X.A.units+1<kE)(t:PE X o td)(hi:PE X i ty)(z:PE X value tv)(hs:nv value (some (.Subscript o i pos')) pos.line X.env=pure false) :
  PS X (.Assign [.Subscript o i pos'] value pos) (XB td ty tv):=by
 intro l s σ H D I h;refine wpAny_Assign_Subscript (thn (z l s σ H _ I h) λr B ⟨v,E,G,J,L⟩=>thn (t l B σ E _ G L) λu M ⟨x,O,P,Q,R⟩=>thn (hi l M σ O _ P R) λiv s3 ⟨y,H3,S,U,a,H4,ex,g,Y⟩=>?_) hs
 subst ex;obtain rfl:u=bM a:=Q;exact Qd n S g U J λs4 I4=>⟨σ,H4,I4,Y⟩
def IW(h:Heap)(hb:kP<h.objs.size):rq P w H (h.push { cls:=.type "dict", data:=.dict #[] }) h.objs.size (.dK []):=
 ⟨aX _,beq_eq_false_iff_ne.mpr (Ne.symm (az hb)),[],.nil,Heap.DictOf.new h⟩
def RU:TE:=λ_ H Q=>∀p,H p=none->Q (.ref p) (qE H p (.dK []))
def Kf:PE X (.Dict [] [] pos) RU:=λl s σ H Q I h=>
 wpAny_Dict_empty ⟨.ref s.heap.objs.size,_,I.laid (a:=s.heap.objs.size) (o:=.dK []) (t':=s.toks) (λ_ _ q=>ai _ q) (af _) (IW s.heap I.big),rfl,h _ (I.hok.fresh (af _))⟩
def LZ:List (TE×TE)->St->Hp->(List (V×V)->Hp->Prop)->Prop
 | [],_,H,Q=>Q [] H
 | (l,n)::r,σ,H,Q=>l σ H λx s=>n σ s λy t=>LZ r σ t λps u=>Q ((x,y)::ps) u
abbrev VV:List (V×V)->List (Value×Value)->Prop:=Paired λp q=>qI p.1 q.1/\qI p.2 q.2
def PPs(X:Cx)(pos:Pos)(n:List (Option Expr))(l:List Expr)(t:List (TE×TE)):Prop:=
 ∀u s (σ:St) H Q,Inv X u σ H s->LZ t σ H Q ->
  jW (jU X.prog X.w) X.A (evalPairs (pairTrees n l X.env pos)) (λvs z=>∃ps x,Inv X u σ x z/\VV ps vs/\Q ps x) X.xe s
def W0:PPs X pos [] [] []:=λl s σ H Q I h=>pairTrees_nil_walk ⟨[],H,I,.nil,h⟩
def Uo(hk:PE X k z)(E:PE X v B)(hr:PPs X pos ks vs l) :
  PPs X pos (some k::ks) (v::vs) ((z,B)::l):=λn s σ H Q I h=>
 pairTrees_cons_walk (thn (hk n s σ H _ I h) λu G ⟨x,J,L,M,O⟩=>thn (E n G σ J _ L O) λw2 P ⟨y,R,S,U,Y⟩=>
  thn (hr n P σ R _ S Y) λws s3 ⟨ps,H3,I3,t,q3⟩=>⟨(x,y)::ps,H3,I3,.cons ⟨M,U⟩ t,q3⟩)
def C1(kvs more:List (pQ×V)):List (pQ×V):=more.foldl (λl kv=>zV l kv.1 kv.2) kvs
def KV.merge:∀{more}{rs}{kvs}{vs},KV more rs->KV kvs vs->KV (C1 kvs more) (merged vs rs):=by
 intro more rs kvs vs r;unfold KV at r
 induction r generalizing kvs vs with
 |nil=>intro q;exact q
 | @cons p q s u h t l=>
  intro n;have e:KV (zV kvs p.1 p.2) (stored vs q.1 q.2):=by
   have:=n.put p.1 h.2;rw[←h.1];exact this
  exact l e
theorem AK:∀more kvs,(C1 kvs more).length<=kvs.length+more.length
 | [],kvs=>by show kvs.length<=kvs.length+0;lia
 |p::r,kvs=>by
  have l:=AK r (zV kvs p.1 p.2);have n:=Ab kvs p.1 p.2;show(C1 (zV kvs p.1 p.2) r).length<=_;rw[lCq];lia
theorem Ep:∀{kvs}{ws},VV (kvs.map λkv=>(kV kv.1,kv.2)) ws->∃rs,Carries (qQ P w) ws rs/\KV kvs rs
 | [],_,r=>by rw[fI]at r;cases r;exact⟨[],True.intro,.nil⟩
 |p::kvs,_,r=>by
  rw[aw]at r;cases r with
  | @cons a b l bs h t=>
   obtain⟨rs,c,q⟩:=Ep (P:=P) (w:=w) t;obtain⟨b1,b2⟩:=b;exact⟨(p.1,b2)::rs,⟨Kd h.1,rfl,c⟩,.cons ⟨rfl,h.2⟩ q⟩
def XS(l:List (TE×TE)):TE:=λσ H Q=>∀p,H p=none->LZ l σ (qE H p (.dK [])) λps n=>n p=some (.dK [])/\∃kvs:List (pQ×V),ps=kvs.map (λkv=>(kV kv.1,kv.2))/\kvs.length<=15/\Q (.ref p) (qE n p (.dK (C1 [] kvs)))
def U9(h:PPs X pos l n t)(u:l.all (·.isSome)=true)(hl:l.length=n.length)(L:l≠[])
  (E:l.length<=15):PE X (.Dict l n pos) (XS t):=by
 intro M s σ H Q I q;have hn:=I.hok.fresh (af s.heap.objs.size);have O:=I.laid (a:=s.heap.objs.size) (o:=.dK []) (h':=s.heap.push { cls:=.type "dict", data:=.dict #[] }) (t':=s.toks) (λ_ _ q=>ai _ q) (af _) (IW s.heap I.big)
 refine wpAny_Dict_walk (knd:=qQ X.prog X.w) u hl L E (thn (h M _ σ _ _ O (q _ hn)) λws s2 ⟨ps,H2,J,G,e,x,R,lk,S⟩=>?_)
 subst R;obtain⟨U,c,Y⟩:=Ep (P:=X.prog) (w:=X.w) G;obtain⟨z,hd,vs0,r0,dd⟩:=XM J.hok e;cases r0;refine⟨U,c,dd,λh' B hs=>⟨.ref s.heap.objs.size,_,?_,rfl,S⟩⟩
 have hz:(C1 [] x).length<=jY:=by
  have h1:=AK x [];rw[cF]at h1;rw[kA];lia
 have he:∃q,h'.get? s.heap.objs.size=some q:=let ⟨q,_,_,hq,_⟩:=B;⟨q,hq⟩
 exact Il J (by rw[e];exact True.intro) hs he (QE hz hd (Y.merge .nil) B)
structure M1 (X:Cx)(o:Expr)(m:Str)(apos:Pos)(e:Expr)(cpos:Pos):Prop where
 base:mQ o m X.env (eval o X.env)=eval o X.env
 few:((lu cpos (kf [e] X.env)).all (λx=>!x.1) && (backToKw cpos (ou [] X.env)).all (λx=>x.1.isSome)
  && decide (([e]:List Expr).length+([]:List nP).length+(if ([]:List nP).isEmpty then 0 else 1)<30))=true
 line:(apos.endLine == cpos.line)=true
 trees:lu cpos (kf [e] X.env)=[(false,eval e X.env)]
structure M2 (X:Cx)(o:Expr)(m:Str)(apos:Pos)(e f:Expr)(cpos:Pos):Prop where
 base:mQ o m X.env (eval o X.env)=eval o X.env
 few:((lu cpos (kf [e,f] X.env)).all (λx=>!x.1) && (backToKw cpos (ou [] X.env)).all (λx=>x.1.isSome)
  && decide (([e,f]:List Expr).length+([]:List nP).length+(if ([]:List nP).isEmpty then 0 else 1)<30))=true
 line:(apos.endLine == cpos.line)=true
 trees:lu cpos (kf [e,f] X.env)=[(false,eval e X.env),(false,eval f X.env)]
def IsD(H:Hp)(a:Addr):Prop:=(∃kvs,Rd H a (.dK kvs))∨∃kvs,Rd H a (.dT kvs)
def aaA{σ:St}(I:Inv X x σ H s)(d:IsD H a) :
  s.TypeIs (.ref a) "dict" /\ (∀b,bM a = .ref b->∃l,s.heap.get? b=some l/\l.dict=none)/\(a == kP)=false:=by
 rcases d with⟨n,e⟩|⟨n,e⟩
 .obtain⟨_,hd,z,_,dd⟩:=Gx I.hok e;refine⟨dd.typeIs,λb q=>?_,hd⟩
  cases q;obtain⟨l,_,_,t,u,_⟩:=dd;exact⟨l,t,u.2.1⟩
 .obtain⟨_,hd,B,_,dd⟩:=Jg I.hok e;refine⟨dd.typeIs,λb q=>?_,hd⟩
  cases q;obtain⟨l,_,_,t,u,_⟩:=dd;exact⟨l,t,u.2.1⟩
end L2
namespace Att
open PySem PySem.W PySem.Calls PyProof.Rows
def DH:∀(ns:Ϝ) (vs:Ξ),WellAll P h vs (ns.map WData.int)->kx vs ns:=by
 intro ns
 induction ns with
 |nil=>
  intro vs w;rw[fI]at w;cases w;exact .nil
 |cons n ns l=>
  intro vs w;rw[aw]at w;cases w with
  |cons a b=>
   cases a;exact .cons _ _ (l _ b)
def OW{l:OpenLaw}(hn:l.most=some n){s:Ξ}
  (t:l.row.toRowW.claim.pre args=true) (E:WellAll P h s args) :
  ∃a vs ns,s=[bM a]/\args=[WData.list (ns.map WData.int)]/\h.get? a=some { cls:=.type "list", data:=.seq vs.toArray }/\kx vs ns/\ns.length<=n:=by
 have G:WShape.hasAll [] args [.list .int]=true:=(pre_splitW t).1;have H:l.pre.holds [] { args:=args }=true:=(pre_splitW t).2;obtain⟨d,r,rfl,I,J⟩:=hasAllW_cons G;obtain rfl:=hasAllW_nil J;obtain⟨S,rfl,L⟩:=hasW_list I;obtain⟨ns,rfl⟩:=items_int L;have u:ns.length<=n:=by
  unfold OpenLaw.pre at H;have z:(WTm.not (.lt (.lit (.int (n:Int))) (.len (.arg 0)))).holds [] { args:=[.list (ns.map .int)] }=true:=by
   have z:=(holds_andW H).1;rw[hn]at z;exact z
  have B:=condW_of z (w_not (w_lt w_lit (w_len_list (w_arg rfl))));rw[lMq]at B;refine iA λq=>?_
  have M:(n:Int)<((ns.length:Nat):Int):=by lia
  first
   | (rw[d0 M]at B;exact absurd B ⋯)
   | (simp at B;lia)
 cases E with
 |cons O Q=>
  cases Q;cases O with
  |list R x=>exact⟨_,_,ns,rfl,rfl,R,DH ns _ x,u⟩
def Oj(l:OpenLaw)args:l.row.toRowW.claim.post args (.bool true) args=true:=
 postW_of (r:=l.row.toRowW) (X:=(true == true))
  (show WShape.has [] (.bool true) .bool=true by first|rfl|decide|simp[WShape.has,WShape.arms,WShape.armsAll])
  (show(WTm.eq .res (.lit (.bool true))).value [] { args:=args,res:=some (.bool true),after:=args }=some (.bool (true == true))from w_eq_bool (w_res rfl) w_lit) rfl
def JF{l:OpenLaw}{Q:(Str->Υ)->Heap->Prop}
  (hn:l.most=some n) (J:d.params.defaults=[])
  (call:∀w s₀ s (mg L:Str->Υ) x o pm H t a (vs:Ξ) (ns:Ϝ),
   Ground q loose [] Q w s₀ mg L s.heap->R w s.heap ->
   s.heap.get? x=some o->o.data = .func (docDef d.name d.params d.body d.scope pm H t)->s.heap.CodeRec H d.name->mg d.name=some (.ref x) ->
   s.heap.get? a=some { cls:=.type "list", data:=.seq vs.toArray }->kx vs ns->ns.length<=n->s.gens=#[] ->
   kZ (jU l.prog w) mW (.call (.ref x) ⟨[.ref a],[]⟩) (λr I=>r = .ok (.ret (.bool true))/\OldK s.heap I.heap/\I.os=s.os/\mF I.gens) s) :
  WalkO q loose Q R l.row.toRowW d [] (λf vs=>PySem.call f vs):=by
 intro w s₀ s mg L G Y x o pm H t dV kV ho hd M S O hg U X as z hlay hrd P hlo;obtain rfl:dV = .none:=Dflts.none S J;obtain rfl:kV = .none:=Dflts.noKw S;obtain⟨a,vs,ns,rfl,rfl,B,u,E⟩:=OW hn z P;refine enter_call (mN (call w s₀ s mg L x o pm H t a vs ns G Y ho (fd_plain hd) M O B u E hg) λr I hq=>?_)
 obtain⟨rfl,h2,h3,h4⟩:=hq;exact⟨.inl ⟨.bool true,.bool true,[],rfl,λ_=>rfl,.bool true,Oj l _,λ_=>⟨bu.nil,λ_ hm=>(nomatch hm)⟩⟩,h2,h3,h4⟩
end Att
namespace L2
open PySem PySem.Spec PyProof.Rows
theorem vals_ints:∀{vs:Ξ}{ns:Ϝ},kx vs ns->qk (ns.map V.int) vs
 |_,_,.nil=>.nil
 |_,_,.cons n t h=>.cons ⟨t,rfl⟩ (vals_ints h)
def Yu(H:Hp):Prop:=∀b,H b=none∨∃o l,H b=some (.frz o (.lst l))
def Ta{K}{mg X:Str->Υ}{vs:Ξ}{ns:Ϝ}
  (KX:K.In l.heap) (J:l.heap.Ns kc mg) (hb:l.heap.Ns builtinsNs X) (hbb:∀x:Str,x ≠ "__name__" -> X x=mj x) (L:l.heap.NoLimit) (hg:l.gens=#[])
  (ha:l.heap.get? a=some { cls:=.type "list", data:=.seq vs.toArray }) (hi:kx vs ns) (hl:ns.length<=jY) (hr:vv k mW)
  (F:∀base:Heap,K.In base->base.Ns kc mg->DB P w K mg base CX k Y fd [x] sp) (I:∀s u,nQ s fd ⟨[u],[]⟩ [(x,u)])
  (hsp:∀H:Hp,Yu H->rF K H a (ns.map V.int)->sp [.ref a] H (λv _=>v = .bl true) λ_ _ _=>False)
  (hCX:∀H e B,CX [] H l (λ_ _ _=>False) e B->False) :
  kZ (jU P w) mW (.call (.ref Y) ⟨[.ref a],[]⟩) (λr B=>r = .ok (.ret (.bool true))/\OldK l.heap B.heap/\B.os=l.os/\mF B.gens) l:=by
 have rv:=vals_ints hi;have M:=hi.length;have G:∀H:Hp,Yu H->rF K H a (ns.map V.int)->Bu P w H l.heap->(∀b,H b≠none->b=a)->(H a≠none->K.lookup a=none) ->
   kZ (jU P w) mW (.call (.ref Y) ⟨[.ref a],[]⟩) (λr B=>r = .ok (.ret (.bool true))/\OldK l.heap B.heap/\B.os=l.os/\mF B.gens) l:=by
  intro H hO hS hok hA hK;have t:∀{b:Addr}{o:Obj},l.heap.get? b=some o->H b=none->(Hx l.heap H).get? b=some o:=λe n=>RO e n
  have noA:∀{b:Addr}{o:Obj}{O:Array DictEntry}{Q:Nat},l.heap.get? b=some o->o.data = .dict O Q->H b=none:=λ{b o O Q} e d=>by
   cases q:H b with
   |none=>rfl
   |some u=>
    have e':b=a:=hA b (by rw[q];simp)
    subst e';rw[ha]at e;cases e;have d':Data.seq vs.toArray _=Data.dict O Q:=d;cases d'
  have E:∀{b:Addr}{m:Str->Υ},l.heap.Ns b m->(Hx l.heap H).Ns b m:=λ{b m} ⟨o,O,Q,e,d,r⟩=>⟨o,O,Q,t e (noA e d),d,r⟩
  have R:K.In (Hx l.heap H):=λb o e=>t (KX b o e) (by
   cases q:H b with
   |none=>rfl
   |some u=>
    have e':b=a:=hA b (by rw[q];simp)
    subst e';rw[hK (by rw[q];simp)]at e;cases e)
  have hM:Mod K mg (Hx l.heap H):=⟨R,E J,⟨X,E hb,hbb⟩,let ⟨mc,h1,h2⟩:=L;⟨mc,E h1,h2⟩⟩
  have e0:Vz P w K mg (Hx l.heap H) mW [] l H:=⟨rfl,hM,λb o e=>VE e,fJ (On _ _),trivial,λb hb=>absurd (show b∈([]:Δ)from hb) ⋯,hok,.of_eq hg⟩
  refine mN ((F _ R (E J)).run mW [] l H ⟨[.ref a],[]⟩ [.ref a] [.ref a] _ _ hr e0 (I l (.ref a)) (.cons rfl .nil) (hsp H hO hS)) λr B h=>?_
  cases r with
  |error e=>exact(hCX H e B h).elim
  |ok fl=>
   cases fl with
   |next=>exact False.elim h
   |brk=>exact False.elim h
   |cont=>exact False.elim h
   |ret u=>
    obtain⟨v,H',os,bare,un,S,r',q⟩:=h;have q':v = .bl true:=q;subst q';obtain rfl:u=jt true:=r';refine⟨rfl,OldK.of_keep λb o e=>?_,os,bare⟩
    cases q:H b with
    |none=>exact un.keep b o e q (by intro z;exact absurd (show b∈([]:Δ)from z) ⋯) ⋯
    |some u=>
     rcases hO b with z|⟨ob,xs,z⟩
     .rw[q]at z;cases z
     .have z2:=un.frzs b ob _ z;obtain⟨e1,_⟩:=hok b _ z;obtain⟨e2,_⟩:=S b _ z2;rw[e]at e1;cases e1;exact e2
 cases hk:K.lookup a with
 |some o=>
  have e:=KX a o hk;rw[ha]at e;cases e;refine G (λ_=>none) (λ_=>.inl rfl) (.inr ⟨_,vs.toArray,_,hk,rfl,rfl,rfl,by rw[aH,M];exact hl,by simpa using rv⟩) (λb u z=>by have U:(none:Option HO)=some u:=z;cases U) (λb z=>absurd rfl z) λz=>absurd rfl z
 |none=>
  refine G (λb=>if b=a then some (.frz { cls:=.type "list", data:=.seq vs.toArray } (.lst (ns.map V.int)))else none) (λb=>?_) (.inl (.inr ⟨{ cls:=.type "list", data:=.seq vs.toArray },pO rfl⟩)) (λb u z=>?_) (λb z=>?_) λ_=>hk
  .by_cases hb:b=a
   .exact .inr ⟨_,_,pO hb⟩
   .exact .inl (pK hb)
  .by_cases hb:b=a
   .have U:=(pO hb).symm.trans z;cases U;subst hb;exact⟨ha,by rw[lMq];exact hl,vs,_,rv,ha⟩
   .have U:=(pK hb).symm.trans z;cases U
  .by_cases hb:b=a
   .exact hb
   .exact absurd (pK hb) z
def V4{l:W.OpenLaw}{U:(Str->Υ)->Heap->Prop}{K:Params->Ζ}{CX:ke->Rh}{sp:ke->Sp}
  (hn:l.most=some n) (J:n<=jY) (L:d.params.defaults=[]) (hr:vv k mW)
  (X:∀w h,R w h->(K w.params).In h)
  (F:∀w (mg:Str->Υ) I h,(K w.params).In h->h.Ns kc mg->mg d.name=some (.ref I) ->
   ∃fd:ky,(∀s u,nQ s fd ⟨[u],[]⟩ [(x,u)]) /\
    ∀base:Heap,(K w.params).In base->base.Ns kc mg->DB l.prog w (K w.params) mg base (CX w) k I fd [x] (sp w))
  (M:∀w H a (ns:Ϝ),ns.length<=n->Yu H->rF (K w.params) H a (ns.map V.int)->sp w [.ref a] H (λv _=>v = .bl true) λ_ _ _=>False)
  (O:∀w H s e P,CX w [] H s (λ_ _ _=>False) e P->False) :
  W.WalkO q loose U R l.row.toRowW d [] (λf vs=>PySem.call f vs):=by
 refine Att.JF hn L λw s₀ B mg mb I o pm cd doc a vs ns G Y ho hd hcd Q E z t hg=>?_
 have S:=X w _ Y;obtain⟨fd,hb,hF⟩:=F w mg I _ S G.T.g Q;exact Ta S G.T.g G.T.b G.T.builtins G.T.nolimit hg E z (cz t J) hr hF hb (λH hO hS=>M w H a ns t hO hS) λH e P=>O w H B e P
noncomputable def vM(s:Stmt):Arguments:=match s with
 | .FunctionDef _ a _ _ _ _ _ _ _ _=>a
 |_=>{ posonlyargs:=[],args:=[],vararg:=none,kwonlyargs:=[],kw_defaults:=[],kwarg:=none,defaults:=[] }
noncomputable def ur(s:Stmt):List Stmt:=match s with
 | .FunctionDef _ _ b _ _ _ _ _ _ _=>b
 |_=>[]
noncomputable def oJ(s:Stmt):kW:=match s with
 | .FunctionDef _ _ _ _ _ _ l _ _ _=>l
 |_=>{ kind:=.function,names:=[],isGenerator:=false,isCoroutine:=false }
abbrev Xj:Rh:=λ_ _ _ _ _ _=>False
abbrev E0:XK:=λ_ _ _=>False
def abu:LV Xj X E0:=λ_ _ _ _ _ _ _ h=>h.elim
structure Xr (K:Ζ)(x qual:Str)(st:Stmt)(f:Addr)(fd:ky):Prop where
 ex:∃(oc:Value) (od:Option Addr) (kV doc pm:Value) (an:Option Addr) (wV ct:Value) (osl:Array Υ),
  fd=W.fnOf x qual (vM st) (ur st) (oJ st) .none kV doc pm an wV ct/\K.lookup f=some ⟨oc,od,.func fd,osl⟩/\W.codeIn K wV qual=true
 kp:W.keepIn K (.ref f)=true
section
variable {K:Ζ}
def Xr.ok{st}(F:Xr K x l st f fd)(S:oZ N ps (oJ st))(len:∀vs H Q E,sp vs H Q E->vs.length=ps.length)
  (n:∀u A outer s H vs Q E,vv k (A.deeper (lJ l (oJ st) s.heap.objs.size f u))->sp vs H Q E ->
   ∃t,KD (IS Xj P w K mg base N l (oJ st) f u A outer s H E).nox (ur st) t/\t { nx:=λ_ G=>Q .non G,rt:=Q } (ux N vs) H):DB P w K mg base Xj (k+1) f fd ps sp:=by
 obtain⟨L,M,kV,I,pm,O,u,ct,J,rfl,lk,z⟩:=F.ex;refine aba lk z S len λA outer s H vs Q E hr B=>?_
 obtain⟨t,h,q⟩:=n u A outer s H vs Q E hr B;exact⟨t,h.nox,q⟩
def Xr.binds{st}(F:Xr K x l st f fd)
  (h:∀kV n pm s t ct (u:Ξ),u.length=ps.length->bindArgs (W.fnOf x l (vM st) (ur st) (oJ st) .none kV n pm s t ct) ⟨u,[]⟩=pure (ps.zip u)):AJ K fd ps []:=by
 obtain⟨E,G,kV,n,pm,s,t,ct,z,rfl,lk,B⟩:=F.ex;exact .all (h kV n pm s t ct)
def K9{st}{t:Array Υ}{kV}(l:K.lookup f=some ⟨B,E,.func (W.fnOf x n (vM st) (ur st) (oJ st) .none kV s pm z u ct),t⟩)
  (c:W.codeIn K u n=true) (k:W.keepIn K (.ref f)=true):Xr K x n st f (W.fnOf x n (vM st) (ur st) (oJ st) .none kV s pm z u ct):=⟨⟨B,E,kV,s,pm,z,u,ct,t,rfl,l,c⟩,k⟩
end
def Ku(hr:vv k A):A.units+1<kE:=Nat.lt_of_le_of_lt (Nat.add_le_add_left (by decide:1<=64) _) hr.units
def pv i(n:X.N[i]?=some x:=by rfl)(s:Vis X.env.scope x:=by trivial)(hd:(x == ("__debug__" : Str))=false:=by decide)
  (l:(x == ("__classdict__" : Str))=false:=by decide):PE X (.Name x pos) (wU i):=Zt n s hd l
def FI{A:Prop}(h:B):if false=true then A else B:=by
 rw[pK aM];exact h
def Ho{A:Prop}(h:A):if true=true then A else B:=by
 rw[pO rfl];exact h
def qd(H l:Hp):Prop:=∀b o,H b=some o->l b=some o
def qd.refl H:qd H H:=λ_ _ h=>h
def qd.trans(a:qd H l)(b:qd l n):qd H n:=λc o h=>b c o (a c o h)
def qd.free(e:qd H n)(h:n l=jL):H l=jL:=by
 cases q:H l with
 |none=>rfl
 |some o=>
  rw[e l o q]at h;cases h
def qd.seq{K}(e:qd H l)(h:rF K H a n):rF K l a n:=by
 rcases h with(h|⟨o,h⟩)|h
 .exact .inl (.inl (e _ _ h))
 .exact .inl (.inr ⟨o,e _ _ h⟩)
 .exact .inr h
def P5:uf X (.builtin "len") (λl H Q=>∃a kvs,l=[V.ref a]/\H a=some (.dK kvs)/\Q (.int kvs.length) H):=by
 intro z s σ H l B Q I r h;obtain⟨a,kvs,rfl,ha,q⟩:=h;obtain⟨u,rfl,n⟩:=vH r;cases n;exact abH I (.inl ha) λt E x=>⟨.int kvs.length,H,x,⟨t,rfl⟩,q⟩
end L2
namespace Mr
noncomputable def cell(ns:Ϝ)(k:Nat):Int:=ns.getD k 0
noncomputable def pW(ns:Ϝ):Nat->Nat
 |0=>0
 |k+1=>if ns.getD k 0<ns.getD (pW ns k) 0 then k else pW ns k
noncomputable def rot(ns:Ϝ)(i:Nat):Ϝ:=ns.drop i++ns.take i
def good(ns:Ϝ):Ϝ:=rot ns (pW ns ns.length)
theorem vK ns:∀n,(0<n->pW ns n<n)/\(∀j,j<n->ns.getD (pW ns n) 0<=ns.getD j 0)/\(∀j,j<pW ns n->ns.getD (pW ns n) 0<ns.getD j 0)
 |0=>⟨λh=>absurd h (eJ _),λj h=>absurd h (cG _),λj h=>absurd h (cG _)⟩
 |n+1=>by
  obtain⟨t,s,u⟩:=vK ns n;simp only[pW]
  by_cases c:ns.getD n 0<ns.getD (pW ns n) 0
  .rw[pO c];refine⟨λ_=>dC n,λj l=>?_,λj l=>?_⟩
   .rcases fU (jh l)with q|q
    .have:=s j q;lia
    .subst q;exact iK _
   .have:=s j l;lia
  .rw[pK c];refine⟨λ_=>?_,λj l=>?_,u⟩
   .by_cases hn:0<n
    .exact cR (t hn)
    .have:n=0:=by lia
     subst this;exact dC 0
   .rcases fU (jh l)with q|q
    .exact s j q
    .subst q;lia
def zt ns:pW ns ns.length<=ns.length:=by
 by_cases h:0<ns.length
 .exact cT ((vK ns ns.length).1 h)
 .have:ns.length=0:=by lia
  rw[this];exact af 0
def xk{ns:Ϝ}h:ns.getD j 0=ns[j]:=by
 rw[gDq,gEg h];rfl
def xh(n:M∈ns)(hl:∀a,a∈ns->M<=a):ns.idxOf M=pW ns ns.length:=by
 have t:=fk n;obtain⟨l,u,x⟩:=vK ns ns.length;have l:=l t;have hi:=fT.mpr n;have e:ns.getD (ns.idxOf M) 0=M:=by rw[xk hi];exact fV hi
 have s:ns.getD (pW ns ns.length) 0=M:=by
  have z:=u _ hi;have B:=hl _ (by rw[xk l];exact gRq l:ns.getD (pW ns ns.length) 0∈ns)
  lia
 rcases hW (ns.idxOf M) (pW ns ns.length)with q|q|q
 .have:=x _ q;lia
 .exact q
 .have:=List.not_of_lt_findIdx (p:=(· == M)) (by simpa[List.idxOf]using q)
  rw[xk l]at s;simp[s]at this
def Cb:good []=[]:=rfl
def K7(ns)i:(rot ns i).length=ns.length:=by
 unfold rot;rw[lAq,aJ,lTq];lia
def Di ns:(good ns).length=ns.length:=K7 _ _
def step(ns:Ϝ):Int:=if 0<cell ns 0 % 3 then cell ns 0 % 10 ^ 40+1 else 1
def abZ(ns:Ϝ):Int:=if 0<cell ns 1 % 3 then cell ns 1 % 10 ^ 40 else 0
def XF(ns:Ϝ)(k:Int):Int:=step ns*(((1+cell ns 1 / 3 % 66)*k+cell ns 0 / 3 % 67) % 67+1)+abZ ns
def aei(ns:Ϝ)(k:Int):Int:=if cell ns 1 % 5=4 then 10 ^ 60-XF ns k else XF ns k
def Bb{B:Ϝ}(h:∀x,x∈A->m<x)(l:∀x,x∈B->m<=x):good (A++m::B)=m::B++A:=by
 have n:m∈A++m::B:=by simp
 have hl:∀a,a∈A++m::B->m<=a:=λa ha=>by
  rcases mAq.mp ha with q|q
  .exact gP (h a q)
  .rcases aa.mp q with rfl|q
   .exact iK _
   .exact l a q
 have e:=xh n hl;have s:(A++m::B).idxOf m=A.length:=by
  rw[List.idxOf_append,pK (λq=>absurd (h m q) (Int.lt_irrefl m)),List.idxOf_cons_self,cH]
 unfold good rot;rw[←e,s,jw,jx]
def Kx{t:Ϝ}(s:t≠[])(hn:t.Nodup):∃A m B,t=A++m::B/\(∀x,x∈A->m<x)/\∀x,x∈B->m<x:=by
 have hl:=eV.mpr s;obtain⟨l,u,z⟩:=vK t t.length;have l:=l hl;refine⟨t.take (pW t t.length),t[pW t t.length],t.drop (pW t t.length+1),?_,?_,?_⟩
 .rw[←ax l,aZ]
 .intro x n;obtain⟨j,E,rfl⟩:=List.mem_take_iff_getElem.mp n;have:=z j ∅
  rw[xk l,xk ∅]at this
  exact this
 .intro x n;obtain⟨j,E,rfl⟩:=List.mem_drop_iff_getElem.mp n;have a:=u (pW t t.length+1+j) ∅
  rw[xk l,xk ∅]at a
  have ne:t[pW t t.length]≠t[pW t t.length+1+j]:=cc.mp hn _ _ l ∅ ∅
  lia
def EM(hn:t.Nodup)i:good (rot t i)=good t:=by
 by_cases s:t=[]
 .subst s;simp[rot]
 .obtain⟨A,m,B,rfl,l,n⟩:=Kx s hn;rw[Bb l (λx q=>gP (n x q))]
  by_cases c:i<=A.length
  .have e:rot (A++m::B) i=A.drop i++m::(B++A.take i):=by
    unfold rot;rw[List.drop_append_of_le_length c,List.take_append_of_le_length c];simp
   rw[e,Bb (λx q=>l x (bE q)) (λx q=>?_)]
   .simp
   .rcases mAq.mp q with q|q
    .exact gP (n x q)
    .exact gP (l x (bQ q))
  .obtain⟨j,rfl⟩:∃j,i=A.length+(j+1):=⟨i-A.length-1,by lia⟩
   have e:rot (A++m::B) (A.length+(j+1))=(B.drop j++A)++m::B.take j:=by
    unfold rot;rw[List.take_append];simp[bR,cf]
   rw[e,Bb (λx q=>?_) (λx q=>gP (n x (bQ q)))]
   .rw[eW,eW,←ae,aZ]
   .rcases mAq.mp q with q|q
    .exact n x (bE q)
    .exact l x q
def rot_perm(t)i:(rot t i).Perm t:=by
 exact aG.trans (by rw[aZ])
def qJ t:(good t).Perm t:=rot_perm t _
def pI{rs n:Λ}(h:rs.Perm n):rs.flatten.Perm n.flatten:=by
 induction h with
 |nil=>exact .refl _
 |cons x _ s=>exact aE.append (.refl x) s
 |swap x y l=>
  rw[fCq,fCq,fCq,fCq,←ae,←ae];exact aE.append aG (.refl _)
 |trans _ _ a b=>exact a.trans b
theorem qj{f:Ϝ->Ϝ}(l:∀r,(f r).Perm r):∀rs:Λ,(rs.map f).flatten.Perm rs.flatten
 | []=>.refl _
 |r::rs=>by
  exact aE.append (l r) (qj l rs)
def Qc{rs:Λ}{r:Ϝ}(h:rs.flatten.Nodup)(hr:r∈rs):r.Nodup:=bu.sublist (aT hr) h
def Qo{rs:Λ}{r:Ϝ}(hr:r∈rs):r.length<=rs.flatten.length:=(aT hr).length_le
noncomputable def abr(r:Ϝ)(i:Nat)(e:Int):Ϝ:=r.take i++[e]++r.drop i
def aeu(l:Λ)(a:Nat)(f:Nat->Nat)(e:Int):Λ:=l.set a (abr (l.getD a []) (f (l.getD a []).length) e)
def NU:∀t:Fin 66,∀d:Fin 67,0<d.val->(t.val+1)*d.val % 67≠0:=by trivial
end Mr
namespace MrS
open PySem PyProof.Rows
noncomputable def xu:Bool->jS->Array jS->Nat->Nat->Nat->StateT SortSt Sem (Option Nat):=sortPriv% PySem.Builtin.gallop
structure zU (prog:jZ)(w:ke)(A:Around)(s:Shared)(κ:kG)(P:jS->Prop)(lt:jS->jS->Bool):Prop where
 ask:∀x y,P x->P y->∀(E:Ψ) (Q:Bool->Shared->Prop),Q (lt x y) s->jW (jU prog w) A (keyLt' κ x.1 y.1) Q E s
 asym:∀x y,P x->P y->lt x y=true->lt y x=false
 trans:∀x y z,P x->P y->P z->lt y x=false->lt z y=false->lt z x=false
section
variable {E:Ψ}
def zU.refl(C:zU prog w A s κ P lt)(l:P x):lt x x=false:=by
 cases e:lt x x with
 |false=>rfl
 |true=>rw[←C.asym x x l l e,e]
def zU.cmp(C:zU prog w A s κ P lt){st}(l:P x)(n:P y)(hk:kindOf st=κ)(h:Q (some (lt x y)) st) :
  wpS (jU prog w) A E s (lt' x y) Q st:=by
 rw[lt'_eq];refine jV (lY ?_);rw[hk];refine jV (wpS_lift (mC (C.ask x y l n _ _ ⟨rfl,?_⟩)));exact jX h
def qp{st}(l:arr[i]?=some x)(h:Q x st):wpS (jU prog w) A E s (kQ arr i) Q st:=by
 rw[elem'_eq,l];exact jX h
def zU.at(C:zU prog w A s κ P lt){st}(hi:(ki st)[i]?=some x)(l:(ki st)[j]?=some y)(n:P x)(t:P y)(hk:kindOf st=κ)(h:Q (some (lt x y)) st) :
  wpS (jU prog w) A E s (ltAt' i j) Q st:=by
 refine jV (lY ?_);exact jV (qp hi (jV (qp l (C.cmp n t hk h))))
noncomputable def zm(lt:jS->jS->Bool)(left:Bool)(key:jS)(arr:Array jS)(base i:Nat):Bool:=
 if left then lt (arr.getD (base+i) key) key else !lt key (arr.getD (base+i) key)
def KR(left)key arr base n l:xu left key arr base n l=(do
 let B i:StateT SortSt Sem (Option Bool):=do
  let x ←kQ arr (base+i)
  if left then lt' x key else return (←lt' key x).map (!·)
 let mut t:=0
 let mut z:=1
 let mut lo:=0
 let mut hi:=0
 let some right ←B l|return none
 if right then
  let u:=n-l
  for _ in [0:n]do
   if z ≥ u then break
   let some more ←B (l+z)|return none
   if !more then break
   t:=z
   z:=2*z+1
  lo:=l+t+1
  hi:=l+min z u
 else
  let u:=l+1
  for _ in [0:n]do
   if z ≥ u then break
   let some G ←B (l-z)|return none
   if G then break
   t:=z
   z:=2*z+1
  lo:=l+1-min z u
  hi:=l-t
 for _ in [0:n]do
  if lo ≥ hi then break
  let m:=lo+(hi-lo) / 2
  let some more ←B m|return none
  if more then lo:=m+1 else hi:=m
 return some hi):=rfl
def wK(C:zU prog w A s κ P lt){st}(hi:base+i<arr.size)(ha:∀x,x∈arr->P x)(l:P key)(hk:kindOf st=κ)
  (h:Q (some (zm lt left key arr base i)) st):wpS (jU prog w) A E s (do
   let x ←kQ arr (base+i)
   if left=true then lt' x key else do
    let n ←lt' key x
    pure (n.map (!·))) Q st:=by
 have e:=ag hi;have u:arr.getD (base+i) key=arr[base+i]:=by simp[gj,hi]
 refine jV (qp e ?_);have t:=ha _ (bC hi);unfold zm at h;rw[u]at h;cases left with
 |true=>
  exact C.cmp t l hk h
 |false=>
  exact jV (C.cmp l t hk (jX h))
def Ds{lo}{st:SortSt}
  (mono:∀i j,i<=j->j<n->zm lt left key arr base j=true->zm lt left key arr base i=true)
  (down:∀i j,i<=j->j<n->zm lt left key arr base i=false->zm lt left key arr base j=false)
  (L:∀i l u z,u<=n->(u<=l->z (.done (none,l,u)) st)->(l<u->zm lt left key arr base (l+(u-l) / 2)=true->z (.yield (none,l+(u-l) / 2+1,u)) st) ->
   (l<u->zm lt left key arr base (l+(u-l) / 2)=false->z (.yield (none,l,l+(u-l) / 2)) st)->wpS (jU prog w) A E s (f i (none,l,u)) z st)
  (M:lo<=hi) (O:hi<=n) (Q:∀j,j<lo->zm lt left key arr base j=true) (R:∀j,hi<=j->j<n->zm lt left key arr base j=false) :
  wpS (jU prog w) A E s (forIn [:n] ((none,lo,hi):Option (Option Nat)×Nat×Nat) f)
   (λc t=>∃k,c=(none,k,k)/\t=st/\k<=n/\(∀j,j<k->zm lt left key arr base j=true)/\(∀j,k<=j->j<n->zm lt left key arr base j=false)) st:=by
 refine kF
  (I:=λi c t=>∃l u,c=(none,l,u)/\t=st/\l<=u/\u<=n/\(∀j,j<l->zm lt left key arr base j=true)/\(∀j,u<=j->j<n->zm lt left key arr base j=false)/\(u-l)+i<=n)
  ?step ?fin ⟨lo,hi,rfl,rfl,M,O,Q,R,by lia⟩
 case step=>
  rintro i c t _ S ⟨l,u,rfl,rfl,U,x,B,G,X⟩;refine L i l u _ x (λH=>?_) (λH e=>?_) (λH e=>?_)
  .have e:l=u:=by lia
   subst e;exact⟨l,rfl,rfl,x,B,G⟩
  .exact⟨_,u,rfl,rfl,by lia,x,λj J=>mono j _ ∅ ∅ e,G,by lia⟩
  .exact⟨l,_,rfl,rfl,by lia,by lia,B,λj J hn=>down _ j J hn e,by lia⟩
 case fin=>
  rintro c t ⟨l,u,rfl,rfl,U,x,B,G,X⟩;have e:l=u:=by lia
  subst e;exact⟨l,rfl,rfl,x,B,G⟩
def uX(C:zU prog w A s κ P lt){st}(hh:t<n)(hb:base+n<=arr.size)(ha:∀x,x∈arr->P x)(z:P key)(hk:kindOf st=κ)
  (mono:∀i j,i<=j->j<n->zm lt left key arr base j=true->zm lt left key arr base i=true)
  (h:∀k,k<=n->(∀j,j<k->zm lt left key arr base j=true)->(∀j,k<=j->j<n->zm lt left key arr base j=false)->Q (some k) st) :
  wpS (jU prog w) A E s (xu left key arr base n t) Q st:=by
 have down:∀i j,i<=j->j<n->zm lt left key arr base i=false->zm lt left key arr base j=false:=λi j S O e=>by
  cases q:zm lt left key arr base j with
  |false=>rfl
  |true=>rw[mono i j S O q]at e;cases e
 rw[KR];dsimp only;refine jV (wK C (base:=base) (i:=t) ∅ ha z hk ?_)
 cases er:zm lt left key arr base t with
 |true=>
  dsimp only;rw[pO rfl];refine jV (kL (kF
   (I:=λi c u=>∃l o,c=(none,l,o)/\u=st/\l<o/\i+1<=o/\t+l<n/\zm lt left key arr base (t+l)=true)
   (Q:=λc u=>∃l o,c=(none,l,o)/\u=st/\l<o/\t+l<n/\zm lt left key arr base (t+l)=true/\(n-t<=o∨(t+o<n/\zm lt left key arr base (t+o)=false)))
   ?step ?fin ⟨0,1,rfl,rfl,by lia,by lia,by lia,er⟩) ?post)
  case step=>
   rintro i c u _ U ⟨l,o,rfl,rfl,J,X,H,G⟩;dsimp only
   by_cases B:o ≥ n-t
   .rw[pO B];exact jX ⟨l,o,rfl,rfl,J,H,G,.inl B⟩
   .rw[pK B];refine jV (wK C (base:=base) (i:=t+o) ∅ ha z hk ?_)
    cases e:zm lt left key arr base (t+o)with
    |true=>
     dsimp only;rw[pK ⋯]
     exact jX ⟨o,_,rfl,rfl,by lia,by lia,by lia,e⟩
    |false=>
     dsimp only;rw[pO ⋯]
     exact jX ⟨l,o,rfl,rfl,J,H,G,.inr ⟨by lia,e⟩⟩
  case fin=>
   rintro c u ⟨l,o,rfl,rfl,J,X,H,G⟩;exact⟨l,o,rfl,rfl,J,H,G,.inl ∅⟩
  case post=>
   rintro c u ⟨l,o,rfl,rfl,J,H,G,M⟩;dsimp only;refine jV (kL (Ds (lt:=lt) (left:=left) (key:=key) (arr:=arr) (base:=base) mono down (λi L R Q' hu Y q2 q3=>?_) ∅ ∅ (λj O=>mono j _ ∅ H G) ?_) ?_)
   .dsimp only
    by_cases B:L ≥ R
    .rw[pO B];exact jX (Y B)
    .rw[pK B];refine jV (wK C (base:=base) (i:=L+(R-L) / 2) ∅ ha z hk ?_)
     cases e:zm lt left key arr base (L+(R-L) / 2)with
     |true=>
      dsimp only;rw[pO rfl];exact jX (q2 ∅ e)
     |false=>
      dsimp only;rw[pK ⋯]
      exact jX (q3 ∅ e)
   .intro j O hn;rcases M with M|⟨M,a6⟩
    .lia
    .exact down (t+o) j ∅ hn a6
   .rintro c u ⟨k,rfl,rfl,k1,k2,k3⟩;exact jX (h k k1 k2 k3)
 |false=>
  dsimp only;rw[pK ⋯]
  refine jV (kL (kF
   (I:=λi c u=>∃l o,c=(none,l,o)/\u=st/\l<o/\i+1<=o/\l<=t/\zm lt left key arr base (t-l)=false)
   (Q:=λc u=>∃l o,c=(none,l,o)/\u=st/\l<o/\l<=t/\zm lt left key arr base (t-l)=false/\(t+1<=o∨(o<=t/\zm lt left key arr base (t-o)=true)))
   ?step ?fin ⟨0,1,rfl,rfl,by lia,by lia,by lia,er⟩) ?post)
  case step=>
   rintro i c u _ U ⟨l,o,rfl,rfl,J,X,H,G⟩;dsimp only
   by_cases B:o ≥ t+1
   .rw[pO B];exact jX ⟨l,o,rfl,rfl,J,H,G,.inl B⟩
   .rw[pK B];refine jV (wK C (base:=base) (i:=t-o) ∅ ha z hk ?_)
    cases e:zm lt left key arr base (t-o)with
    |true=>
     dsimp only;rw[pO rfl];exact jX ⟨l,o,rfl,rfl,J,H,G,.inr ⟨by lia,e⟩⟩
    |false=>
     dsimp only;rw[pK ⋯]
     exact jX ⟨o,_,rfl,rfl,by lia,by lia,by lia,e⟩
  case fin=>
   rintro c u ⟨l,o,rfl,rfl,J,X,H,G⟩;exact⟨l,o,rfl,rfl,J,H,G,.inl ∅⟩
  case post=>
   rintro c u ⟨l,o,rfl,rfl,J,H,G,M⟩;dsimp only;refine jV (kL (Ds (lt:=lt) (left:=left) (key:=key) (arr:=arr) (base:=base) mono down (λi L R Q' hu Y q2 q3=>?_) ∅ ∅ ?_ (λj O hn=>down _ j O hn G)) ?_)
   .dsimp only
    by_cases B:L ≥ R
    .rw[pO B];exact jX (Y B)
    .rw[pK B];refine jV (wK C (base:=base) ∅ ha z hk ?_)
     cases e:zm lt left key arr base (L+(R-L) / 2)with
     |true=>
      exact jX (q2 ∅ e)
     |false=>
      exact jX (q3 ∅ e)
   .intro j O;rcases M with M|⟨M,a6⟩
    .lia
    .exact mono j (t-o) ∅ ∅ a6
   .rintro c u ⟨k,rfl,rfl,k1,k2,k3⟩;exact jX (h k k1 k2 k3)
end
abbrev yF(lt:jS->jS->Bool)(l:List jS):Prop:=l.Pairwise λx y=>lt y x=false
structure MI (lt:jS->jS->Bool)(a b out:Array jS)(ia ib:Nat):Prop where
 la:ia<=a.size
 lb:ib<=b.size
 pm:(out.toList++(a.toList.drop ia++b.toList.drop ib)).Perm (a.toList++b.toList)
 so:yF lt out.toList
 ua:∀x∈out.toList,∀y∈a.toList.drop ia,lt y x=false
 ub:∀x∈out.toList,∀y∈b.toList.drop ib,lt y x=false
def MI.congr(m:MI lt a b out ia ib)(e:out'.toList=out.toList):MI lt a b out' ia ib:=⟨m.la,m.lb,by rw[e];exact m.pm,by rw[e];exact m.so,by rw[e];exact m.ua,by rw[e];exact m.ub⟩
def Jm(l:List jS)i k:l.drop i=(l.drop i).take k++l.drop (i+k):=by
 rw[←List.drop_drop,aZ]
def yJ(a:Array jS)i k:(a.extract i (i+k)).toList=(a.toList.drop i).take k:=by
 rw[gL,List.extract_eq_take_drop,iD]
def MI.moreA(m:MI lt a b out ia ib)(sa:yF lt a.toList)(hk:ia+k<=a.size)(h:∀x∈(a.toList.drop ia).take k,∀y∈b.toList.drop ib,lt y x=false):MI lt a b (out++a.extract ia (ia+k)) (ia+k) ib:=by
 have e:(out++a.extract ia (ia+k)).toList=out.toList++(a.toList.drop ia).take k:=by rw[aY,yJ]
 have sd:yF lt (a.toList.drop ia):=sa.sublist (cw _ _);have c:=Jm a.toList ia k;have s:=sd;rw[c]at s;obtain⟨t,z,u⟩:=aU.mp s;refine⟨hk,m.lb,?_,?_,?_,?_⟩
 .rw[e,ae];refine(aE.append_left _ ?_).trans m.pm;rw[←ae,←c]
 .rw[e];exact aU.mpr ⟨m.so,t,λx l y n=>m.ua x l y (bQ n)⟩
 .rw[e];intro x l y n;rcases mAq.mp l with l|l
  .exact m.ua x l y (by rw[c];exact aj _ n)
  .exact u x l y n
 .rw[e];intro x l y n;rcases mAq.mp l with l|l
  .exact m.ub x l y n
  .exact h x l y n
def MI.moreB(m:MI lt a b out ia ib)(sb:yF lt b.toList)(hk:ib+k<=b.size)(h:∀x∈(b.toList.drop ib).take k,∀y∈a.toList.drop ia,lt y x=false):MI lt a b (out++b.extract ib (ib+k)) ia (ib+k):=by
 have e:(out++b.extract ib (ib+k)).toList=out.toList++(b.toList.drop ib).take k:=by rw[aY,yJ]
 have sd:yF lt (b.toList.drop ib):=sb.sublist (cw _ _);have c:=Jm b.toList ib k;have s:=sd;rw[c]at s;obtain⟨t,z,u⟩:=aU.mp s;refine⟨m.la,hk,?_,?_,?_,?_⟩
 .rw[e,ae];refine(aE.append_left _ ?_).trans m.pm;refine((gW _ _ _).trans ?_);rw[←c]
 .rw[e];exact aU.mpr ⟨m.so,t,λx l y n=>m.ub x l y (bQ n)⟩
 .rw[e];intro x l y n;rcases mAq.mp l with l|l
  .exact m.ua x l y n
  .exact h x l y n
 .rw[e];intro x l y n;rcases mAq.mp l with l|l
  .exact m.ub x l y (by rw[c];exact aj _ n)
  .exact u x l y n
def yS{l:List jS}(h:l[i]?=some x):(l.drop i).take 1=[x]:=by
 obtain⟨hi,e⟩:=gSq.mp h;rw[ax hi,e];rfl
def MI.pushA(m:MI lt a b out ia ib)(sa:yF lt a.toList)(n:a[ia]?=some x)(h:∀y∈b.toList.drop ib,lt y x=false):MI lt a b (out.push x) (ia+1) ib:=by
 have hi:=(bo.mp n).1;have l:a.toList[ia]?=some x:=by rw[au];exact n
 refine(m.moreA sa hi λz s y t=>?_).congr ?_
 .rw[yS l,mSq]at s;rw[s];exact h y t
 .rw[dR,aY,yJ,yS l]
def MI.pushB(m:MI lt a b out ia ib)(sb:yF lt b.toList)(n:b[ib]?=some x)(h:∀y∈a.toList.drop ia,lt y x=false):MI lt a b (out.push x) ia (ib+1):=by
 have hi:=(bo.mp n).1;have l:b.toList[ib]?=some x:=by rw[au];exact n
 refine(m.moreB sb hi λz s y t=>?_).congr ?_
 .rw[yS l,mSq]at s;rw[s];exact h y t
 .rw[dR,aY,yJ,yS l]
structure UX (lt:jS->jS->Bool)(a b r:Array jS):Prop where
 pm:r.toList.Perm (a.toList++b.toList)
 so:yF lt r.toList
def yk(a:Array jS)i:(a.extract i a.size).toList=a.toList.drop i:=by
 rw[gL];exact cf (by rw[aJ];exact af _)
def MI.endB(m:MI lt a b out ia ib)(sa:yF lt a.toList)(e:ib=b.size):UX lt a b (out++a.extract ia a.size++b.extract ib b.size):=by
 have l:b.toList.drop ib=[]:=by rw[e,←ar,cO]
 have n:(out++a.extract ia a.size++b.extract ib b.size).toList=out.toList++a.toList.drop ia:=by
  rw[aY,aY,yk,yk,l,aNq]
 have pm:=m.pm;rw[l,aNq]at pm;exact⟨by rw[n];exact pm,by rw[n];exact aU.mpr ⟨m.so,sa.sublist (cw _ _),m.ua⟩⟩
def MI.endA(m:MI lt a b out ia ib)(sb:yF lt b.toList)(e:ia=a.size):UX lt a b (out++a.extract ia a.size++b.extract ib b.size):=by
 have l:a.toList.drop ia=[]:=by rw[e,←ar,cO]
 have n:(out++a.extract ia a.size++b.extract ib b.size).toList=out.toList++b.toList.drop ib:=by
  rw[aY,aY,yk,yk,l,aNq]
 have pm:=m.pm;rw[l]at pm;exact⟨by rw[n];exact pm,by rw[n];exact aU.mpr ⟨m.so,sb.sublist (cw _ _),m.ub⟩⟩
def MI.lastA(m:MI lt a b out ia ib)(sa:yF lt a.toList)(sb:yF lt b.toList)(h:∀x∈b.toList.drop ib,∀y∈a.toList.drop ia,lt y x=false):UX lt a b (out++b.extract ib b.size++a.extract ia a.size):=by
 have n:(out++b.extract ib b.size++a.extract ia a.size).toList=out.toList++(b.toList.drop ib++a.toList.drop ia):=by
  rw[aY,aY,yk,yk,ae]
 refine⟨?_,?_⟩
 .rw[n];exact(aE.append_left _ aG).trans m.pm
 .rw[n];refine aU.mpr ⟨m.so,aU.mpr ⟨sb.sublist (cw _ _),sa.sublist (cw _ _),h⟩,λx s y l=>?_⟩
  rcases mAq.mp l with l|l
  .exact m.ub x s y l
  .exact m.ua x s y l
def Kk:Array jS->Array jS->StateT SortSt Sem (Array jS):=sortPriv% PySem.Builtin.mergeLo
def ug:Nat->StateT SortSt Sem Unit:=sortPriv% PySem.Builtin.setMinGallop
noncomputable abbrev sg(st:SortSt)(g:Nat):SortSt:=SortSt.mk' (kindOf st) (ki st) (lF st) g (failedOf st)
section
variable (a b:Array jS)
noncomputable abbrev dn(o:Array jS)(i j:Nat):=o++a.extract i a.size++b.extract j b.size
noncomputable abbrev lA(o:Array jS)(i j:Nat):=o++b.extract j b.size++a.extract i a.size
abbrev SF(α:Type):=ForInStep (Option (Array jS)×Array jS×Nat×Nat×α)
noncomputable def loC(o:Array jS)(i j m k l:Nat):StateT SortSt Sem (SF (Nat×Nat×Nat)):=do
 let x ←kQ a i
 if i+1+1 == a.size then pure (.done (some (lA a b (o.push x) (i+1) j),o.push x,i+1,j,m,k,l))
 else if decide (k<7) && decide (l<7)then pure (.done (none,o.push x,i+1,j,m,k,l))
 else pure (.yield (none,o.push x,i+1,j,m,k,l))
def loB(o:Array jS)(i j m k q:Nat):StateT SortSt Sem (SF (Nat×Nat×Nat)):=do
 let x ←kQ b j
 if j+1 == b.size then pure (.done (some (dn a b (o.push x) i (j+1)),o.push x,i,j+1,m,k,q))
 else do
  let y ←kQ a i
  match ←xu true y b (j+1) (b.size-(j+1)) 0 with
  |some l=>
   if l>0 then
    if j+1+l == b.size then pure (.done (some (dn a b (o.push x++b.extract (j+1) (j+1+l)) i (j+1+l)),o.push x++b.extract (j+1) (j+1+l),i,j+1+l,m,k,l))
    else loC a b (o.push x++b.extract (j+1) (j+1+l)) i (j+1+l) m k l
   else loC a b (o.push x) i (j+1) m k l
  |_=>pure (.done (some (dn a b (o.push x) i (j+1)),o.push x,i,j+1,m,k,q))
def loA(o:Array jS)(i j m p q:Nat):StateT SortSt Sem (SF (Nat×Nat×Nat)):=do
 ug m
 let x ←kQ b j
 match ←xu false x a i (a.size-i) 0 with
 |some k=>
  if k>0 then
   if i+k+1 == a.size then pure (.done (some (lA a b (o++a.extract i (i+k)) (i+k) j),o++a.extract i (i+k),i+k,j,m,k,q))
   else if i+k == a.size then pure (.done (some (dn a b (o++a.extract i (i+k)) (i+k) j),o++a.extract i (i+k),i+k,j,m,k,q))
   else loB a b (o++a.extract i (i+k)) (i+k) j m k q
  else loB a b o i j m k q
 |_=>pure (.done (some (dn a b o i j),o,i,j,m,p,q))
noncomputable def lo1(m:Nat)(o:Array jS)(i j p q:Nat):StateT SortSt Sem (SF (Nat×Nat)):=do
 let y ←kQ b j
 let x ←kQ a i
 match ←lt' y x with
 |some c=>
  if c then do
   let z ←kQ b j
   if j+1 == b.size then pure (.done (some (dn a b (o.push z) i (j+1)),o.push z,i,j+1,0,q+1))
   else if q+1 ≥ m then pure (.done (none,o.push z,i,j+1,0,q+1))
   else pure (.yield (none,o.push z,i,j+1,0,q+1))
  else do
   let z ←kQ a i
   if i+1+1 == a.size then pure (.done (some (lA a b (o.push z) (i+1) j),o.push z,i+1,j,p+1,0))
   else if p+1 ≥ m then pure (.done (none,o.push z,i+1,j,p+1,0))
   else pure (.yield (none,o.push z,i+1,j,p+1,0))
 |_=>pure (.done (some (dn a b o i j),o,i,j,p,q))
noncomputable def lo0(o:Array jS)(i j m:Nat):StateT SortSt Sem (SF Nat):=do
 let r ←forIn [0:a.size+b.size] (none,o,i,j,0,0) λ_ s=>lo1 a b m s.2.1 s.2.2.1 s.2.2.2.1 s.2.2.2.2.1 s.2.2.2.2.2
 Break.runK.match_1 (λ_=>StateT SortSt Sem (SF Nat)) r.1 (λv=>pure (.done (some v,r.2.1,r.2.2.1,r.2.2.2.1,m))) λ_=>do
  rule "list.sort.gallop"
  let r ←forIn [0:a.size+b.size] (none,r.2.1,r.2.2.1,r.2.2.2.1,m+1,r.2.2.2.2.1,r.2.2.2.2.2) λ_ s=>if s.2.2.2.2.1>1 then loA a b s.2.1 s.2.2.1 s.2.2.2.1 (s.2.2.2.2.1-1) s.2.2.2.2.2.1 s.2.2.2.2.2.2 else loA a b s.2.1 s.2.2.1 s.2.2.2.1 s.2.2.2.2.1 s.2.2.2.2.2.1 s.2.2.2.2.2.2
  Break.runK.match_1 (λ_=>StateT SortSt Sem (SF Nat)) r.1 (λv=>pure (.done (some v,r.2.1,r.2.2.1,r.2.2.2.1,r.2.2.2.2.1))) λ_=>do
   ug (r.2.2.2.2.1+1)
   pure (.yield (none,r.2.1,r.2.2.1,r.2.2.2.1,r.2.2.2.2.1+1))
end
section
variable {E:Ψ}
def yw{st}(h:Q () (sg st g)):wpS (jU prog w) A E s (ug g) Q st:=by
 exact lO h
def yc{st}(h:Q () st):wpS (jU prog w) A E s (liftM (rule x):StateT SortSt Sem Unit) Q st:=wpS_lift (nW ⟨rfl,h⟩)
def D0(C:zU prog w A s κ P lt){a:Array jS}(ha:∀x,x∈a->P x)(sa:yF lt a.toList)(t:a[i]?=some x):∀y∈a.toList.drop i,lt y x=false:=by
 obtain⟨hi,e⟩:=bo.mp t;have l:=by simpa using hi
 have u:a.toList[i]=x:=by simpa using e
 have sd:yF lt (a.toList.drop i):=sa.sublist (cw _ _);rw[ax l,u]at sd ⊢;intro y n;rcases aa.mp n with rfl|n
 .exact C.refl (ha _ (by rw[←e];exact bC hi))
 .exact(fh.mp sd).1 y n
def wz{a:Array jS}(h:y∈a.toList.drop i):y∈a:=by simpa using bE h
def BN(C:zU prog w A s κ P lt)(hb:base+n<=arr.size)(ha:∀x,x∈arr->P x)(l:P key)(so:yF lt (arr.toList.drop base)) :
  ∀i j,i<=j->j<n->zm lt left key arr base j=true->zm lt left key arr base i=true:=by
 intro i j z L h;have t:base+i<arr.size:=by lia
 have u:base+j<arr.size:=by lia
 have H:arr.getD (base+i) key=arr[base+i]:=by simp[gj,t]
 have I:arr.getD (base+j) key=arr[base+j]:=by simp[gj,u]
 have B:=ha _ (bC t);have G:=ha _ (bC u);have le:lt arr[base+j] arr[base+i]=false:=by
  rcases fU z with q|q
  .have:=cc.mp so i j (by simp;lia) (by simp;lia) q
   simpa using this
  .subst q;exact C.refl B
 unfold zm at h ⊢;rw[H];rw[I]at h;cases left with
 |true=>
  rw[pO rfl]at h ⊢;cases q:lt arr[base+i] key with
  |true=>rfl
  |false=>
   have:=C.trans key arr[base+i] arr[base+j] l B G q le;rw[h]at this;cases this
 |false=>
  have J:=by simpa using h
  have:=C.trans arr[base+i] arr[base+j] key B G l le J;simp[this]
def uF(l:arr[base+i]?=some x):zm lt left key arr base i=if left then lt x key else !lt key x:=by
 obtain⟨hi,e⟩:=bo.mp l;unfold zm;have n:arr.getD (base+i) key=x:=by simp[gj,hi,e]
 rw[n]
def xE{a:Array jS}(h:x∈(a.toList.drop i).take k):∃j,j<k/\a[i+j]?=some x:=by
 obtain⟨j,l,e⟩:=cZ.mp h;rw[lTq]at l;refine⟨j,by lia,?_⟩
 rw[bo];have hs:i+j<a.size:=by
  rw[aJ,ar]at l;lia
 exact⟨hs,by simpa using e⟩
def zW{a:Array jS}(h:x∈a.toList.drop i):∃j,i+j<a.size/\a[i+j]?=some x:=by
 obtain⟨j,l,e⟩:=cZ.mp h;rw[aJ,ar]at l;have hs:i+j<a.size:=by lia
 refine⟨j,hs,?_⟩;rw[bo];exact⟨hs,by simpa using e⟩
inductive Lp {ρ τ ι σ:Type}(t:ι->τ)(v:ι->σ)(J K:ι->Prop)(R:ρ->σ->Prop):ForInStep (Option ρ×τ)->σ->Prop
 |y (x):J x->Lp t v J K R (.yield (none,t x)) (v x)
 |d (x):K x->Lp t v J K R (.done (none,t x)) (v x)
 |r (a y st):R a st->Lp t v J K R (.done (some a,y)) st
def xU{M}t v(J:Nat->ι->Prop)K R{f}{k:Option ρ×τ->StateT σ Sem β}{Q}
  x (h:J 0 x) (step:∀i x,J i x->wpS M A E s (f i (none,t x)) (Lp t v (J (i+1)) K R) (v x)) (fin:∀x,J n x->K x) (pn:∀x,K x->wpS M A E s (k (none,t x)) Q (v x)) (ps:∀r y st,R r st->wpS M A E s (k (some r,y)) Q st) :
  wpS M A E s (forIn [0:n] (none,t x) f >>= k) Q (v x):=by
 refine jV (kL (kF (I:=λi c st=>∃x,c=(none,t x)/\st=v x/\J i x) (Q:=λc st=>Lp t v K K R (.done c) st) ?_ ?_ ⟨x,rfl,rfl,h⟩) ?_)
 .rintro i c st _ _ ⟨x,rfl,rfl,h⟩;refine kL (step i x h) λr l hr=>?_
  cases hr with
  |y x h=>exact⟨x,rfl,rfl,h⟩
  |d x h=>exact .d x h
  |r a y st h=>exact .r a y _ h
 .rintro c st ⟨x,rfl,rfl,h⟩;exact .d x (fin x h)
 .rintro c st h;cases h with
  |d x h=>exact pn x h
  |r a y st h=>exact ps a y _ h
structure Ls where
 o:Array jS
 (i j m p q g:Nat)
structure ML (lt:jS->jS->Bool)(a b:Array jS)(n:Nat)(x:Ls):Prop where
 m:MI lt a b x.o x.i x.j
 p:x.i+1<a.size
 q:x.j<b.size
 r:n<=x.i+x.j
structure Lo (prog:jZ)(w:ke)(A:Around)(s:Shared)(κ:kG)(P:jS->Prop)(lt:jS->jS->Bool)(a b:Array jS)(st:SortSt)(Q:Array jS->SortSt->Prop):Prop where
 C:zU prog w A s κ P lt
 ha:∀x,x∈a->P x
 hb:∀x,x∈b->P x
 hk:kindOf st=κ
 sa:yF lt a.toList
 sb:yF lt b.toList
 h:∀r g,UX lt a b r->Q r (sg st g)
noncomputable abbrev L6(x:Ls):=(x.o,x.i,x.j,x.m,x.p,x.q)
noncomputable abbrev L5(x:Ls):=(x.o,x.i,x.j,x.p,x.q)
noncomputable abbrev L4(x:Ls):=(x.o,x.i,x.j,x.m)
variable {st:SortSt}
abbrev Hl(lt:jS->jS->Bool)(a b:Array jS):=∀i,i+1=a.size->∀x∈b.toList,∀y∈a.toList.drop i,lt y x=false
def RX(H:Lo prog w A s κ P lt a b st Q)(hl:Hl lt a b)(q:ML lt a b n x)(hi:∀z,a[x.i]?=some z->∀y∈b.toList.drop x.j,lt y z=false) :
  wpS (jU prog w) A E s (loC a b x.o x.i x.j x.m x.p x.q) (Lp L6 (λx=>sg st x.g) (ML lt a b n) (ML lt a b n) Q) (sg st x.g):=by
 have G:=q.p;have l:a[x.i]?=some a[x.i]:=ag ∅
 refine jV (qp l ?_);have u:=q.m.pushA H.sa l (hi _ l)
 by_cases t:x.i+1+1=a.size
 .rw[pO (by simp[t])]
  exact jX (.r _ _ _ (H.h _ _ (u.lastA H.sa H.sb λy B=>hl _ t y (bE B))))
 rw[pK (by simpa using t)]
 have R:ML lt a b n ⟨_,_,_,x.m,x.p,x.q,x.g⟩:=⟨u,by lia,q.q,by have:=q.r;dsimp only;lia⟩
 split
 .exact jX (.d _ R)
 .exact jX (.y _ R)
def T6(H:Lo prog w A s κ P lt a b st Q)(hl:Hl lt a b)(q:ML lt a b n x)(hi:∀z,b[x.j]?=some z->∀y∈a.toList.drop x.i,lt y z=false) :
  wpS (jU prog w) A E s (loB a b x.o x.i x.j x.m x.p x.q) (Lp L6 (λx=>sg st x.g) (ML lt a b n) (ML lt a b n) Q) (sg st x.g):=by
 have R:=q.p;have p2:=q.q;have p3:=q.r;have G:b[x.j]?=some b[x.j]:=ag p2;refine jV (qp G ?_);have I:=q.m.pushB H.sb G (hi _ G)
 by_cases J:x.j+1=b.size
 .rw[pO (by simp[J])]
  exact jX (.r _ _ _ (H.h _ _ (I.endB H.sa J)))
 rw[pK (by simpa using J)]
 have L:a[x.i]?=some a[x.i]:=ag ∅
 have u:=H.ha _ (bC (show x.i<a.size by lia))
 refine jV (qp L (jV (uX H.C (base:=x.j+1) (n:=b.size-(x.j+1)) ∅ ∅ H.hb u H.hk (BN H.C ∅ H.hb u (H.sb.sublist (cw _ _))) λl l1 l2 l3=>?_)))
 have S:∀z,a[x.i]?=some z->∀y∈b.toList.drop (x.j+1+l),lt y z=false:=λz U y B=>by
  obtain⟨M,t,ey⟩:=zW B;have q:=l3 (l+M) ∅ ∅
  rw[uF (by rw[←gC];exact ey),pO rfl]at q
  rw[L]at U;cases U;exact q
 dsimp only
 by_cases cl:l>0
 .rw[pO cl];have X:=I.moreB H.sb (k:=l) ∅ λx Y y B=>by
   obtain⟨M,t,ex⟩:=xE Y;have q:=l2 M t;rw[uF ex,pO rfl]at q;have px:=H.hb x (bQ Y |> wz);exact H.C.trans _ _ _ px u (H.ha _ (wz B)) (H.C.asym _ _ px u q) (D0 H.C H.ha H.sa L y B)
  by_cases O:x.j+1+l=b.size
  .rw[pO (by simp[O])]
   exact jX (.r _ _ _ (H.h _ _ (X.endB H.sa O)))
  rw[pK (by simpa using O)]
  exact RX H hl (x:=⟨_,_,_,_,_,_,x.g⟩) ⟨X,R,by dsimp only;lia,by dsimp only;lia⟩ S
 .rw[pK cl];exact RX H hl (x:=⟨_,_,_,_,_,_,x.g⟩) ⟨I,R,by lia,by lia⟩ (by rw[show x.j+1=x.j+1+l by lia];exact S)
def Ud(H:Lo prog w A s κ P lt a b st Q)(hl:Hl lt a b)(q:ML lt a b n x) :
  wpS (jU prog w) A E s (loA a b x.o x.i x.j x.m x.p x.q) (Lp L6 (λx=>sg st x.g) (ML lt a b n) (ML lt a b n) Q) (sg st x.g):=by
 have U:=q.p;have u:=q.q;have X:=q.r;have I:b[x.j]?=some b[x.j]:=ag u;have B:=H.hb _ (bC u);refine jV (yw (jV (qp I (jV (uX H.C (base:=x.i) (n:=a.size-x.i) ∅ ∅ H.ha B H.hk (BN H.C ∅ H.ha B (H.sa.sublist (cw _ _))) λk k1 Y k3=>?_)))))
 have R:∀z,b[x.j]?=some z->∀y∈a.toList.drop (x.i+k),lt y z=false:=λz S y l=>by
  obtain⟨J,t,ey⟩:=zW l;have q:=k3 (k+J) ∅ ∅
  rw[uF (by rw[←gC];exact ey),pK ⋯]at q
  rw[I]at S;cases S;exact H.C.asym _ _ B (H.ha _ (wz l)) (by simpa using q)
 dsimp only
 by_cases ck:k>0
 .rw[pO ck];have L:=q.m.moreA H.sa (k:=k) ∅ λx G y l=>by
   obtain⟨J,t,ex⟩:=xE G;have q:=Y J t;rw[uF ex,pK ⋯]at q
   exact H.C.trans _ _ _ (H.ha x (bQ G |> wz)) B (H.hb _ (wz l)) (by simpa using q) (D0 H.C H.hb H.sb I y l)
  by_cases M:x.i+k+1=a.size
  .rw[pO (by simp[M])]
   exact jX (.r _ _ _ (H.h _ x.m (L.lastA H.sa H.sb λx G=>hl _ M x (bE G))))
  rw[pK (by simpa using M)]
  by_cases O:x.i+k=a.size
  .rw[pO (by simp[O])]
   exact jX (.r _ _ _ (H.h _ x.m (L.endA H.sb O)))
  rw[pK (by simpa using O)]
  exact T6 H hl (x:=⟨_,_,_,_,_,_,x.m⟩) ⟨L,by dsimp only;lia,u,by dsimp only;lia⟩ R
 .rw[pK ck];exact T6 H hl (x:=⟨_,_,_,_,_,_,x.m⟩) ⟨q.m,U,u,X⟩ (by rw[show x.i=x.i+k by lia];exact R)
def Z0(H:Lo prog w A s κ P lt a b st Q)(hl:Hl lt a b)(q:ML lt a b (n+j) x) :
  wpS (jU prog w) A E s (lo1 a b m x.o x.i x.j x.p x.q) (Lp L5 (λx=>sg st x.g) (ML lt a b (n+(j+1))) (ML lt a b (n+1)) Q) (sg st x.g):=by
 have M:=q.p;have L:=q.q;have S:=q.r;have B:a[x.i]?=some a[x.i]:=ag ∅
 have G:b[x.j]?=some b[x.j]:=ag L;have I:=H.ha _ (bC (show x.i<a.size by lia))
 have J:=H.hb _ (bC L);refine jV (qp G (jV (qp B (jV (H.C.cmp J I H.hk ?_)))));cases e:lt b[x.j] a[x.i]with
 |true=>
  dsimp only;rw[pO rfl];refine jV (qp G ?_);have t:=q.m.pushB H.sb G λz u=>H.C.trans _ _ _ J I (H.ha _ (wz u)) (H.C.asym _ _ J I e) (D0 H.C H.ha H.sa B z u)
  by_cases l:x.j+1=b.size
  .rw[pO (by simp[l])]
   exact jX (.r _ _ _ (H.h _ _ (t.endB H.sa l)))
  rw[pK (by simpa using l)]
  have R:∀n,n<=x.i+(x.j+1)->ML lt a b n ⟨_,_,_,0,0,x.q+1,x.g⟩:=λn hn=>⟨t,M,by lia,hn⟩
  split
  .exact jX (.d _ (R _ ∅))
  .exact jX (.y _ (R _ ∅))
 |false=>
  refine jV (qp B ?_);have t:=q.m.pushA H.sa B λz u=>H.C.trans _ _ _ I J (H.hb _ (wz u)) e (D0 H.C H.hb H.sb G z u)
  by_cases l:x.i+1+1=a.size
  .rw[pO (by simp[l])]
   exact jX (.r _ _ _ (H.h _ _ (t.lastA H.sa H.sb λx O=>hl _ l x (bE O))))
  rw[pK (by simpa using l)]
  have R:∀n,n<=x.i+1+x.j->ML lt a b n ⟨_,_,_,0,x.p+1,0,x.g⟩:=λn hn=>⟨t,by lia,L,hn⟩
  split
  .exact jX (.d _ (R _ ∅))
  .exact jX (.y _ (R _ ∅))
def ZZ(H:Lo prog w A s κ P lt a b st Q)(hl:Hl lt a b)(q:ML lt a b n x) :
  wpS (jU prog w) A E s (lo0 a b x.o x.i x.j x.m) (Lp L4 (λx=>sg st x.g) (ML lt a b (n+1)) (λ_=>False) Q) (sg st x.g):=by
 refine xU L5 (λx=>sg st x.g) (λj=>ML lt a b (n+j)) (ML lt a b (n+1)) Q ⟨x.o,x.i,x.j,0,0,0,x.g⟩ ⟨q.m,q.p,q.q,q.r⟩ (λj x q=>Z0 H hl q) (λy h=>⟨h.m,h.p,h.q,by have:=h.r;have:=h.p;have:=h.q;lia⟩) (λy q=>?_) λr y l hr=>jX (.r _ _ _ hr)
 refine jV (yc ?_);refine xU L6 (λx=>sg st x.g) (λ_=>ML lt a b (n+1)) (ML lt a b (n+1)) Q ⟨y.o,y.i,y.j,x.m+1,y.p,y.q,y.g⟩ ⟨q.m,q.p,q.q,q.r⟩ (λj z q=>?_) (λ_ h=>h) (λz q=>?_) λr y l hr=>jX (.r _ _ _ hr)
 .dsimp only;split
  .exact Ud H hl (x:=⟨_,_,_,z.m-1,_,_,z.g⟩) ⟨q.m,q.p,q.q,q.r⟩
  .exact Ud H hl q
 .refine jV (yw (jX ?_));exact Lp.y (t:=L4) ⟨_,_,_,z.m+1,0,0,z.m+1⟩ ⟨q.m,q.p,q.q,q.r⟩
def JH(C:zU prog w A s κ P lt)(ha:∀x,x∈a->P x)(hb:∀x,x∈b->P x)(hk:kindOf st=κ)(sa:yF lt a.toList)(sb:yF lt b.toList)
  (M:0<a.size) (B:0<b.size) (G:∀x,b[0]?=some x->∀y∈a.toList,lt y x=false) (hl:∀i,i+1=a.size->∀x∈b.toList,∀y∈a.toList.drop i,lt y x=false)
  (h:∀r g,UX lt a b r->Q r (sg st g)):wpS (jU prog w) A E s (Kk a b) Q st:=by
 refine jV (yc ?_);have l:=ag B;refine jV (qp l ?_);have H:MI lt a b #[] 0 0:=⟨aX _,aX _,by simp,by simp[yF],by simp,by simp⟩
 have t:=H.pushB sb l λy I=>G _ l y (by simpa using I)
 by_cases u:1=b.size
 .rw[pO (by simp[←u])]
  exact jX (h _ (nh st) (t.endB sa u))
 rw[pK (by simpa using u)]
 by_cases z:0+1=a.size
 .rw[pO (by simp[←z])]
  exact jX (h _ (nh st) (t.lastA sa sb λx J=>hl 0 z x (bE J)))
 rw[pK (by simpa using z)]
 refine jV (lY ?_);exact xU L4 (λx=>sg st x.g) (λi=>ML lt a b (i+1)) (λ_=>False) Q ⟨_,0,1,_,0,0,nh st⟩ ⟨t,by lia,by lia,by lia⟩ (λi x q=>ZZ ⟨C,ha,hb,hk,sa,sb,h⟩ hl q) (λx h=>by have:=h.p;have:=h.q;have:=h.r;lia) (λx h=>h.elim) λr y L hr=>jX hr
end
structure MH (lt:jS->jS->Bool)(a b out:Array jS)(na nb:Nat):Prop where
 la:na<=a.size
 lb:nb<=b.size
 pm:((a.toList.take na++b.toList.take nb)++out.toList.reverse).Perm (a.toList++b.toList)
 so:yF lt out.toList.reverse
 ua:∀x∈a.toList.take na,∀y∈out.toList,lt y x=false
 ub:∀x∈b.toList.take nb,∀y∈out.toList,lt y x=false
def MH.congr(m:MH lt a b out na nb)(e:out'.toList=out.toList):MH lt a b out' na nb:=⟨m.la,m.lb,by rw[e];exact m.pm,by rw[e];exact m.so,by rw[e];exact m.ua,by rw[e];exact m.ub⟩
def B5(l:List jS)k n(h:k<=n):l.take n=l.take k++(l.take n).drop k:=by
 have e:(l.take n).take k=l.take k:=by rw[List.take_take,fm h]
 rw[←e,aZ]
def rP(a:Array jS)k n:(a.extract k n).toList=(a.toList.take n).drop k:=by
 rw[gL,List.drop_take]
def Cp(a:Array jS)n:(a.extract 0 n).toList=a.toList.take n:=by
 rw[rP,gX]
def MH.moreA(m:MH lt a b out na nb)(sa:yF lt a.toList)(hk:k<=na)(h:∀x∈b.toList.take nb,∀y∈(a.toList.take na).drop k,lt y x=false):MH lt a b (out++(a.extract k na).reverse) k nb:=by
 have e:(out++(a.extract k na).reverse).toList=out.toList++((a.toList.take na).drop k).reverse:=by rw[aY,dJ,rP]
 have t:(out++(a.extract k na).reverse).toList.reverse=(a.toList.take na).drop k++out.toList.reverse:=by rw[e,dg,gM]
 have c:=B5 a.toList k na hk;have sd:yF lt (a.toList.take na):=sa.sublist (bB _ _);have s:=sd;rw[c]at s;obtain⟨B,u,z⟩:=aU.mp s;have sub:∀y,y∈(a.toList.take na).drop k->y∈a.toList.take na:=λy l=>bE l
 refine⟨cz hk m.la,m.lb,?_,?_,?_,?_⟩
 .rw[t];refine aE.trans ?_ m.pm;rw[←ae];refine aE.append_right _ ?_
  conv=>rhs;rw[c]
  rw[ae,ae];exact aE.append_left _ aG
 .rw[t];exact aU.mpr ⟨u,m.so,λx n y l=>m.ua x (sub x n) y (bz.mp l)⟩
 .rw[e];intro x n y l;rcases mAq.mp l with l|l
  .exact m.ua x (by rw[c];exact ao _ n) y l
  .exact z x n y (bz.mp l)
 .rw[e];intro x n y l;rcases mAq.mp l with l|l
  .exact m.ub x n y l
  .exact h x n y (bz.mp l)
def MH.moreB(m:MH lt a b out na nb)(sb:yF lt b.toList)(hk:k<=nb)(h:∀x∈a.toList.take na,∀y∈(b.toList.take nb).drop k,lt y x=false):MH lt a b (out++(b.extract k nb).reverse) na k:=by
 have e:(out++(b.extract k nb).reverse).toList=out.toList++((b.toList.take nb).drop k).reverse:=by rw[aY,dJ,rP]
 have t:(out++(b.extract k nb).reverse).toList.reverse=(b.toList.take nb).drop k++out.toList.reverse:=by rw[e,dg,gM]
 have c:=B5 b.toList k nb hk;have sd:yF lt (b.toList.take nb):=sb.sublist (bB _ _);have s:=sd;rw[c]at s;obtain⟨B,u,z⟩:=aU.mp s;have sub:∀y,y∈(b.toList.take nb).drop k->y∈b.toList.take nb:=λy l=>bE l
 refine⟨m.la,cz hk m.lb,?_,?_,?_,?_⟩
 .rw[t];refine aE.trans ?_ m.pm;rw[←ae];refine aE.append_right _ ?_
  conv=>rhs;rw[c]
  rw[ae]
 .rw[t];exact aU.mpr ⟨u,m.so,λx n y l=>m.ub x (sub x n) y (bz.mp l)⟩
 .rw[e];intro x n y l;rcases mAq.mp l with l|l
  .exact m.ua x n y l
  .exact h x n y (bz.mp l)
 .rw[e];intro x n y l;rcases mAq.mp l with l|l
  .exact m.ub x (by rw[c];exact ao _ n) y l
  .exact z x n y (bz.mp l)
def yY{l:List jS}(h:l[i]?=some x):(l.take (i+1)).drop i=[x]:=by
 rw[bG,h,List.drop_append];have hl:(l.take i).length=i:=by
  have:=(gSq.mp h).1;rw[lTq];lia
 rw[gn ∅,hl,dA]
 rfl
def MH.pushA(m:MH lt a b out (na+1) nb)(sa:yF lt a.toList)(s:a[na]?=some x)(h:∀y∈b.toList.take nb,lt x y=false):MH lt a b (out.push x) na nb:=by
 have l:a.toList[na]?=some x:=by rw[au];exact s
 refine(m.moreA sa (bP _) λz t y n=>?_).congr ?_
 .rw[yY l,mSq]at n;rw[n];exact h z t
 .rw[dR,aY,dJ,rP,yY l];rfl
def MH.pushB(m:MH lt a b out na (nb+1))(sb:yF lt b.toList)(s:b[nb]?=some x)(h:∀y∈a.toList.take na,lt x y=false):MH lt a b (out.push x) na nb:=by
 have l:b.toList[nb]?=some x:=by rw[au];exact s
 refine(m.moreB sb (bP _) λz t y n=>?_).congr ?_
 .rw[yY l,mSq]at n;rw[n];exact h z t
 .rw[dR,aY,dJ,rP,yY l];rfl
def MH.end(m:MH lt a b out na nb)(sa:yF lt a.toList)(sb:yF lt b.toList)(e:na=0∨nb=0):UX lt a b (a.extract 0 na++b.extract 0 nb++out.reverse):=by
 have n:(a.extract 0 na++b.extract 0 nb++out.reverse).toList=(a.toList.take na++b.toList.take nb)++out.toList.reverse:=by
  rw[aY,aY,Cp,Cp,dJ]
 refine⟨by rw[n];exact m.pm,?_⟩
 rw[n];refine aU.mpr ⟨?_,m.so,λx l y s=>?_⟩
 .rcases e with rfl|rfl
  .exact sb.sublist (bB _ _)
  .rw[jy,aNq];exact sa.sublist (bB _ _)
 .rcases mAq.mp l with l|l
  .exact m.ua x l y (bz.mp s)
  .exact m.ub x l y (bz.mp s)
def MH.firstB(m:MH lt a b out na nb)(sa:yF lt a.toList)(sb:yF lt b.toList)(h:∀x∈b.toList.take nb,∀y∈a.toList.take na,lt y x=false):UX lt a b (b.extract 0 nb++a.extract 0 na++out.reverse):=by
 have n:(b.extract 0 nb++a.extract 0 na++out.reverse).toList=(b.toList.take nb++a.toList.take na)++out.toList.reverse:=by
  rw[aY,aY,Cp,Cp,dJ]
 refine⟨?_,?_⟩
 .rw[n];exact(aE.append_right _ aG).trans m.pm
 .rw[n];refine aU.mpr ⟨aU.mpr ⟨sb.sublist (bB _ _),sa.sublist (bB _ _),h⟩,m.so,λx l y s=>?_⟩
  rcases mAq.mp l with l|l
  .exact m.ub x l y (bz.mp s)
  .exact m.ua x l y (bz.mp s)
def EI:Array jS->Array jS->StateT SortSt Sem (Array jS):=sortPriv% PySem.Builtin.mergeHi
section
variable (a b:Array jS)
noncomputable abbrev dH(o:Array jS)(i j:Nat):=a.extract 0 i++b.extract 0 j++o.reverse
noncomputable abbrev fH(o:Array jS)(i j:Nat):=b.extract 0 j++a.extract 0 i++o.reverse
abbrev SH(α:Type):=ForInStep (Option (Array jS)×Nat×Nat×Array jS×α)
noncomputable def hiC(o:Array jS)(i j m k l:Nat):StateT SortSt Sem (SH (Nat×Nat×Nat)):=do
 let x ←kQ a (i-1)
 if i-1 == 0 then pure (.done (some (dH a b (o.push x) (i-1) j),i-1,j,o.push x,m,k,l))
 else if decide (k<7) && decide (l<7)then pure (.done (none,i-1,j,o.push x,m,k,l))
 else pure (.yield (none,i-1,j,o.push x,m,k,l))
def hiB(o:Array jS)(i j m k q:Nat):StateT SortSt Sem (SH (Nat×Nat×Nat)):=do
 let x ←kQ b (j-1)
 if j-1 == 1 then pure (.done (some (fH a b (o.push x) i (j-1)),i,j-1,o.push x,m,k,q))
 else do
  let y ←kQ a (i-1)
  match ←xu true y b 0 (j-1) (j-1-1)with
  |some l=>
   if j-1-l>0 then
    if l == 1 then pure (.done (some (fH a b (o.push x++(b.extract l (j-1)).reverse) i l),i,l,o.push x++(b.extract l (j-1)).reverse,m,k,j-1-l))
    else if l == 0 then pure (.done (some (dH a b (o.push x++(b.extract l (j-1)).reverse) i l),i,l,o.push x++(b.extract l (j-1)).reverse,m,k,j-1-l))
    else hiC a b (o.push x++(b.extract l (j-1)).reverse) i l m k (j-1-l)
   else hiC a b (o.push x) i (j-1) m k (j-1-l)
  |_=>pure (.done (some (dH a b (o.push x) i (j-1)),i,j-1,o.push x,m,k,q))
def hiA(o:Array jS)(i j m p q:Nat):StateT SortSt Sem (SH (Nat×Nat×Nat)):=do
 ug m
 let x ←kQ b (j-1)
 match ←xu false x a 0 i (i-1)with
 |some k=>
  if i-k>0 then
   if k == 0 then pure (.done (some (dH a b (o++(a.extract k i).reverse) k j),k,j,o++(a.extract k i).reverse,m,i-k,q))
   else hiB a b (o++(a.extract k i).reverse) k j m (i-k) q
  else hiB a b o i j m (i-k) q
 |_=>pure (.done (some (dH a b o i j),i,j,o,m,p,q))
noncomputable def Jk(m:Nat)(o:Array jS)(i j p q:Nat):StateT SortSt Sem (SH (Nat×Nat)):=do
 let y ←kQ b (j-1)
 let x ←kQ a (i-1)
 match ←lt' y x with
 |some c=>
  if c then do
   let z ←kQ a (i-1)
   if i-1 == 0 then pure (.done (some (dH a b (o.push z) (i-1) j),i-1,j,o.push z,p+1,0))
   else if p+1 ≥ m then pure (.done (none,i-1,j,o.push z,p+1,0))
   else pure (.yield (none,i-1,j,o.push z,p+1,0))
  else do
   let z ←kQ b (j-1)
   if j-1 == 1 then pure (.done (some (fH a b (o.push z) i (j-1)),i,j-1,o.push z,0,q+1))
   else if q+1 ≥ m then pure (.done (none,i,j-1,o.push z,0,q+1))
   else pure (.yield (none,i,j-1,o.push z,0,q+1))
 |_=>pure (.done (some (dH a b o i j),i,j,o,p,q))
def hi0(o:Array jS)(i j m:Nat):StateT SortSt Sem (SH Nat):=do
 let r ←forIn [0:a.size+b.size] (none,i,j,o,0,0) λ_ s=>Jk a b m s.2.2.2.1 s.2.1 s.2.2.1 s.2.2.2.2.1 s.2.2.2.2.2
 Break.runK.match_1 (λ_=>StateT SortSt Sem (SH Nat)) r.1 (λv=>pure (.done (some v,r.2.1,r.2.2.1,r.2.2.2.1,m))) λ_=>do
  rule "list.sort.gallop"
  let r ←forIn [0:a.size+b.size] (none,r.2.1,r.2.2.1,r.2.2.2.1,m+1,r.2.2.2.2.1,r.2.2.2.2.2) λ_ s=>if s.2.2.2.2.1>1 then hiA a b s.2.2.2.1 s.2.1 s.2.2.1 (s.2.2.2.2.1-1) s.2.2.2.2.2.1 s.2.2.2.2.2.2 else hiA a b s.2.2.2.1 s.2.1 s.2.2.1 s.2.2.2.2.1 s.2.2.2.2.2.1 s.2.2.2.2.2.2
  Break.runK.match_1 (λ_=>StateT SortSt Sem (SH Nat)) r.1 (λv=>pure (.done (some v,r.2.1,r.2.2.1,r.2.2.2.1,r.2.2.2.2.1))) λ_=>do
   ug (r.2.2.2.2.1+1)
   pure (.yield (none,r.2.1,r.2.2.1,r.2.2.2.1,r.2.2.2.2.1+1))
def Ks:EI a b=(do
 rule "list.sort.merge-hi"
 let x ←kQ a (a.size-1)
 if a.size-1 == 0 then pure (dH a b #[x] (a.size-1) b.size)
 else if b.size == 1 then pure (fH a b #[x] (a.size-1) b.size)
 else do
  let st ←get
  let r ←forIn [0:a.size+b.size] (none,a.size-1,b.size,#[x],nh st) λ_ s=>hi0 a b s.2.2.2.1 s.2.1 s.2.2.1 s.2.2.2.2
  Break.runK.match_1 (λ_=>StateT SortSt Sem (Array jS)) r.1 (λv=>pure v) λ_=>mz "internal:list.sort.merge-bound"):=rfl
end
section
variable {E:Ψ}
def D7(C:zU prog w A s κ P lt){a:Array jS}(ha:∀x,x∈a->P x)(sa:yF lt a.toList)(t:a[i]?=some x):∀y∈a.toList.take (i+1),lt x y=false:=by
 obtain⟨hi,e⟩:=bo.mp t;have n:a.toList[i]?=some x:=by rw[au];exact t
 have sd:yF lt (a.toList.take (i+1)):=sa.sublist (bB _ _);rw[bG,n]at sd ⊢;intro y l;rcases mAq.mp l with l|l
 .exact(aU.mp sd).2.2 y l x ⋯
 .have:y=x:=by simpa using l
  rw[this];exact C.refl (ha _ (by rw[←e];exact bC hi))
def wt{a:Array jS}(h:y∈a.toList.take i):y∈a:=by simpa using bQ h
def zQ{a:Array jS}(h:x∈a.toList.take n):∃j,j<n/\a[0+j]?=some x:=by
 have l:=by exact h
 exact xE l
def wJ{a:Array jS}(h:x∈(a.toList.take n).drop k):∃j,k<=j/\j<n/\a[0+j]?=some x:=by
 obtain⟨j,l,e⟩:=cZ.mp h;rw[aJ,lTq,ar]at l;refine⟨k+j,by lia,by lia,?_⟩
 rw[bo];exact⟨by lia,by simpa using e⟩
structure MG (lt:jS->jS->Bool)(a b:Array jS)(n:Nat)(x:Ls):Prop where
 m:MH lt a b x.o x.i x.j
 p:0<x.i
 q:1<x.j
 r:x.i+x.j+n<=a.size+b.size
noncomputable abbrev H6(x:Ls):=(x.i,x.j,x.o,x.m,x.p,x.q)
noncomputable abbrev H5(x:Ls):=(x.i,x.j,x.o,x.p,x.q)
noncomputable abbrev H4(x:Ls):=(x.i,x.j,x.o,x.m)
variable {st:SortSt}
abbrev Hf(lt:jS->jS->Bool)(a b:Array jS):=∀x∈b.toList.take 1,∀y∈a.toList,lt y x=false
def hiF(H:Lo prog w A s κ P lt a b st Q)(t:Hf lt a b)(m:MH lt a b o i 1):Q (b.extract 0 1++a.extract 0 i++o.reverse) (sg st g):=H.h _ _ (m.firstB H.sa H.sb λx z y B=>t x z y (bQ B))
def Tt(H:Lo prog w A s κ P lt a b st Q)(q:MG lt a b n ⟨o,u+1,j,m,k,l,g⟩)(hi:∀z,a[u]?=some z->∀y∈b.toList.take j,lt z y=false) :
  wpS (jU prog w) A E s (hiC a b o (u+1) j m k l) (Lp H6 (λx=>sg st x.g) (MG lt a b n) (MG lt a b n) Q) (sg st g):=by
 have B:=ag q.m.la;refine jV (qp B ?_);have G:=q.m.pushA H.sa B (hi _ B)
 by_cases t:u=0
 .rw[pO (by simp[t])]
  exact jX (.r _ _ _ (H.h _ _ (G.end H.sa H.sb (.inl t))))
 rw[pK (by simpa using t)]
 have R:MG lt a b n ⟨_,_,_,m,k,l,g⟩:=⟨G,fW t,q.q,by have:=q.r;dsimp only at *;lia⟩
 split
 .exact jX (.d _ R)
 .exact jX (.y _ R)
def Rp(H:Lo prog w A s κ P lt a b st Q)(hf:Hf lt a b)(q:MG lt a b n ⟨o,u+1,v+1,m,k,l,g⟩)(hi:∀z,b[v]?=some z->∀y∈a.toList.take (u+1),lt z y=false) :
  wpS (jU prog w) A E s (hiB a b o (u+1) (v+1) m k l) (Lp H6 (λx=>sg st x.g) (MG lt a b n) (MG lt a b n) Q) (sg st g):=by
 dsimp only[hiB,gT];have la:u<a.size:=q.m.la;have lb:v<b.size:=q.m.lb;have p2:1<v+1:=q.q;have p3:u+1+(v+1)+n<=a.size+b.size:=q.r;have I:b[v]?=some b[v]:=ag lb;refine jV (qp I ?_);have J:=q.m.pushB H.sb I (hi _ I)
 by_cases L:v=1
 .rw[pO (by simp[L])]
  subst L;exact jX (.r _ _ _ (hiF H hf J))
 rw[pK (by simpa using L)]
 have M:a[u]?=some a[u]:=ag la;have G:=H.ha _ (bC la);refine jV (qp M (jV (uX H.C (base:=0) (n:=v) ∅ ∅ H.hb G H.hk (BN H.C ∅ H.hb G (by rw[gX];exact H.sb)) λl l1 l2 l3=>?_)))
 have hB:∀z,a[u]?=some z->∀y∈b.toList.take l,lt z y=false:=λz hz y B=>by
  obtain⟨O,t,R⟩:=zQ B;have q:=l2 O t;rw[uF R,pO rfl]at q;rw[M]at hz;cases hz;exact H.C.asym _ _ (H.hb _ (wt B)) G q
 dsimp only
 by_cases cl:v-l>0
 .rw[pO cl];have S:=J.moreB H.sb (k:=l) l1 λx hx y B=>by
   obtain⟨O,U,t,R⟩:=wJ B;have q:=l3 O U t;rw[uF R,pO rfl]at q;exact H.C.trans _ _ _ (H.ha _ (wt hx)) G (H.hb y (bE B |> wt)) (D7 H.C H.ha H.sa M x hx) q
  by_cases X:l=1
  .rw[pO (by simp[X])]
   subst X;exact jX (.r _ _ _ (hiF H hf S))
  rw[pK (by simpa using X)]
  by_cases Y:l=0
  .rw[pO (by simp[Y])]
   exact jX (.r _ _ _ (H.h _ _ (S.end H.sa H.sb (.inr Y))))
  rw[pK (by simpa using Y)]
  exact Tt H ⟨S,q.p,by lia,by lia⟩ hB
 .rw[pK cl];have:l=v:=by lia
  subst this;exact Tt H ⟨J,q.p,by lia,by lia⟩ hB
def QQ(H:Lo prog w A s κ P lt a b st Q)(R:Hf lt a b)(q:MG lt a b n x) :
  wpS (jU prog w) A E s (hiA a b x.o x.i x.j x.m x.p x.q) (Lp H6 (λx=>sg st x.g) (MG lt a b n) (MG lt a b n) Q) (sg st x.g):=by
 obtain⟨o,i,j,m,p,q',g⟩:=x;have la:i<=a.size:=q.m.la;have p1:0<i:=q.p;have S:1<j:=q.q;have p3:i+j+n<=a.size+b.size:=q.r;obtain⟨v,rfl⟩:∃v,j=v+1:=⟨j-1,by lia⟩
 have lb:v<b.size:=q.m.lb;dsimp only[hiA,gT];have I:b[v]?=some b[v]:=ag lb;have B:=H.hb _ (bC lb);refine jV (yw (jV (qp I (jV (uX H.C (base:=0) (n:=i) ∅ ∅ H.ha B H.hk (BN H.C ∅ H.ha B (by rw[gX];exact H.sa)) λk k1 k2 k3=>?_)))))
 have U:∀z,b[v]?=some z->∀y∈a.toList.take k,lt z y=false:=λz X y G=>by
  obtain⟨J,t,L⟩:=zQ G;have q:=k2 J t;rw[uF L,pK ⋯]at q
  rw[I]at X;cases X;simpa using q
 dsimp only
 by_cases ck:i-k>0
 .rw[pO ck];have Y:=q.m.moreA H.sa (k:=k) k1 λx hx y G=>by
   obtain⟨J,M,t,L⟩:=wJ G;have q:=k3 J M t;rw[uF L,pK ⋯]at q
   have py:=H.ha y (bE G |> wt);exact H.C.trans _ _ _ (H.hb _ (wt hx)) B py (D7 H.C H.hb H.sb I x hx) (H.C.asym _ _ B py (by simpa using q))
  by_cases O:k=0
  .rw[pO (by simp[O])]
   exact jX (.r _ _ _ (H.h _ m (Y.end H.sa H.sb (.inl O))))
  rw[pK (by simpa using O)]
  obtain⟨u,rfl⟩:∃u,k=u+1:=⟨k-1,by lia⟩
  exact Rp H R (g:=m) ⟨Y,Nat.succ_pos _,S,by dsimp only;lia⟩ U
 .rw[pK ck];have:k=i:=by lia
  subst this;obtain⟨u,rfl⟩:∃u,k=u+1:=⟨k-1,by lia⟩
  exact Rp H R ⟨q.m,p1,S,p3⟩ U
def Zk(H:Lo prog w A s κ P lt a b st Q)(M:Hf lt a b)(q:MG lt a b (n+j) x) :
  wpS (jU prog w) A E s (Jk a b m x.o x.i x.j x.p x.q) (Lp H5 (λx=>sg st x.g) (MG lt a b (n+(j+1))) (MG lt a b (n+1)) Q) (sg st x.g):=by
 obtain⟨o,i,k,X,p,O,g⟩:=x;have S:0<i:=q.p;have U:1<k:=q.q;have Y:i+k+(n+j)<=a.size+b.size:=q.r;obtain⟨u,rfl⟩:∃u,i=u+1:=⟨i-1,by lia⟩
 obtain⟨v,rfl⟩:∃v,k=v+1:=⟨k-1,by lia⟩
 have la:u<a.size:=q.m.la;have lb:v<b.size:=q.m.lb;dsimp only[Jk,gT];have G:a[u]?=some a[u]:=ag la;have I:b[v]?=some b[v]:=ag lb;have J:=H.ha _ (bC la);have L:=H.hb _ (bC lb);refine jV (qp I (jV (qp G (jV (H.C.cmp L J H.hk ?_)))));cases e:lt b[v] a[u]with
 |true=>
  dsimp only;rw[pO rfl];refine jV (qp G ?_);have z:=q.m.pushA H.sa G λy B=>H.C.trans _ _ _ (H.hb _ (wt B)) L J (D7 H.C H.hb H.sb I y B) (H.C.asym _ _ L J e)
  by_cases t:u=0
  .rw[pO (by simp[t])]
   exact jX (.r _ _ _ (H.h _ _ (z.end H.sa H.sb (.inl t))))
  rw[pK (by simpa using t)]
  have R:∀n,u+(v+1)+n<=a.size+b.size->MG lt a b n ⟨_,_,_,0,p+1,0,g⟩:=λn hn=>⟨z,fW t,U,hn⟩
  split
  .exact jX (.d _ (R _ ∅))
  .exact jX (.y _ (R _ ∅))
 |false=>
  refine jV (qp I ?_);have z:=q.m.pushB H.sb I λy B=>H.C.trans _ _ _ (H.ha _ (wt B)) J L (D7 H.C H.ha H.sa G y B) e
  by_cases t:v=1
  .subst t;exact jX (.r _ _ _ (hiF H M z))
  rw[pK (by simpa using t)]
  have R:∀n,u+1+v+n<=a.size+b.size->MG lt a b n ⟨_,_,_,0,0,O+1,g⟩:=λn hn=>⟨z,S,by lia,hn⟩
  split
  .exact jX (.d _ (R _ ∅))
  .exact jX (.y _ (R _ ∅))
def ZA(H:Lo prog w A s κ P lt a b st Q)(B:Hf lt a b)(q:MG lt a b n x) :
  wpS (jU prog w) A E s (hi0 a b x.o x.i x.j x.m) (Lp H4 (λx=>sg st x.g) (MG lt a b (n+1)) (λ_=>False) Q) (sg st x.g):=by
 refine xU H5 (λx=>sg st x.g) (λj=>MG lt a b (n+j)) (MG lt a b (n+1)) Q ⟨x.o,x.i,x.j,0,0,0,x.g⟩ ⟨q.m,q.p,q.q,q.r⟩ (λj x q=>Zk H B q) (λy h=>⟨h.m,h.p,h.q,by have:=h.r;have:=h.p;have:=h.q;lia⟩) (λy q=>?_) λr y G hr=>jX (.r _ _ _ hr)
 refine jV (yc ?_);refine xU H6 (λx=>sg st x.g) (λ_=>MG lt a b (n+1)) (MG lt a b (n+1)) Q ⟨y.o,y.i,y.j,x.m+1,y.p,y.q,y.g⟩ ⟨q.m,q.p,q.q,q.r⟩ (λj z q=>?_) (λ_ h=>h) (λz q=>?_) λr y G hr=>jX (.r _ _ _ hr)
 .dsimp only;split
  .exact QQ H B (x:=⟨_,_,_,z.m-1,_,_,z.g⟩) ⟨q.m,q.p,q.q,q.r⟩
  .exact QQ H B q
 .refine jV (yw (jX ?_));exact Lp.y (t:=H4) ⟨_,_,_,z.m+1,0,0,z.m+1⟩ ⟨q.m,q.p,q.q,q.r⟩
def JD(C:zU prog w A s κ P lt)(ha:∀x,x∈a->P x)(hb:∀x,x∈b->P x)(hk:kindOf st=κ)(sa:yF lt a.toList)(sb:yF lt b.toList)
  (L:0<a.size) (M:0<b.size) (J:∀x∈b.toList.take 1,∀y∈a.toList,lt y x=false) (hl:∀x,a[a.size-1]?=some x->∀y∈b.toList,lt x y=false)
  (h:∀r g,UX lt a b r->Q r (sg st g)):wpS (jU prog w) A E s (EI a b) Q st:=by
 have H:Lo prog w A s κ P lt a b st Q:=⟨C,ha,hb,hk,sa,sb,h⟩;rw[Ks];refine jV (yc ?_);have t:a[a.size-1]?=some (a[a.size-1]'∅):=ag ∅
 refine jV (qp t ?_);have O:MH lt a b #[] (a.size-1+1) b.size:=⟨by lia,af _,by
  rw[show a.size-1+1=a.toList.length by simp;lia,aK,←ar,aK];simp,by simp[yF],by simp,by simp⟩
 have G:MH lt a b #[a[a.size-1]'∅] (a.size-1) b.size:=O.pushA sa t λy R=>hl _ t y (bQ R)
 by_cases B:a.size-1=0
 .rw[pO (by simp[B])]
  exact jX (h _ (nh st) (G.end sa sb (.inl B)))
 rw[pK (by simpa using B)]
 by_cases I:b.size=1
 .rw[pO (by simp[I])]
  have z:=G;rw[I]at z ⊢;exact jX (hiF H J z)
 rw[pK (by simpa using I)]
 refine jV (lY ?_);exact xU H4 (λx=>sg st x.g) (λi=>MG lt a b (i+1)) (λ_=>False) Q ⟨_,a.size-1,b.size,_,0,0,nh st⟩ ⟨G,fW B,by lia,by lia⟩ (λi x q=>ZA H J q) (λx h=>by have:=h.q;have:=h.r;lia) (λx h=>h.elim) λr y S hr=>jX hr
end
def A7(lt:jS->jS->Bool)(l:Array jS)(i j:Nat):Prop:=∀p q x y,i<=p->p<=q->q<j->l[p]?=some x->l[q]?=some y->lt y x=false
def UW(lt:jS->jS->Bool)(l:Array jS)(i j:Nat):Prop:=∀p q x y,i<=p->p<=q->q<j->l[p]?=some x->l[q]?=some y->lt x y=false
def Eqv(lt:jS->jS->Bool)(l:Array jS)(i j:Nat):Prop:=∀p q x y,i<=p->p<j->i<=q->q<j->l[p]?=some x->l[q]?=some y->lt x y=false
section
variable {lo:Nat}
def KM(l:j<=xs.size)(h:UW lt xs i j):A7 lt (mirror xs i j ((j-i) / 2)) i j:=by
 intro p q x y t z u ex s;rw[lZ l,pO ⟨t,by lia⟩]at ex
 rw[lZ l,pO ⟨by lia,u⟩]at s
 exact h _ _ _ _ ∅ ∅ ∅ s ex
def A4(z:j<=xs.size)(hi:lo<=i)(hn:j<=n)(e:Eqv lt xs i j)(h:UW lt xs lo n):UW lt (mirror xs i j ((j-i) / 2)) lo n:=by
 intro p q x y t B u ex l;rw[lZ z]at ex l
 by_cases cp:i<=p/\p<j
 .rw[pO cp]at ex
  by_cases s:i<=q/\q<j
  .rw[pO s]at l;exact e _ _ _ _ ∅ ∅ ∅ ∅ ex l
  .rw[pK s]at l;exact h _ _ _ _ ∅ ∅ u ex l
 .rw[pK cp]at ex
  by_cases s:i<=q/\q<j
  .rw[pO s]at l;exact h _ _ _ _ t ∅ ∅ ex l
  .rw[pK s]at l;exact h _ _ _ _ t B u ex l
end
section
variable (lo:Nat)
noncomputable def crA(n:Nat):StateT SortSt Sem (ForInStep (Option (Option Nat)×Nat)):=do
 match ←ltAt' (lo+n) (lo+n-1)with
 |some c=>if c then pure (.done (none,n))else pure (.yield (none,n+1))
 |_=>pure (.done (some none,n))
noncomputable def crB(n q:Nat):StateT SortSt Sem (ForInStep (Option (Option Nat)×Nat×Nat)):=do
 match ←ltAt' (lo+n) (lo+n-1)with
 |some c=>
  if c then
   if q>0 then do
    let _ ←mD (lo+n-(q+1)) (lo+n)
    pure (.yield (none,n+1,0))
   else pure (.yield (none,n+1,0))
  else do
   match ←ltAt' (lo+n-1) (lo+n)with
   |some c=>if c then pure (.done (none,n,q))else pure (.yield (none,n+1,q+1))
   |_=>pure (.done (some none,n,q))
 |_=>pure (.done (some none,n,q))
noncomputable def crZ(l n:Nat):StateT SortSt Sem (Option Nat):=do
 mD lo (lo+n)
 let r ←forIn [n:l] (none,n) λ_ s=>crA lo s.2
 Break.runK.match_1 (λ_=>StateT SortSt Sem (Option Nat)) r.1 (λv=>pure v) λ_=>pure (some r.2)
def crD(l n:Nat):StateT SortSt Sem (Option Nat):=do
 rule "list.sort.descending-run"
 let r ←forIn [n+1:l] (none,n+1,0) λ_ s=>crB lo s.2.1 s.2.2
 Break.runK.match_1 (λ_=>StateT SortSt Sem (Option Nat)) r.1 (λv=>pure v) λ_=>
  if r.2.2>0 then do
   let _ ←mD (lo+r.2.1-(r.2.2+1)) (lo+r.2.1)
   crZ lo l r.2.1
  else crZ lo l r.2.1
def ab1 l:countRun' lo l=(do
 let r ←forIn [1:l] (none,1) λ_ s=>crA lo s.2
 Break.runK.match_1 (λ_=>StateT SortSt Sem (Option Nat)) r.1 (λv=>pure v) λ_=>
  if r.2 == l then pure (some r.2)
  else if r.2>1 then do
   match ←ltAt' lo (lo+r.2-1)with
   |some c=>
    if c then pure (some r.2)
    else do
     let _ ←mD lo (lo+r.2)
     crD lo l r.2
   |_=>pure none
  else crD lo l r.2):=countRun'_eq lo l
end
section
variable {E:Ψ}{P:jS->Prop}
def WC(C:zU prog w A s κ P lt)(t:∀x,x∈l->P x)lo:A7 lt l lo (lo+1):=by
 intro p q x y u z B ex n;have e:p=q:=by lia
 subst e;rw[ex]at n;cases n;exact C.refl (t _ (aQq ex))
def Tq(C:zU prog w A s κ P lt)(u:∀x,x∈l->P x){lo}(h:A7 lt l lo (lo+(n+1)))(G:∀x y,l[lo+(n+1)]?=some x->l[lo+n]?=some y->lt x y=false)(hz:lo+(n+1)<l.size):A7 lt l lo (lo+(n+2)):=by
 intro p q x y B H J ex t
 by_cases c:q<lo+(n+1)
 .exact h p q x y B H c ex t
 .have eq:q=lo+(n+1):=by lia
  subst eq
  by_cases I:p=lo+(n+1)
  .subst I;rw[ex]at t;cases t;exact C.refl (u _ (aQq ex))
  .have z:l[lo+n]?=some (l[lo+n]'∅):=ag ∅
   exact C.trans _ _ _ (u _ (aQq ex)) (u _ (aQq z)) (u _ (aQq t)) (h p (lo+n) _ _ B ∅ ∅ ex z) (G _ _ t z)
def JY(C:zU prog w A s κ P lt)(u:∀x,x∈l->P x){lo}(h:UW lt l lo (lo+(n+1)))(G:∀x y,l[lo+(n+1)]?=some x->l[lo+n]?=some y->lt y x=false)(hz:lo+(n+1)<l.size):UW lt l lo (lo+(n+2)):=by
 intro p q x y B H J ex t
 by_cases c:q<lo+(n+1)
 .exact h p q x y B H c ex t
 .have eq:q=lo+(n+1):=by lia
  subst eq
  by_cases I:p=lo+(n+1)
  .subst I;rw[ex]at t;cases t;exact C.refl (u _ (aQq ex))
  .have z:l[lo+n]?=some (l[lo+n]'∅):=ag ∅
   exact C.trans _ _ _ (u _ (aQq t)) (u _ (aQq z)) (u _ (aQq ex)) (G _ _ t z) (h p (lo+n) _ _ B ∅ ∅ ex z)
def Ka(C:zU prog w A s κ P lt){lo}{st}(J:∀x,x∈ki st->P x)(hk:kindOf st=κ)(ha:1<=a)(u:a<=t)(hz:lo+t<=(ki st).size)(hs:A7 lt (ki st) lo (lo+a)) :
  wpS (jU prog w) A E s (forIn [a:t] ((none,a):Option (Option Nat)×Nat) λ_ s=>crA lo s.2)
   (λc l=>∃n,c=(none,n)/\l=st/\a<=n/\n<=t/\A7 lt (ki st) lo (lo+n)/\(n=t∨∃x y,(ki st)[lo+n]?=some x/\(ki st)[lo+n-1]?=some y/\lt x y=true)) st:=by
 refine kF (I:=λi c l=>c=(none,i)/\l=st/\a<=i/\i<=t/\A7 lt (ki st) lo (lo+i)) ?step ?fin ⟨rfl,rfl,af _,u,hs⟩
 case step=>
  rintro i c l R O ⟨rfl,rfl,G,L,z⟩;obtain⟨k,rfl⟩:∃k,i=k+1:=⟨i-1,by lia⟩
  have ex:(ki l)[lo+(k+1)]?=some ((ki l)[lo+(k+1)]'∅):=ag ∅
  have H:(ki l)[lo+(k+1)-1]?=some ((ki l)[lo+k]'∅):=ag ∅
  refine jV (C.at ex H (J _ (aQq ex)) (J _ (aQq H)) hk ?_);cases e:lt ((ki l)[lo+(k+1)]'∅) ((ki l)[lo+k]'∅)with
  |true=>exact jX ⟨_,rfl,rfl,G,L,z,.inr ⟨_,_,ex,H,e⟩⟩
  |false=>
   refine jX ⟨rfl,rfl,by lia,O,Tq C J z (λx y M Q=>?_) ∅⟩
   have B:(ki l)[lo+(k+1)-1]?=some y:=Q;rw[ex]at M;rw[H]at B;cases M;cases B;exact e
 case fin=>
  rintro c l ⟨rfl,rfl,G,L,z⟩;have e:=Nat.max_eq_right u;rw[e]at G L z ⊢;exact⟨t,rfl,rfl,G,af _,z,.inl rfl⟩
def Eb{st}(h:Q () (kO st (mirror (ki st) i j ((j-i) / 2)))):wpS (jU prog w) A E s (mD i j) Q st:=by
 exact lO h
structure zB (xs ys:Array jS)(lo hi:Nat):Prop where
 pm:ys.Perm xs
 out:∀k,(k<lo∨hi<=k)->ys[k]?=xs[k]?
theorem zB.refl(l)lo hi:zB l l lo hi:=⟨ju.refl _,λ_ _=>rfl⟩
theorem zB.trans{lo}(a:zB l n lo hi)(b:zB n t lo hi):zB l t lo hi:=⟨b.pm.trans a.pm,λk h=>(b.out k h).trans (a.out k h)⟩
def zB.mono{lo}(a:zB n t lo hi)(h:hi<=l):zB n t lo l:=⟨a.pm,λk q=>a.out k ∅⟩
theorem zB.size{lo}(a:zB l n lo hi):n.size=l.size:=a.pm.size_eq
def zB.mem{lo}(a:zB l n lo hi)(h:∀x,x∈l->P x):∀x,x∈n->P x:=λx t=>h x (a.pm.mem_iff.mp t)
def yA{lo}(n:j<=l.size)(t:lo<=i)(u:j<=hi):zB l (mirror l i j ((j-i) / 2)) lo hi:=
 ⟨mirror_perm _ _ _ _,λk hk=>by rw[lZ n,pK ∅]⟩
structure CR (lt:jS->jS->Bool)(as:Array jS)(lo i q:Nat)(ys:Array jS):Prop where
 b:zB as ys lo (lo+i)
 d:UW lt ys lo (lo+i)
 e:Eqv lt ys (lo+i-(q+1)) (lo+i)
 p:q+1<=i
def DR(C:zU prog w A s κ P lt)(u:∀x,x∈l->P x)(h:j<=i+1):Eqv lt l i j:=by
 intro p q x y z g2 B G n t;have e:p=q:=by lia
 subst e;rw[n]at t;cases t;exact C.refl (u _ (aQq n))
def X0(C:zU prog w A s κ P lt){lo}{st}(R:∀x,x∈ki st->P x)(hk:kindOf st=κ)(hz:lo+u<=(ki st).size)(hi:k+1<u)(g:CR lt (ki st) lo (k+1) n l) :
  wpS (jU prog w) A E s (crB lo (k+1) n) (λr EZ=>∃m q S,EZ=kO st S/\m<=u/\CR lt (ki st) lo m q S/\(r = .done (none,m,q)∨r = .yield (none,m,q)/\m=k+1+1)) (kO st l):=by
 have H:=g.b;have g2:=g.d;have O:=g.e;have g4:=g.p;have t:=H.mem R;have hsz:=H.size;have ex:l[lo+(k+1)]?=some (l[lo+(k+1)]'∅):=ag ∅
 have B:l[lo+(k+1)-1]?=some (l[lo+k]'∅):=ag ∅
 have G:=t _ (aQq ex);have py:=t _ (aQq B);have I:lt (l[lo+k]'∅) (l[lo+(k+1)]'∅)=false->UW lt l lo (lo+(k+1+1)):=λe=>JY C t g2 (λx y U hy=>by
  have J:l[lo+(k+1)-1]?=some y:=hy;rw[ex]at U;rw[B]at J;cases U;cases J;exact e) ∅
 refine jV (C.at (st:=kO st l) ex B G py hk ?_);cases e:lt (l[lo+(k+1)]'∅) (l[lo+k]'∅)with
 |true=>
  have L:=I (C.asym _ _ G py e);dsimp only;rw[pO rfl]
  by_cases cn:n>0
  .rw[pO cn];refine jV (Eb (jX ?_));have X:zB (ki st) (mirror l (lo+(k+1)-(n+1)) (lo+(k+1)) ((lo+(k+1)-(lo+(k+1)-(n+1))) / 2)) lo (lo+(k+1)):=H.trans (yA ∅ ∅ (af _))
   exact⟨_,0,_,rfl,hi,⟨X.mono ∅,A4 ∅ ∅ ∅ O L,DR C (X.mem R) ∅,by lia⟩,.inr ⟨rfl,rfl⟩⟩
  .rw[pK cn];exact jX ⟨_,0,l,rfl,hi,⟨H.mono ∅,L,DR C t ∅,by lia⟩,.inr ⟨rfl,rfl⟩⟩
 |false=>
  dsimp only;rw[pK ⋯]
  refine jV (C.at (st:=kO st l) B ex py G hk ?_);cases Y:lt (l[lo+k]'∅) (l[lo+(k+1)]'∅)with
  |true=>exact jX ⟨_,n,l,rfl,cT hi,g,.inl rfl⟩
  |false=>
   refine jX ⟨_,n+1,l,rfl,hi,⟨H.mono ∅,I Y,?_,by lia⟩,.inr ⟨rfl,rfl⟩⟩
   intro p q x y h1 h2 h3 h4 M z;have qx:=t _ (aQq M);have qy:=t _ (aQq z)
   by_cases cp:p=lo+(k+1)
   .subst cp;rw[ex]at M;cases M
    by_cases Q:q=lo+(k+1)
    .subst Q;rw[ex]at z;cases z;exact C.refl G
    .exact C.trans _ _ _ qy py G (O (lo+(k+1)-1) q _ _ ∅ ∅ ∅ ∅ B z) e
   .by_cases Q:q=lo+(k+1)
    .subst Q;rw[ex]at z;cases z;exact C.trans _ _ _ G py qx Y (O p (lo+(k+1)-1) _ _ ∅ ∅ ∅ ∅ M B)
    .exact O p q x y ∅ ∅ ∅ ∅ M z
abbrev acm(lt:jS->jS->Bool)(st:SortSt)(lo l:Nat)(Q:Option Nat->SortSt->Prop):=∀n t,1<=n->n<=l->zB (ki st) t lo (lo+n)->A7 lt t lo (lo+n)->Q (some n) (kO st t)
def RC(C:zU prog w A s κ P lt){lo}{st}(B:∀x,x∈ki st->P x)(hk:kindOf st=κ)(hz:lo+l<=(ki st).size)(h:acm lt st lo l Q)
  (G:1<=m) (H:m<=l) (b:zB (ki st) n lo (lo+m)) (d:UW lt n lo (lo+m)):wpS (jU prog w) A E s (crZ lo l m) Q (kO st n):=by
 refine jV (Eb ?_);have I:=b.size;have J:=KM ∅ d
 have t:=b.trans (yA ∅ (af _) (af _))
 refine jV (kL (Ka C (t.mem B) hk G H (cz hz (fJ t.size.symm)) J) ?_);rintro c EZ ⟨L,rfl,rfl,M,u,z,_⟩;exact jX (h L _ ∅ u (t.mono ∅) z)
def RT(C:zU prog w A s κ P lt){lo}{st}(B:∀x,x∈ki st->P x)(hk:kindOf st=κ)(hz:lo+l<=(ki st).size)(h:acm lt st lo l Q)
  (hn:n<l) (b:zB (ki st) z lo (lo+n)) (d:UW lt z lo (lo+(n+1))):wpS (jU prog w) A E s (crD lo l n) Q (kO st z):=by
 refine jV (yc (jV (kL (kF
  (I:=λi c EZ=>∃q t,c=(none,i,q)/\EZ=kO st t/\i<=l/\CR lt (ki st) lo i q t)
  (Q:=λc EZ=>∃m q t,c=(none,m,q)/\EZ=kO st t/\m<=l/\CR lt (ki st) lo m q t)
  ?_ ?_ ⟨0,z,rfl,rfl,hn,b.mono ∅,d,DR C (b.mem B) ∅,by lia⟩) ?_)))
 .rintro i c EZ _ hi ⟨q,t,rfl,rfl,_,g⟩;obtain⟨k,rfl⟩:∃k,i=k+1:=⟨i-1,by lia⟩
  refine kL (X0 C B hk hz hi g) λr EZ hr=>?_
  obtain⟨m,q,G,rfl,u,H,rfl|⟨rfl,rfl⟩⟩:=hr
  .exact⟨m,q,G,rfl,rfl,u,H⟩
  .exact⟨q,G,rfl,rfl,u,H⟩
 .rintro c EZ ⟨q,t,rfl,rfl,u,g⟩;exact⟨_,q,t,rfl,rfl,u,g⟩
 .rintro c EZ ⟨m,q,t,rfl,rfl,u,g⟩;have J:=g.b.size;have L:=g.p
  by_cases cn:q>0
  .rw[pO cn];exact jV (Eb (RC (st:=st) C B hk hz h ∅ u (g.b.trans (yA ∅ ∅ (af _))) (A4 ∅ ∅ (af _) g.e g.d)))
  .rw[pK cn];exact RC C B hk hz h ∅ u g.b g.d
def Hy(C:zU prog w A s κ P lt){lo}{st}(u:∀x,x∈ki st->P x)(hk:kindOf st=κ)(h1:1<=t)(hz:lo+t<=(ki st).size)
  (h:∀n O,1<=n->n<=t->zB (ki st) O lo (lo+n)->A7 lt O lo (lo+n)->Q (some n) (kO st O)):wpS (jU prog w) A E s (countRun' lo t) Q st:=by
 rw[ab1];refine jV (kL (Ka C u hk (af 1) h1 hz (WC C u lo)) ?_);rintro c l ⟨n,rfl,rfl,n1,n2,G,R⟩;dsimp only;have B:Q (some n) l:=h n (ki l) n1 n2 (zB.refl _ _ _) G
 by_cases S:n=t
 .rw[pO (by simp[S])]
  exact jX B
 rw[pK (by simpa using S)]
 obtain⟨xb,yb,J,z,eb⟩:=R.resolve_left S;obtain⟨m,rfl⟩:∃m,n=m+1:=⟨n-1,by lia⟩
 have U:=u _ (aQq J);have H:=u _ (aQq z);have go:Eqv lt (ki l) lo (lo+(m+1))->UW lt (ki l) lo (lo+(m+1+1)):=λe1=>
  JY C u (λp q x y X g2 Y ex ey=>e1 p q x y X ∅ ∅ Y ex ey) (λx y hx hy=>by
   have L:(ki l)[lo+(m+1)-1]?=some y:=hy;rw[J]at hx;rw[z]at L;cases hx;cases L;exact C.asym _ _ U H eb) ∅
 by_cases c2:m+1>1
 .rw[pO c2];have ex:(ki l)[lo]?=some ((ki l)[lo]'∅):=ag ∅
  have I:=u _ (aQq ex);refine jV (C.at ex z I H hk ?_);cases e:lt ((ki l)[lo]'∅) yb with
  |true=>exact jX B
  |false=>
   have M:Eqv lt (ki l) lo (lo+(m+1)):=by
    intro p q x y X g2 Y g4 gx gy;have px:=u _ (aQq gx);have py:=u _ (aQq gy);have q1:=G q (lo+(m+1)-1) _ _ Y ∅ ∅ gy z
    have q2:=G lo p _ _ (af _) X g2 ex gx;exact C.trans _ _ _ py I px (C.trans _ _ _ py H I q1 e) q2
   exact jV (Eb (RT C u hk hz h ∅ (yA ∅ (af _) (af _)) (A4 ∅ (af _) ∅ M (go M))))
 .rw[pK c2];exact RT C u hk hz h ∅ (zB.refl _ _ _) (go (DR C u ∅))
end
section
variable {E:Ψ}
def VZ(C:zU prog w A s κ P lt)(I:∀x,x∈t->P x){lo}(hz:lo+k<t.size)(hl:l<=k)(hs:A7 lt t lo (lo+k))(J:t[lo+k]?=some x)
  (O:∀j y,j<l->t[lo+j]?=some y->lt x y=false) (Q:∀j y,l<=j->j<k->t[lo+j]?=some y->lt x y=true):A7 lt (bubble t (lo+k) (k-l)) lo (lo+(k+1)):=by
 have L:=I _ (aQq J);have g:∀p,(bubble t (lo+k) (k-l))[p]?=if p=lo+l then some x else if lo+l<p/\p<=lo+k then t[p-1]? else t[p]?:=λp=>by
  rw[getElem?_bubble hz (k-l) ∅ p,show lo+k-(k-l)=lo+l by lia,J]
 intro p q u v M R S z n;rw[g]at z n
 by_cases cp:p=lo+l
 .rw[pO cp]at z;cases z
  by_cases B:q=lo+l
  .rw[pO B]at n;cases n;exact C.refl L
  .rw[pK B,pO ⟨by lia,by lia⟩]at n
   have pv:=I _ (aQq n);exact C.asym _ _ L pv (Q (q-1-lo) v ∅ ∅ (by rw[show lo+(q-1-lo)=q-1 by lia];exact n))
 .rw[pK cp]at z
  by_cases G:lo+l<p/\p<=lo+k
  .rw[pO G]at z;rw[pK ∅,pO ⟨by lia,by lia⟩]at n
   exact hs (p-1) (q-1) _ _ ∅ ∅ ∅ z n
  .rw[pK G]at z
   by_cases B:q=lo+l
   .rw[pO B]at n;cases n;exact O (p-lo) u ∅ (by rw[show lo+(p-lo)=p by lia];exact z)
   .rw[pK B]at n
    by_cases H:lo+l<q/\q<=lo+k
    .rw[pO H]at n;exact hs p (q-1) _ _ M ∅ ∅ z n
    .rw[pK H]at n;exact hs p q _ _ M R ∅ z n
def KI{lo}(hz:lo+k<t.size)(hl:l<=k)(hn:k<n):zB t (bubble t (lo+k) (k-l)) lo (lo+n):=
 ⟨bubble_perm _ _ _,λp u=>by rw[getElem?_bubble hz (k-l) ∅ p,pK ∅,pK ∅]⟩
def UO{st}(h:Q () (kO st (bubble (ki st) l (l-n)))):wpS (jU prog w) A E s (moveDown' l n) Q st:=by
 exact lO h
def LC(C:zU prog w A s κ P lt){lo}{st}(hp:∀x,x∈ki st->P x)(hk:kindOf st=κ)(h1:1<=ok)(h2:ok<=n)(hz:lo+n<=(ki st).size)(hs:A7 lt (ki st) lo (lo+ok))
  (h:∀R,zB (ki st) R lo (lo+n)->A7 lt R lo (lo+n)->Q true (kO st R)):wpS (jU prog w) A E s (binarySort' lo n ok) Q st:=by
 rw[binarySort'_eq];dsimp only;rw[Nat.max_eq_left h1];refine jV (kL (kF (I:=λk c u=>∃t,c=(none,())/\u=kO st t/\zB (ki st) t lo (lo+n)/\A7 lt t lo (lo+k)/\k<=n)
  (Q:=λc u=>∃t,c=(none,())/\u=kO st t/\zB (ki st) t lo (lo+n)/\A7 lt t lo (lo+n)) ?step ?fin ⟨ki st,rfl,rfl,zB.refl _ _ _,hs,h2⟩) ?post)
 case fin=>
  rintro c u ⟨t,rfl,rfl,b1,B,q⟩;have e:max ok n=n:=by lia
  rw[e]at B;exact⟨t,rfl,rfl,b1,B⟩
 case post=>
  rintro c u ⟨t,rfl,rfl,b1,B⟩;exact jX (h t b1 B)
 case step=>
  rintro k c u hk1 L ⟨t,rfl,rfl,b1,B,q⟩;have z:=b1.mem hp;have hsz:=b1.size;have ex:t[lo+k]?=some (t[lo+k]'∅):=ag ∅
  have S:=z _ (aQq ex);refine jV (kL (kF (I:=λi c u=>∃l r,c=(none,l,r)/\u=kO st t/\l<=r/\r<=k/\(∀j y,j<l->t[lo+j]?=some y->lt (t[lo+k]'∅) y=false)/\(∀j y,r<=j->j<k->t[lo+j]?=some y->lt (t[lo+k]'∅) y=true)/\(r-l)+i<=k)
   (Q:=λc u=>∃l r,c=(none,l,r)/\u=kO st t/\l=r/\r<=k/\(∀j y,j<l->t[lo+j]?=some y->lt (t[lo+k]'∅) y=false)/\(∀j y,r<=j->j<k->t[lo+j]?=some y->lt (t[lo+k]'∅) y=true))
   ?step1 ?fin1 ⟨0,k,rfl,rfl,aX _,af _,λj y hj=>absurd hj (cG _),λj y U g2=>absurd g2 ∅,by lia⟩) ?post1)
  case fin1=>
   rintro c u ⟨l,r,rfl,rfl,a1,G,H,J,a5⟩;exact⟨l,r,rfl,rfl,by lia,G,H,J⟩
  case step1=>
   rintro i c u _ hi ⟨l,r,rfl,rfl,a1,G,H,J,a5⟩;dsimp only
   by_cases X:l ≥ r
   .rw[pO X];exact jX ⟨l,r,rfl,rfl,by lia,G,H,J⟩
   rw[pK X];have O:t[lo+(l+r) / 2]?=some (t[lo+(l+r) / 2]'∅):=ag ∅
   have pm:=z _ (aQq O);refine jV (C.at (st:=kO st t) ex O S pm hk ?_);cases e:lt (t[lo+k]'∅) (t[lo+(l+r) / 2]'∅)with
   |true=>
    dsimp only;rw[pO rfl];refine jX ⟨l,_,rfl,rfl,by lia,by lia,H,λj y U g2 M=>?_,by lia⟩
    have py:=z _ (aQq M);cases e':lt (t[lo+k]'∅) y with
    |true=>rfl
    |false=>
     have q1:=B (lo+(l+r) / 2) (lo+j) _ _ ∅ ∅ ∅ O M
     have Y:=C.trans _ _ _ pm py S q1 e';rw[e]at Y;cases Y
   |false=>
    dsimp only;rw[pK ⋯]
    refine jX ⟨_,r,rfl,rfl,by lia,G,λj y U M=>?_,J,by lia⟩
    have py:=z _ (aQq M);exact C.trans _ _ _ py pm S (B (lo+j) (lo+(l+r) / 2) _ _ ∅ ∅ ∅ M O) e
  case post1=>
   rintro c u ⟨l,r,rfl,rfl,rfl,G,H,J⟩;refine jV (UO (jX ?_));have e:lo+k-(lo+l)=k-l:=by lia
   rw[e];exact⟨_,rfl,rfl,b1.trans (KI ∅ G L),VZ C z ∅ G B ex H J,L⟩
end
def tK(lt:jS->jS->Bool)(l:Array jS):Nat->List (Nat×Nat×Nat)->Nat->Prop
 |s,[],e=>s=e
 |s,p::r,e=>p.1=s/\0<p.2.1/\A7 lt l s (s+p.2.1)/\tK lt l (s+p.2.1) r e
theorem uN:∀{q r}{s e},tK lt l s (q++r) e↔∃m,tK lt l s q m/\tK lt l m r e
 | [],r,s,e=>by
  constructor
  .intro h;exact⟨s,rfl,h⟩
  .rintro⟨m,rfl,h⟩;exact h
 |p::q,r,s,e=>by
  constructor
  .rintro⟨n,t,u,x⟩;obtain⟨m,a,b⟩:=uN.mp x;exact⟨m,⟨n,t,u,a⟩,b⟩
  .rintro⟨m,⟨n,t,u,a⟩,b⟩;exact⟨n,t,u,uN.mpr ⟨m,a,b⟩⟩
theorem zM:∀{q}{s e},tK lt l s q e->s+q.length<=e
 | [],s,e,h=>by have:s=e:=h;simp[this]
 |p::q,s,e,hz=>by
  obtain⟨_,t,_,n⟩:=hz;have:=zM n;rw[lCq];lia
theorem xn:∀{q}{s e},(∀k,s<=k->k<e->t[k]?=n[k]?)->tK lt n s q e->tK lt t s q e
 | [],s,e,_,h=>h
 |p::q,s,e,g,hz=>by
  obtain⟨B,E,G,u⟩:=hz;have l:=zM u;refine⟨B,E,λa b x y z H I ex J=>G a b x y z H I ?_ ?_,xn (λk M L=>g k ∅ L) u⟩
  .rw[←g a z ∅];exact ex
  .rw[←g b ∅ ∅];exact J
theorem BX:∀{q l}{s e},l.map (λp=>(p.1,p.2.1))=q.map (λp=>(p.1,p.2.1))->tK lt n s q e->tK lt n s l e
 | [],l,s,e,g,h=>by
  have:l=[]:=by simpa using g
  subst this;exact h
 |p::q,[],s,e,g,h=>by simp at g
 |p::q,p'::l,s,e,g,hz=>by
  obtain⟨z,t,u,x⟩:=hz;simp only[aw,ji.injEq,Prod.mk.injEq]at g;obtain⟨⟨B,g2⟩,E⟩:=g;rw[←g2]at t u x;exact⟨B.trans z,t,u,BX E x⟩
theorem Gg o:∀M n (l:Array jS),o+n+M.length<=l.size ->
  ((M.zipIdx n).foldl (λa x=>a.setIfInBounds (o+x.2) x.1) l).toList=l.toList.take (o+n)++M++l.toList.drop (o+n+M.length)
 | [],n,l,h=>by simp
 |y::r,n,l,h=>by
  rw[List.zipIdx_cons,dh];rw[lCq]at h;rw[Gg o r (n+1) _ (by rw[Array.size_setIfInBounds];lia),hU]
  have hl:o+n<l.toList.length:=by rw[ar];lia
  have s:(l.toList.set (o+n) y).take (o+(n+1))=l.toList.take (o+n)++[y]:=by
   rw[←gC,bG,aW hl,List.take_set_of_le (af _)];rfl
  have t:(l.toList.set (o+n) y).drop (o+(n+1)+r.length)=l.toList.drop (o+n+(r.length+1)):=by
   rw[List.drop_set_of_lt ∅]
   lia
  rw[s,t,ae,ae,ae];rfl
section
variable {E:Ψ}
def Nn(C:zU prog w A s κ P lt)(hb:base+n<=arr.size)(ha:∀x,x∈arr->P x)(l:P key)(so:A7 lt arr base (base+n)) :
  ∀i j,i<=j->j<n->zm lt left key arr base j=true->zm lt left key arr base i=true:=by
 intro i j G I h;have t:arr[base+i]?=some (arr[base+i]'∅):=ag ∅
 have u:arr[base+j]?=some (arr[base+j]'∅):=ag ∅
 have z:=ha _ (aQq t);have B:=ha _ (aQq u);have le:=so (base+i) (base+j) _ _ ∅ ∅ ∅ t u
 rw[uF u]at h;rw[uF t];cases left with
 |true=>
  rw[pO rfl]at h ⊢;cases q:lt (arr[base+i]'∅) key with
  |true=>rfl
  |false=>
   have:=C.trans _ _ _ l z B q le;rw[h]at this;cases this
 |false=>
  have H:=by simpa using h
  have:=C.trans _ _ _ z B l le H;simp[this]
def uA{a:Array jS}(h:x∈(a.extract i j).toList):∃k,i<=k/\k<j/\a[k]?=some x:=by
 rw[rP]at h;obtain⟨k,l,n,e⟩:=wJ h;rw[cH]at e;exact⟨k,l,n,e⟩
def Dq(h:A7 lt a i j):yF lt (a.extract i j).toList:=by
 rw[rP];refine cc.mpr λp q l n t=>?_
 rw[aJ,lTq]at l n;have e:∀k hk,a[i+k]?=some ((a.toList.take j).drop i)[k]:=λk hk=>by
  rw[aJ,lTq,ar]at hk;rw[bo];exact⟨by lia,by simp⟩
 exact h (i+p) (i+q) _ _ ∅ ∅ ∅ (e p _) (e q _)
def JI i:mergeAt' i=(do
 let s ←get
 let (some (sa,l,n),some (sb,t,_)):=((lF s)[i]?,(lF s)[i+1]?)|mz "internal:list.sort.pending"
 set (setPending s (((lF s).setIfInBounds i (sa,l+t,n)).eraseIdxIfInBounds (i+1)))
 let some k ←xu false (←kQ (ki s) sb) (ki s) sa l 0|return false
 let (sa,l):=(sa+k,l-k)
 if l == 0 then return true
 let some t ←xu true (←kQ (ki s) (sa+l-1)) (ki s) sb t (t-1)|return false
 if t == 0 then return true
 let x:=(ki s).extract sa sb
 let y:=(ki s).extract sb (sb+t)
 let merged ←if l<=t then Kk x y else EI x y
 modify λs=>kO s (merged.toList.zipIdx.foldl (λa (p,j)=>a.setIfInBounds (sa+j) p) (ki s))
 return (failedOf (←get)).isNone):=rfl
def OZ{st}(h:Q ⟨⟩ l):wpS (jU prog w) A E s (set l:StateT SortSt Sem PUnit) Q st:=by
 exact jT ⟨rfl,h⟩
def Tw(C:zU prog w A s κ P lt)(G:∀x,x∈t->P x)(hz:sa+n+H<=t.size)(hk:k<=n)(hl:l<=H)(h1:A7 lt t sa (sa+n))(U:A7 lt t (sa+n) (sa+n+H))
  (ek:t[sa+n]?=some key) (el:t[sa+n-1]?=some last)
  (k2:∀j y,j<k->t[sa+j]?=some y->lt key y=false) (l3:∀j y,l<=j->j<H->t[sa+n+j]?=some y->lt y last=false) (hna:0<n) (hnb:0<H)
  (m:UX lt (t.extract (sa+k) (sa+n)) (t.extract (sa+n) (sa+n+l)) M)
  (L:S.toList=t.toList.take (sa+k)++M.toList++t.toList.drop (sa+k+M.toList.length)):zB t S sa (sa+n+H)/\A7 lt S sa (sa+n+H):=by
 have lM:M.toList.length=(n-k)+l:=by
  have:=m.pm.length_eq;simp only[lAq,ar,fZ]at this ⊢;lia
 have hlx:t.toList.length=t.size:=ar;have gz:∀p,S[p]?=if p<sa+k then t[p]? else if p<sa+n+l then M[p-(sa+k)]? else t[p]?:=λp=>by
  rw[←au,L]
  by_cases J:p<sa+k
  .rw[pO J,ae,gZq (by rw[lTq];lia),eT J,au]
  .rw[pK J,ae,gYq (by rw[lTq];lia),lTq,show min (sa+k) t.toList.length=sa+k by lia]
   by_cases c2:p<sa+n+l
   .rw[pO c2,gZq ∅,au]
   .rw[pK c2,gYq ∅,cV,au]
    congr 1;lia
 have pk:=G _ (aQq ek);have pl:=G _ (aQq el);have B:∀q v,M[q]?=some v->(∃j,k<=j/\j<n/\t[sa+j]?=some v)∨∃j,j<l/\t[sa+n+j]?=some v:=λq v e=>by
  have O:v∈M.toList:=by simpa using aQq e
  rcases mAq.mp (m.pm.mem_iff.mp O)with O|O
  .obtain⟨j,I,X,z⟩:=uA O;exact .inl ⟨j-sa,by lia,by lia,by rw[show sa+(j-sa)=j by lia];exact z⟩
  .obtain⟨j,I,X,z⟩:=uA O;exact .inr ⟨j-(sa+n),by lia,by rw[show sa+n+(j-(sa+n))=j by lia];exact z⟩
 refine⟨⟨?_,λp hp'=>?_⟩,?_⟩
 .rw[Array.perm_iff_toList_perm,L];have c:t.toList=t.toList.take (sa+k)++((t.extract (sa+k) (sa+n)).toList++(t.extract (sa+n) (sa+n+l)).toList)++t.toList.drop (sa+k+M.toList.length):=by
   rw[rP,rP,lM];have Y:=B5 t.toList (sa+k) (sa+n) ∅
   have Q:=B5 t.toList (sa+n) (sa+n+l) ∅
   have a3:sa+k+(n-k+l)=sa+n+l:=by lia
   rw[a3,←ae,←Y,←Q,aZ]
  conv=>rhs;rw[c]
  exact aE.append_right _ (aE.append_left _ m.pm)
 .rw[gz]
  by_cases J:p<sa+k
  .rw[pO J]
  .rw[pK J,pK ∅]
 .intro p q x y Y Q a3 ex u;rw[gz]at ex u
  by_cases p1:p<sa+k
  .rw[pO p1]at ex;have px:=G _ (aQq ex);have lx:lt key x=false:=k2 (p-sa) x ∅ (by rw[show sa+(p-sa)=p by lia];exact ex)
   by_cases q1:q<sa+k
   .rw[pO q1]at u;exact h1 p q _ _ Y Q ∅ ex u
   .rw[pK q1]at u
    by_cases R:q<sa+n+l
    .rw[pO R]at u;rcases B _ _ u with⟨j,I,X,z⟩|⟨j,I,z⟩
     .exact h1 p (sa+j) _ _ Y ∅ ∅ ex z
     .exact C.trans _ _ _ px pk (G _ (aQq z)) lx (U (sa+n) (sa+n+j) _ _ (af _) ∅ ∅ ek z)
    .rw[pK R]at u;exact C.trans _ _ _ px pk (G _ (aQq u)) lx (U (sa+n) q _ _ (af _) ∅ ∅ ek u)
  .rw[pK p1]at ex;rw[pK ∅]at u
   by_cases p2:p<sa+n+l
   .rw[pO p2]at ex
    by_cases R:q<sa+n+l
    .rw[pO R]at u;rcases fU Q with c|c
     .have ex':M.toList[p-(sa+k)]?=some x:=by rw[au];exact ex
      have ey':M.toList[q-(sa+k)]?=some y:=by rw[au];exact u
      obtain⟨hx,e1⟩:=gSq.mp ex';obtain⟨hy,e2⟩:=gSq.mp ey';have:=cc.mp m.so (p-(sa+k)) (q-(sa+k)) hx hy ∅
      rw[e1,e2]at this;exact this
     .subst c;rw[ex]at u;cases u;rcases B _ _ ex with⟨j,I,X,z⟩|⟨j,I,z⟩
      .exact C.refl (G _ (aQq z))
      .exact C.refl (G _ (aQq z))
    .rw[pK R]at u;have py:=G _ (aQq u);rcases B _ _ ex with⟨j,I,X,z⟩|⟨j,I,z⟩
     .exact C.trans _ _ _ (G _ (aQq z)) pl py (h1 (sa+j) (sa+n-1) _ _ ∅ ∅ ∅ z el) (l3 (q-(sa+n)) y ∅ ∅ (by rw[show sa+n+(q-(sa+n))=q by lia];exact u))
     .exact U (sa+n+j) q _ _ ∅ ∅ ∅ z u
   .rw[pK p2]at ex;rw[pK ∅]at u
    exact U p q _ _ ∅ Q ∅ ex u
end
section
variable {E:Ψ}
def SD{α:Type}{l:List α}{a b}(n:l[i]?=some a)(t:l[i+1]?=some b):l=l.take i++a::b::l.drop (i+2):=by
 obtain⟨u,x⟩:=gSq.mp n;obtain⟨z,B⟩:=gSq.mp t
 conv=>lhs;rw[←aZ i l]
 rw[ax u,ax z,x,B]
def OE{α:Type}{q r:List α}{a b c}:((q++a::b::r).set q.length c).eraseIdx (q.length+1)=q++c::r:=by
 rw[List.set_append_right _ _ (af _),dA,List.eraseIdx_append_of_length_le ∅,iD]
 rfl
def Dz(C:zU prog w A s κ P lt){lo}{st}(G:∀x,x∈ki st->P x)(hk:kindOf st=κ)(hf:failedOf st=none)(hlo:lo<=(ki st).size)(O:tK lt (ki st) 0 (lF st).toList lo)
  (hi:i+1<(lF st).size) (h:∀xs p g,zB (ki st) xs 0 lo->p.size+1=(lF st).size->tK lt xs 0 p.toList lo->Q true (SortSt.mk' κ xs p g none)):wpS (jU prog w) A E s (mergeAt' i) Q st:=by
 obtain⟨L,n,z,g0,fl⟩:=st;have hk:L=κ:=hk;have hf:fl=none:=hf;subst hk hf;have G:∀x,x∈n->P x:=G;have hlo:lo<=n.size:=hlo;have O:tK lt n 0 z.toList lo:=O;have hi:i+1<z.size:=hi;have e1:z[i]?=some (z[i]'∅):=ag ∅
 have e2:z[i+1]?=some (z[i+1]'∅):=ag ∅
 generalize z[i]'∅=a at e1
 generalize z[i+1]'∅=b at e2
 obtain⟨sa,u,pa⟩:=a;obtain⟨sb,H,pb⟩:=b;have e1':z.toList[i]?=some (sa,u,pa):=by rw[au];exact e1
 have e2':z.toList[i+1]?=some (sb,H,pb):=by rw[au];exact e2
 have ep:=SD e1' e2';have lq:(z.toList.take i).length=i:=by rw[lTq,ar];lia
 generalize z.toList.take i=q at ep lq;generalize z.toList.drop (i+2)=r at ep;rw[ep]at O;obtain⟨U,c1,c2⟩:=uN.mp O;obtain⟨x1,x2,x3,x4,x5,x6,x7⟩:=c2;have d1:sa=U:=x1;have d2:0<u:=x2;have d3:A7 lt n U (U+u):=x3;have f1:sb=U+u:=x4;have f2:0<H:=x5;have f3:A7 lt n (U+u) (U+u+H):=x6;have f4:tK lt n (U+u+H) r lo:=x7
 clear x1 x2 x3 x4 x5 x6 x7
 subst d1 f1;have hrl:sa+u+H+r.length<=lo:=zM f4;have hql:0+q.length<=sa:=zM c1;have hz:sa+u+H<=n.size:=by lia
 have np:((z.setIfInBounds i (sa,u+H,pa)).eraseIdxIfInBounds (i+1)).toList=q++(sa,u+H,pa)::r:=by
  rw[Array.toList_eraseIdxIfInBounds,hU,ep,←lq];exact OE
 have ns:((z.setIfInBounds i (sa,u+H,pa)).eraseIdxIfInBounds (i+1)).size+1=z.size:=by
  rw[←ar,np,←ar,ep];simp only[lAq,lCq];lia
 have fin:∀X g,zB n X sa (sa+u+H)->A7 lt X sa (sa+u+H)->Q true (SortSt.mk' L X ((z.setIfInBounds i (sa,u+H,pa)).eraseIdxIfInBounds (i+1)) g none):=λX g b1 s1=>by
  refine h X _ g ⟨b1.pm,λk hk=>b1.out k ∅⟩ ns ?_
  rw[np];refine uN.mpr ⟨sa,xn (λk _ k2=>b1.out k (.inl k2)) c1,rfl,by show 0<u+H;lia,?_,?_⟩
  .show A7 lt X sa (sa+(u+H));rw[←gC];exact s1
  .show tK lt X (sa+(u+H)) r lo;rw[←gC];exact xn (λk k1 _=>b1.out k (.inr k1)) f4
 rw[JI];refine jV (lY ?_);dsimp only;rw[e1,e2];dsimp only;refine jV (OZ ?_);have ek:n[sa+u]?=some (n[sa+u]'∅):=ag ∅
 have el:n[sa+u-1]?=some (n[sa+u-1]'∅):=ag ∅
 have pk:=G _ (aQq ek);have pl:=G _ (aQq el);refine jV (qp ek ?_);refine jV (uX C d2 ∅ G pk rfl (Nn C ∅ G pk d3) λk k1 k2 k3=>?_)
 dsimp only;have kl:∀j y,j<k->n[sa+j]?=some y->lt (n[sa+u]'∅) y=false:=λj y hj B=>by
  have:=k2 j hj;rw[uF B,pK ⋯]at this
  simpa using this
 have kh:∀j y,k<=j->j<u->n[sa+j]?=some y->lt (n[sa+u]'∅) y=true:=λj y h1 h2 B=>by
  have:=k3 j h1 h2;rw[uF B,pK ⋯]at this
  simpa using this
 by_cases c1':u-k=0
 .rw[pO (by simp[c1'])]
  refine jX (fin n g0 (zB.refl _ _ _) λp q x y Y R a3 ex B=>?_)
  have px:=G _ (aQq ex);have py:=G _ (aQq B)
  by_cases q1:q<sa+u
  .exact d3 p q _ _ Y R q1 ex B
  .by_cases p1:p<sa+u
   .exact C.trans _ _ _ px pk py (kl (p-sa) x ∅ (by rw[show sa+(p-sa)=p by lia];exact ex)) (f3 (sa+u) q _ _ (af _) ∅ a3 ek B)
   .exact f3 p q _ _ ∅ R a3 ex B
 rw[pK (by simpa using c1')]
 have ea:sa+k+(u-k)-1=sa+u-1:=by lia
 rw[ea];refine jV (qp el ?_);refine jV (uX C ∅ ∅ G pl rfl (Nn C ∅ G pl f3) λl l1 l2 l3=>?_)
 dsimp only;have ll:∀j y,j<l->n[sa+u+j]?=some y->lt y (n[sa+u-1]'∅)=true:=λj y hj B=>by
  have:=l2 j hj;rw[uF B,pO rfl]at this;exact this
 have lh:∀j y,l<=j->j<H->n[sa+u+j]?=some y->lt y (n[sa+u-1]'∅)=false:=λj y h1 h2 B=>by
  have:=l3 j h1 h2;rw[uF B,pO rfl]at this;exact this
 by_cases c2':l=0
 .rw[pO (by simp[c2'])]
  refine jX (fin n g0 (zB.refl _ _ _) λp q x y Y R a3 ex B=>?_)
  have px:=G _ (aQq ex);have py:=G _ (aQq B)
  by_cases q1:q<sa+u
  .exact d3 p q _ _ Y R q1 ex B
  .by_cases p1:p<sa+u
   .exact C.trans _ _ _ px pl py (d3 p (sa+u-1) _ _ Y ∅ ∅ ex el) (lh (q-(sa+u)) y ∅ ∅ (by rw[show sa+u+(q-(sa+u))=q by lia];exact B))
   .exact f3 p q _ _ ∅ R a3 ex B
 rw[pK (by simpa using c2')]
 have sx:yF lt (n.extract (sa+k) (sa+u)).toList:=Dq λp q x y Y R a3 ex B=>d3 p q x y ∅ R a3 ex B
 have sy:yF lt (n.extract (sa+u) (sa+u+l)).toList:=Dq λp q x y Y R a3 ex B=>f3 p q x y Y R ∅ ex B
 have I:∀x,x∈n.extract (sa+k) (sa+u)->P x:=λx I=>by
  obtain⟨j,_,_,e⟩:=uA (iU.mpr I);exact G _ (aQq e)
 have J:∀x,x∈n.extract (sa+u) (sa+u+l)->P x:=λx I=>by
  obtain⟨j,_,_,e⟩:=uA (iU.mpr I);exact G _ (aQq e)
 have zx:(n.extract (sa+k) (sa+u)).size=u-k:=by rw[fZ];lia
 have zy:(n.extract (sa+u) (sa+u+l)).size=l:=by rw[fZ];lia
 have g0':(n.extract (sa+u) (sa+u+l))[0]?=some (n[sa+u]'∅):=by
  rw[iG,pO ∅,jg]
  exact ek
 have gl':(n.extract (sa+k) (sa+u))[u-k-1]?=some (n[sa+u-1]'∅):=by
  rw[iG,pO ∅,show sa+k+(u-k-1)=sa+u-1 by lia]
  exact el
 have low:∀y∈(n.extract (sa+k) (sa+u)).toList,lt y (n[sa+u]'∅)=false:=λy J=>by
  obtain⟨j,j1,j2,ej⟩:=uA J;exact C.asym _ _ pk (G _ (aQq ej)) (kh (j-sa) y ∅ ∅ (by rw[show sa+(j-sa)=j by lia];exact ej))
 have S:∀x∈(n.extract (sa+u) (sa+u+l)).toList,lt (n[sa+u-1]'∅) x=false:=λx I=>by
  obtain⟨j,j1,j2,ej⟩:=uA I;exact C.asym _ _ (G _ (aQq ej)) pl (ll (j-(sa+u)) x ∅ (by rw[show sa+u+(j-(sa+u))=j by lia];exact ej))
 have done:∀M g,UX lt (n.extract (sa+k) (sa+u)) (n.extract (sa+u) (sa+u+l)) M ->
   Q true (SortSt.mk' L (M.toList.zipIdx.foldl (λa x=>a.setIfInBounds (sa+k+x.snd) x.fst) n) ((z.setIfInBounds i (sa,u+H,pa)).eraseIdxIfInBounds (i+1)) g none):=λM g mg=>by
  have lM:M.toList.length=(u-k)+l:=by
   have:=mg.pm.length_eq;simp only[lAq,ar,fZ]at this ⊢;lia
  have wb:=Gg (sa+k) M.toList 0 n ∅
  obtain⟨b1,s1⟩:=Tw C G hz k1 l1 d3 f3 ek el kl lh d2 f2 mg wb;exact fin _ g b1 s1
 by_cases c3:u-k<=l
 .rw[pO c3];refine jV (JH (κ:=L) (a:=n.extract (sa+k) (sa+u)) (b:=n.extract (sa+u) (sa+u+l)) C I J rfl sx sy (by rw[zx];lia) (by rw[zy];lia) (λx ex y J=>?_) (λj hj x I y J=>?_) λM g mg=>?_)
  .rw[g0']at ex;cases ex;exact low y J
  .have hj':j=u-k-1:=by lia
   subst hj';have:y=n[sa+u-1]'∅:=by
    obtain⟨t,t1,t2⟩:=zW J;rw[zx]at t1;have t0:t=0:=by lia
    subst t0;rw[jg,gl']at t2;exact(aA.inj t2).symm
   rw[this];exact S x I
  .refine jV (lO ?_);refine jV (lY ?_);exact jX (done M g mg)
 .rw[pK c3];refine jV (JD (κ:=L) (a:=n.extract (sa+k) (sa+u)) (b:=n.extract (sa+u) (sa+u+l)) C I J rfl sx sy (by rw[zx];lia) (by rw[zy];lia) (λx I y J=>?_) (λx ex y J=>?_) λM g mg=>?_)
  .have:x=n[sa+u]'∅:=by
    obtain⟨t,t1,t2⟩:=zQ I;have t0:t=0:=by lia
    subst t0;rw[cH,g0']at t2;exact(aA.inj t2).symm
   rw[this];exact low y J
  .rw[zx,gl']at ex;cases ex;exact S y J
  .refine jV (lO ?_);refine jV (lY ?_);exact jX (done M g mg)
end
section
variable {E:Ψ}
noncomputable abbrev yx(κ:kG)(l:Array jS)(p:Array (Nat×Nat×Nat))(g:Nat):SortSt:=SortSt.mk' κ l p g none
def Fe{p:Array (Nat×Nat×Nat)}{lo}(h:tK lt l 0 p.toList lo)(hn:0<n)(hs:A7 lt l lo (lo+n)):tK lt l 0 (p.push (lo,n,0)).toList (lo+n):=by
 rw[dR];exact uN.mpr ⟨lo,h,rfl,hn,hs,rfl⟩
def FT(p:Array (Nat×Nat×Nat))i pw:(p.modify i λx=>(x.fst,x.2.fst,pw)).toList.map (λp=>(p.1,p.2.1))=p.toList.map (λp=>(p.1,p.2.1)):=by
 apply cS;intro k;rw[gMq,gMq,au,au,Array.getElem?_modify];split
 .cases p[k]? <;> rfl
 .rfl
def Iq(C:zU prog w A s κ P lt)(hp:∀x,x∈arr->P x)(h2:2<=arr.size)
    (h:∀z p g',z.Perm arr->A7 lt z 0 arr.size->Q () (yx κ z p g')):wpS (jU prog w) A E s sortRuns' Q (yx κ arr #[] g):=by
  rw[sortRuns'_eq];refine jV (lY ?_);dsimp only;have e0:ki (yx κ arr #[] g)=arr:=rfl;rw[e0];generalize minRun' arr.size arr.size 0=mr;refine jV (kL (kF
    (I:=λi c l=>∃lo z p g',c=(none,lo)/\l=yx κ z p g'/\z.Perm arr/\lo<=arr.size/\tK lt z 0 p.toList lo/\i<=lo)
    (Q:=λc l=>∃z p g',c=(none,arr.size)/\l=yx κ z p g'/\z.Perm arr/\tK lt z 0 p.toList arr.size)
    ?step ?fin ⟨0,arr,#[],g,rfl,rfl,ju.refl _,aX _,rfl,af _⟩) ?post)
  case fin=>
    rintro c l ⟨lo,z,p,g',rfl,rfl,M,q2,R,q4⟩;have e:lo=arr.size:=by lia
    subst e;exact⟨z,p,g',rfl,rfl,M,R⟩
  case step=>
    rintro i c l _ hi ⟨lo,z,p,g',rfl,rfl,M,q2,R,q4⟩;dsimp only;have S:∀x,x∈z->P x:=λx hx=>hp x (M.mem_iff.mp hx)
    have hzx:z.size=arr.size:=M.size_eq
    by_cases c1:lo ≥ arr.size
    . rw[pO c1]
      have e:lo=arr.size:=by lia
      subst e;exact jX ⟨z,p,g',rfl,rfl,M,R⟩
    rw[pK c1];refine jV (Hy (st:=yx κ z p g') C S rfl ∅ (by show lo+(arr.size-lo)<=z.size;lia) λn u n1 n2 b1 s1=>?_)
    dsimp only;have hb:zB z u lo (lo+n):=b1;show wpS _ _ _ _ _ _ (yx κ u p g')
    by_cases c2:n<mr
    all_goals
      first
        | (rw[pO c2]
           refine jV (yc ?_);refine jV (LC (st:=yx κ u p g') (n:=min (arr.size-lo) mr) C (hb.mem S) rfl n1 ∅ (by show lo+min (arr.size-lo) mr<=u.size;have:=hb.size;lia) s1 λJ b2 Y=>?_)
           rw[pK ⋯]
           have B:zB z J lo (lo+min (arr.size-lo) mr):=(hb.mono ∅).trans b2
           have nn:1<=min (arr.size-lo) mr:=by lia
           have nl:lo+min (arr.size-lo) mr<=arr.size:=by lia
           show wpS _ _ _ _ _ _ (yx κ J p g')
           clear b1 s1 hb b2
           generalize min (arr.size-lo) mr=nN at B nn nl Y ⊢)
        | (rw[pK c2]
           have B:=hb;have Y:=s1;have nn:=n1;have nl:lo+n<=arr.size:=by lia
           clear b1 s1 hb
           generalize hnN:n=nN at B nn nl Y ⊢;generalize hzs:u=J at B Y ⊢)
      have hpz:=B.mem S;have hzz:=B.size;have hcz:tK lt J 0 p.toList lo:=xn (λk _ k2=>B.out k (.inl k2)) R
      have pz:J.Perm arr:=B.pm.trans M;refine jV (lY ?_);have ep:lF (yx κ J p g')=p:=rfl;rw[ep];cases eb:p.back? with
      |none=>
        dsimp only;refine jV (lO (jX ?_));exact⟨lo+nN,J,p.push (lo,nN,0),g',rfl,rfl,pz,nl,Fe hcz nn Y,by lia⟩
      |some t=>
        obtain⟨s1',n1',pw0⟩:=t;dsimp only;refine jV (kL (kF
          (I:=λi c l=>∃u q g2,c=(none,())/\l=yx κ u q g2/\zB J u 0 lo/\tK lt u 0 q.toList lo)
          (Q:=λc l=>∃u q g2,c=(none,())/\l=yx κ u q g2/\zB J u 0 lo/\tK lt u 0 q.toList lo)
          ?step1 (λc l hh=>hh) ⟨J,p,g',rfl,rfl,zB.refl _ _ _,hcz⟩) ?post1)
        case step1=>
          rintro j c l _ hj ⟨G,q,g2,rfl,rfl,b3,H⟩;refine jV (lY ?_);have eq:lF (yx κ G q g2)=q:=rfl;rw[eq]
          by_cases d1:q.size>1
          . rw[pO d1]
            have eo:q[q.size-2]?=some (q[q.size-2]'∅):=ag ∅
            rw[eo];generalize q[q.size-2]'∅=o
            obtain⟨o1,o2,older⟩:=o;dsimp only;split
            . exact jX ⟨G,q,g2,rfl,rfl,b3,H⟩
            . refine jV (Dz (st:=yx κ G q g2) C (b3.mem hpz) rfl rfl (by show lo<=G.size;have:=b3.size;lia) H (by show q.size-2+1<q.size;lia) λU p3 g3 b4 _ X=>?_)
              rw[pK ⋯]
              exact jX ⟨U,p3,g3,rfl,rfl,b3.trans b4,X⟩
          . rw[pK d1]
            exact jX ⟨G,q,g2,rfl,rfl,b3,H⟩
        case post1=>
          rintro c l ⟨G,q,g2,rfl,rfl,b3,H⟩;dsimp only;refine jV (lO (jV (lO (jX ?_))));have s3:A7 lt G lo (lo+nN):=λa b x y a1 a2 a3 ex ey=>Y a b x y a1 a2 a3 (by rw[←b3.out a (.inr a1)];exact ex) (by rw[←b3.out b (.inr ∅)];exact ey)
          exact⟨lo+nN,G,_,g2,rfl,rfl,b3.pm.trans pz,nl,Fe (BX (FT q _ _) H) nn s3,by lia⟩
  case post=>
    rintro c l ⟨z,p,g',rfl,rfl,M,R⟩;dsimp only;refine jV (kL (kF
      (I:=λi c l=>∃u q g2,c=(none,())/\l=yx κ u q g2/\u.Perm arr/\tK lt u 0 q.toList arr.size/\q.size+i<=arr.size)
      (Q:=λc l=>∃u q g2,c=(none,())/\l=yx κ u q g2/\u.Perm arr/\tK lt u 0 q.toList arr.size/\q.size<=1)
      ?step2 ?fin2 ⟨z,p,g',rfl,rfl,M,R,by have:=zM R;rw[ar]at this;lia⟩) ?post2)
    case fin2=>
      rintro c l ⟨u,q,g2,rfl,rfl,O,L,r3⟩;exact⟨u,q,g2,rfl,rfl,O,L,by lia⟩
    case step2=>
      rintro j c l _ hj ⟨u,q,g2,rfl,rfl,O,L,r3⟩;refine jV (lY ?_);have eq:lF (yx κ u q g2)=q:=rfl;rw[eq]
      by_cases d1:q.size<=1
      . rw[pO d1]
        exact jX ⟨u,q,g2,rfl,rfl,O,L,d1⟩
      rw[pK d1];have hi':∀(b:Prop) [Decidable b],(if b then q.size-2-1 else q.size-2)+1<q.size:=λb _=>by split <;> lia
      refine jV (Dz (st:=yx κ u q g2) C (λx hx=>hp x (O.mem_iff.mp hx)) rfl rfl (by show arr.size<=u.size;have:=O.size_eq;lia) L (hi' _) λU p3 g3 b4 ns X=>?_)
      rw[pK ⋯]
      have ns':p3.size+1=q.size:=ns;exact jX ⟨U,p3,g3,rfl,rfl,b4.pm.trans O,X,by lia⟩
    case post2=>
      rintro c l ⟨u,q,g2,rfl,rfl,O,L,r3⟩;refine jX (h u q g2 O ?_);rw[←ar]at r3;cases eq:q.toList with
      |nil=>
        rw[eq]at L;have r2':0=arr.size:=L;lia
      |cons a r=>
        rw[eq]at L r3;have er:r=[]:=by
          rw[lCq]at r3;exact bV.mp ∅
        subst er;obtain⟨_,_,s3,e3⟩:=L;have e3':=e3;rw[e3']at s3;exact s3
end
end MrS
namespace Xe
open PySem
noncomputable abbrev VEm:Ξ:=[.type "ValueError", .type "Exception", .type "BaseException", .type "object"]
abbrev Lk{α:Type}(M:Model)(h:Heap)(x:Sem α)(r:α):Prop:=
 ∀(A:Around) (Q:α->Shared->Prop) (E:Ψ) (s:Shared),(∀b o,h.get? b=some o->s.heap.get? b=some o)->Q r s->jW M A x Q E s
abbrev Mt(M:Model)(e:Addr)(c0:Value)(b:Bool)(s:Shared):Prop:=∀(A:Around) (Q:Bool->Shared->Prop) (E:Ψ),Q b s->jW M A (excMatches (.ref e) c0) Q E s
end Xe
namespace Mr
abbrev St:=L2.St
open PySem PySem.Spec PyProof.Rows L2
def Jn{fp:Δ}{T:Addr}(I:Inv X oE σ H s)(k:∀b u,b∉fp->s.heap.get? b=some u->h'.get? b=some u)
  (t:∀b∈fp,AH X oE H b) (x:s.heap.objs.size<=T) (new:rq X.prog X.w (qE H T o) h' T o):Inv X oE σ (qE H T o) { s with heap:=h',toks:=t' }:=by
 have hn:=I.hok.fresh x;have B:∀b u,H b=some u->b∉fp:=λb u e z=>by rw[(t b z).1]at e;cases e
 refine I.step (λb hb=>?_) (λb u _ _ l e _=>k b u l e) (λb u _ _ l e _=>⟨u.slots,k b u l e⟩)
  (λb u _ e n=>by rw[pD (az (aR (ak e) x))];exact n) (λb u l e=>⟨u,k b u l e⟩)
  (λb E e=>by rw[pD (rB e hn)];exact e) (λb u E e=>by rw[pD (rB e hn)];exact e) (λb S e=>⟨#[],by rw[pD (rB e hn),e];simp⟩) (λm G=>?_) (λb u e=>?_) I.bare
 .obtain⟨_,J,_,L,M,O⟩:=t b hb;exact⟨L,J,M,O⟩
 .obtain⟨u,P,Q,R,r⟩:=G;exact⟨u,P,Q,k _ u (λz=>(t _ z).2.1 rfl) R,r⟩
 .by_cases hb:b=T
  .subst hb;rw[oY]at e;cases e;exact new
  .rw[pD hb]at e;refine(I.hok b u e).stay (λc v l q=>k c v ?_ q) (λc q=>by rw[pD (rB q hn)];exact q) λc E q=>by rw[pD (rB q hn)];exact q
   rcases l with rfl|l
   .exact B _ u e
   .exact B c _ l
def NJ{fp:Δ}(I:Inv X oE σ H s)(k:∀b u,b∉fp->s.heap.get? b=some u->h'.get? b=some u)
  (t:∀b∈fp,AH X oE H b):Inv X oE σ H { s with heap:=h',toks:=t' }:=by
 have x:∀b u,H b=some u->b∉fp:=λb u e z=>by rw[(t b z).1]at e;cases e
 refine I.step (λb hb=>?_) (λb u _ _ l e _=>k b u l e) (λb u _ _ l e _=>⟨u.slots,k b u l e⟩)
  (λ_ _ _ _ n=>n) (λb u l e=>⟨u,k b u l e⟩) (λ_ _ e=>e) (λ_ _ _ e=>e) (λb Q e=>⟨#[],by rw[e];simp⟩) (λm B=>?_) (λb u e=>?_) I.bare
 .obtain⟨_,E,_,G,J,L⟩:=t b hb;exact⟨G,E,J,L⟩
 .obtain⟨u,M,O,P,r⟩:=B;exact⟨u,M,O,k _ u (λz=>(t _ z).2.1 rfl) P,r⟩
 .refine(I.hok b u e).stay (λc v l q=>k c v ?_ q) (λ_ q=>q) λ_ _ q=>q
  rcases l with rfl|l
  .exact x _ u e
  .exact x c _ l
def HG(I:Inv X oE σ H s)(h:rF X.K H a t)(f:AH X oE H b):a≠b:=by
 intro e;subst e;obtain⟨l,_,_,u,_⟩:=f;rcases h with(h|⟨o,h⟩)|⟨o,x,n,hk,_⟩
 .rw[l]at h;cases h
 .rw[l]at h;cases h
 .have hb:=I.mod.kin a o hk;rcases u with z|z
  .exact I.ok.noex a o hb z
  .exact absurd (aR (ak (I.ok.bs a o hb).1) z) (eJ _)
noncomputable def Ite(K:Ζ)(a:Addr):It:=
  ⟨λi H=>∃l x,rF K H a l/\l[i]?=some x,
   λi H v n=>∃T x,H T=none/\v = .ref T/\n=qE H T (.tup [.int i,x])/\∀l,rF K H a l->l[i]?=some x,
   λi H=>∃l,rF K H a l/\l.length<=i⟩
def PZ{K}a e B(L:e≠B) :
  Hm P w K (.Tuple J k pos) (Ite K a) [e,B] e (λi h=>(∃l,IsEnum h e B i l)/\h.IsListIter B a i) where
 mem:=by simp
 obj:=λi h st b hb=>by
  obtain⟨⟨l,G⟩,o,ho,_,d⟩:=st;rcases aa.mp hb with rfl|hb
  .exact⟨_,G,λv z=>by
    have z':Data.fields _=Data.cell v:=z;cases z'⟩
  .have e:b=B:=by simpa using hb
   subst e;exact⟨o,ho,λv z=>by rw[d]at z;cases z⟩
 keep:=λi h h' st kp=>by
  obtain⟨⟨l,G⟩,n⟩:=st;exact⟨⟨l,kp e ⋯ _ G⟩,n.at λo q=>kp B ⋯ o q⟩
 item:=by
  intro X S hw U hc i oE s σ H E I Q st Y;subst S hw U;obtain⟨xs,x,R,hx⟩:=Y;obtain⟨its,rv,p,hz⟩:=I.list R;obtain⟨u,hu,ru⟩:=rv.get hx;obtain⟨⟨l,G⟩,n⟩:=st;have hil:B<s.heap.objs.size:=by obtain⟨_,q,_⟩:=n;exact ak q
  have M:e<s.heap.objs.size:=ak G;refine wpAny_pyNext_enum_item G n p.isList (x:=u) (by simpa using hu) L λh1 he1 O ht1 hz1 hk1=>⟨_,rfl,?_⟩
  refine wpAny_letOwnedTupleGo_enum he1 λh2 he2 t=>?_
  replace t:cD e h1 h2:=t;have hn:H s.heap.objs.size=none:=I.hok.fresh (af _);refine⟨.ref s.heap.objs.size,qE H s.heap.objs.size (.tup [.int i,x]),?_,rfl,⟨_,x,hn,rfl,rfl,λys hy=>by rw[I.list_inj hy R];exact hx⟩,⟨⟨_,by simpa using he2⟩,O.extBut t.extBut (Ne.symm L)⟩,λb hb=>?_⟩
  .show L2.Inv X oE σ _ { s with heap:=h2,toks:=s.toks+1 }
   refine Jn (s:=s) (fp:=[e,B]) I (λb o hb q=>?_) Q (af _) ⟨by simp only[lCq,cF];rw[kA];decide,[.int i s.toks,u],.cons ⟨_,rfl⟩ (.cons ru .nil),_,t.extBut _ _ (du M) ht1,rfl,_,rfl⟩
   have b1:b≠e:=λz=>hb (by simp[z])
   exact t.extBut b o b1 (hk1 b o b1 (λz=>hb (by simp[z])) q)
  .have hb2:b<s.heap.objs.size:=by
    rcases aa.mp hb with rfl|hb
    .exact M
    .have e:b=B:=by simpa using hb
     subst e;exact hil
   rw[pD (az hb2)];exact(Q b hb).1
 done:=by
  intro X S hw U hc i oE s σ H E I Q st Y;subst S hw U;obtain⟨xs,R,hx⟩:=Y;obtain⟨its,rv,p,hz⟩:=I.list R;obtain⟨⟨l,G⟩,n⟩:=st;have hl:=rv.length;exact wpAny_pyNext_enum_end (I.ok.hd hc) G n p.isList (by simp;lia) λh1 eb=>⟨rfl,NJ (t':=s.toks) (fp:=[e,B]) I (λb o hb q=>eb b o (λz=>hb (by simp[z])) q) Q⟩
 self:=λ_ _ _ _ _ st h=>by
  obtain⟨⟨l,G⟩,_⟩:=st;exact wpAny_pyIter_enum G h
noncomputable def Itz(K:Ζ)(a b:Addr):It:=
  ⟨λi H=>∃l n x y,rF K H a l/\rF K H b n/\l[i]?=some x/\n[i]?=some y,
   λi H v s=>∃T x y,H T=none/\v = .ref T/\s=qE H T (.tup [x,y])/\(∀l,rF K H a l->l[i]?=some x)/\∀n,rF K H b n->n[i]?=some y,
   λi H=>∃l n,rF K H a l/\rF K H b n/\(l.length<=i∨n.length<=i)⟩
structure Z5 (z TI TO i1 i2:Addr):Prop where
 a:TI≠z
 b:TO≠z
 c:i1≠z
 d:i2≠z
 e:TI≠TO
 f:TI≠i1
 g:TI≠i2
 h:TO≠i1
 i:TO≠i2
 j:i1≠i2
def abh(n:Nat):Z5 (n+4) (n+2) (n+3) n (n+1) where
 a:=λ(q)=>by lia
 b:=λ(q)=>by lia
 c:=λ(q)=>by lia
 d:=λ(q)=>by lia
 e:=λ(q)=>by lia
 f:=λ(q)=>by lia
 g:=λ(q)=>by lia
 h:=λ(q)=>by lia
 i:=λ(q)=>by lia
 j:=λ(q)=>by lia
def Q8{K}l1 l2 z TI TO u B(d:Z5 z TI TO u B) :
  Hm P w K (.Tuple elts k pos) (Itz K l1 l2) [z,TI,TO,u,B] z
   (λi h=>IsZip h z TI TO .none/\IsPair h TI (.ref u) (.ref B)/\(∃a b,IsPair h TO a b)/\h.IsListIter u l1 i/\h.IsListIter B l2 i) where
 mem:=by simp
 obj:=λi h st b hb=>by
  obtain⟨hz,l,⟨a,c,n⟩,⟨o1,q1,_,d1⟩,⟨o2,q2,_,d2⟩⟩:=st;simp only[aa,bL,or_false]at hb;rcases hb with rfl|rfl|rfl|rfl|rfl
  .exact⟨_,hz,λv x=>by
    have x':Data.fields _=Data.cell v:=x;cases x'⟩
  .exact⟨_,l,λv x=>by
    have x':Data.seq _ _=Data.cell v:=x;cases x'⟩
  .exact⟨_,n,λv x=>by
    have x':Data.seq _ _=Data.cell v:=x;cases x'⟩
  .exact⟨o1,q1,λv x=>by rw[d1]at x;cases x⟩
  .exact⟨o2,q2,λv x=>by rw[d2]at x;cases x⟩
 keep:=λi h h' st kp=>by
  obtain⟨hz,l,⟨a,c,n⟩,S,U⟩:=st;exact⟨kp z ⋯ _ hz,kp TI ⋯ _ l,⟨a,c,kp TO ⋯ _ n⟩,S.at λo q=>kp u ⋯ o q,U.at λo q=>kp B ⋯ o q⟩
 item:=by
  intro X hP hw hK hc i oE s σ H E I O st hg;subst hP hw hK;obtain⟨xs,ys,x,y,G,J,Y,hy⟩:=hg;obtain⟨its1,Q,p1,_⟩:=I.list G;obtain⟨its2,R,p2,_⟩:=I.list J;obtain⟨u1,hu1,ru1⟩:=Q.get Y;obtain⟨u2,hu2,ru2⟩:=R.get hy;obtain⟨hz,l,⟨a,c,n⟩,S,U⟩:=st;have L:∀b∈[z,TI,TO,u,B],l1≠b:=λb hb=>HG I G (O b hb)
  have M:∀b∈[z,TI,TO,u,B],l2≠b:=λb hb=>HG I J (O b hb)
  have D:ZipApart z TI TO u B l1 l2:=⟨d.a,d.b,d.c,d.d,d.e,d.f,d.g,d.h,d.i,d.j,L z ⋯,L TO ⋯,L u ⋯,L B ⋯,M z ⋯,M TO ⋯,M u ⋯,M B ⋯⟩
  have hzl:z<s.heap.objs.size:=ak hz;refine wpAny_pyNext_zip_item D hz l n S U p1.isList p2.isList (x:=u1) (y:=u2) (by simpa using hu1) (by simpa using hu2) λg1 hz1 hTO1 g11 g12 hT1 hsz1 hk1=>⟨_,rfl,?_⟩
  refine wpAny_letOwnedTupleGo_zip hz1 λg2 hz2 t=>?_
  replace t:cD z g1 g2:=t;have hn:H s.heap.objs.size=none:=I.hok.fresh (af _);refine⟨.ref s.heap.objs.size,qE H s.heap.objs.size (.tup [x,y]),?_,rfl,⟨_,x,y,hn,rfl,rfl,λws hw=>by rw[I.list_inj hw G];exact Y,λws hw=>by rw[I.list_inj hw J];exact hy⟩,
   ⟨hz2,t.extBut _ _ d.a (hk1 _ _ d.a d.e d.f d.g l),⟨_,_,t.extBut _ _ d.b hTO1⟩,g11.extBut t.extBut d.c,g12.extBut t.extBut d.d⟩,λb hb=>?_⟩
  .show L2.Inv X oE σ _ { s with heap:=g2,toks:=s.toks }
   refine Jn (s:=s) (fp:=[z,TI,TO,u,B]) I (λb o hb q=>?_) O (af _) ⟨by simp only[lCq,cF];rw[kA];decide,[u1,u2],.cons ru1 (.cons ru2 .nil),_,t.extBut _ _ (du hzl) hT1,rfl,_,rfl⟩
   have b1:b≠z:=λe=>hb (by simp[e])
   exact t.extBut b o b1 (hk1 b o b1 (λe=>hb (by simp[e])) (λe=>hb (by simp[e])) (λe=>hb (by simp[e])) q)
  .have hb2:b<s.heap.objs.size:=by
    have hb':=hb;simp only[aa,bL,or_false]at hb';rcases hb' with rfl|rfl|rfl|rfl|rfl
    .exact hzl
    .exact ak l
    .exact ak n
    .obtain⟨_,q,_⟩:=S;exact ak q
    .obtain⟨_,q,_⟩:=U;exact ak q
   rw[pD (az hb2)];exact(O b hb).1
 done:=by
  intro X hP hw hK hc i oE s σ H E I O st hg;subst hP hw hK;obtain⟨xs,ys,G,J,Y⟩:=hg;obtain⟨its1,Q,p1,_⟩:=I.list G;obtain⟨its2,R,p2,_⟩:=I.list J;obtain⟨hz,l,⟨a,c,n⟩,S,U⟩:=st;have L:=λb hb=>HG I G (O b hb)
  have M:=λb hb=>HG I J (O b hb)
  have D:ZipApart z TI TO u B l1 l2:=⟨d.a,d.b,d.c,d.d,d.e,d.f,d.g,d.h,d.i,d.j,L z ⋯,L TO ⋯,L u ⋯,L B ⋯,M z ⋯,M TO ⋯,M u ⋯,M B ⋯⟩
  have e1:=Q.length;have e2:=R.length;refine wpAny_pyNext_zip_end (I.ok.hd hc) D hz l n S U p1.isList p2.isList ?_ λg1 eb=>⟨rfl,NJ I (λb o hb q=>eb b o (λe=>hb (by simp[e])) (λe=>hb (by simp[e])) (λe=>hb (by simp[e])) (λe=>hb (by simp[e])) q) O⟩
  rcases Y with Y|Y
  .exact .inl (by simp;lia)
  .exact .inr (by simp;lia)
 self:=λ_ _ _ _ _ st h=>wpAny_pyIter_zip st.1 h
def XJ(K:Ζ)(n:TA):TI:=λσ H R=>n σ H λvs l=>∃a,vs=[.ref a]/\(∃s,rF K l a s)/\R (Ite K a) l
def Wv(G:Gl X "enumerate")(J:X.mg "enumerate" = none)(ha:PA X [e] B)(hs:kf [e] X.env=[(false,eval e X.env)]:=by rfl) :
  PI X (.Tuple elts kk tpos) (.Call (.Name "enumerate" p) [e] [] pos) (XJ X.K B):=by
 intro L s σ H R I h;refine Call_ (vA I G J boot_enumerate (bD (thn (ha pos L s σ H _ I h) λus n x=>?_) hs rfl))
 obtain⟨vs,M,t,O,P⟩:=x;obtain⟨a,Q,⟨xs,S⟩,q⟩:=P;subst Q;obtain⟨u,rfl,U⟩:=vH O;cases U;obtain⟨Y,rv,p1,hz⟩:=t.list S;refine call_enumerate_list p1.isList λg E z hsz hk=>wpAny_pyIter_enum E ?_
 refine⟨n.heap.objs.size+1,[n.heap.objs.size+1,n.heap.objs.size],_,_,M,rfl,t.kept hk,PZ a _ _ (Nat.succ_ne_self _),⟨⟨_,E⟩,z⟩,λb hb=>?_,q⟩
 have l:n.heap.objs.size<=b:=by
  simp only[aa,bL,or_false]at hb;rcases hb with rfl|rfl
  .exact bP _
  .exact af _
 exact t.fpOk l (t.hok.fresh l)
def Yn(K:Ζ)(n:TA):TI:=λσ H R=>n σ H λvs l=>∃a b,vs=[.ref a,.ref b]/\(∃s,rF K l a s)/\(∃t,rF K l b t)/\R (Itz K a b) l
def S4(Q:Gl X "zip")(S:X.mg "zip" = none)(ha:PA X [e,f] J)(hs:kf [e,f] X.env=[(false,eval e X.env),(false,eval f X.env)]:=by rfl)(n:kf [f] X.env=[(false,eval f X.env)]:=by rfl) :
  PI X (.Tuple elts kk tpos) (.Call (.Name "zip" p) [e,f] [] pos) (Yn X.K J):=by
 intro U s σ H R I h;refine Call_ (vA I Q S boot_zip (bD (thn (ha pos U s σ H _ I h) λus l ⟨vs,Y,t,r1,q1⟩=>?_) (by rw[hs,n]) (by rw[n];rfl)))
 obtain⟨a,b,e1,⟨xs,z⟩,⟨ys,B⟩,q⟩:=q1;subst e1;obtain⟨u,v,rfl,ru,rv⟩:=Tn r1;cases ru;cases rv;obtain⟨L,_,p1,_⟩:=t.list z;obtain⟨M,_,p2,_⟩:=t.list B;refine call_zip_2 p1.isList p2.isList λg O E G h1 h2 hsz hk=>wpAny_pyIter_zip O ?_
 refine⟨l.heap.objs.size+4,[l.heap.objs.size+4,l.heap.objs.size+2,l.heap.objs.size+3,l.heap.objs.size,l.heap.objs.size+1],_,_,Y,rfl,t.kept hk,
  Q8 a b _ _ _ _ _ (abh l.heap.objs.size),⟨O,E,⟨_,_,G⟩,h1,h2⟩,λc P=>?_,q⟩
 have x:l.heap.objs.size<=c:=by
  simp only[aa,bL,or_false]at P;rcases P with rfl|rfl|rfl|rfl|rfl
  .exact gD _ _
  .exact gD _ _
  .exact gD _ _
  .exact af _
  .exact gD _ _
 exact t.fpOk x (t.hok.fresh x)
def QK{K}{G:TS}{D:AI}(n:Nat->St->Hp->Prop)(J:n 0 σ H)(hl:∀i σ H,i<=l.length->n i σ H->rF K H a l)
  (hs:∀i x σ H T,l[i]?=some x->n i σ H->H T=none->G { D with nx:=n (i+1),ct:=n (i+1),bk:=D.nx } ((σ.set B (some (.int i))).set E (some x)) (qE H T (.tup [.int i,x]))) (hd:∀σ H,n l.length σ H->D.nx σ H) :
  ∃W:Nat->Nat->St->Hp->Prop,(∃m,W 0 m σ H)/\∀i m σ H,W i m σ H ->
   ((Ite K a).stop i H/\D.nx σ H)∨((Ite K a).go i H/\∃N:St->Hp->Prop,(∀s t,N s t->∃I,I<m/\W (i+1) I s t)/\∀x t,(Ite K a).yld i H x t->Lb K 2 (ya (rA B) (ya (rA E) KH)) x σ t λz L=>G { D with nx:=N,ct:=N,bk:=D.nx } z L):=by
 refine⟨λi m σ H=>m=l.length-i/\i<=l.length/\n i σ H,⟨l.length,by simp,aX _,J⟩,?_⟩
 rintro i m σ H ⟨rfl,hi,p⟩;have q:=hl i σ H hi p
 by_cases u:i<l.length
 .refine .inr ⟨⟨l,l[i],q,by simp[u]⟩,n (i+1),λs t M=>⟨l.length-(i+1),by lia,rfl,u,M⟩,λv t y=>?_⟩
  obtain⟨T,x,O,rfl,rfl,P⟩:=y;exact⟨T,_,rfl,DG.of oY,rfl,_,_,rfl,_,_,rfl,rfl,hs i x σ H T (P l q) p O⟩
 .have e:i=l.length:=by lia
  subst e;exact .inl ⟨⟨l,q,af _⟩,hd σ H p⟩
def WE{K}{M:TS}{D:AI}(n:Nat->St->Hp->Prop)(P:n 0 σ H)(B:l.length=s.length)
  (hl:∀i σ H,i<=l.length->n i σ H->rF K H a l/\rF K H b s)
  (hs:∀i x y σ H T,l[i]?=some x->s[i]?=some y->n i σ H->H T=none->M { D with nx:=n (i+1),ct:=n (i+1),bk:=D.nx } ((σ.set J (some x)).set L (some y)) (qE H T (.tup [x,y]))) (hd:∀σ H,n l.length σ H->D.nx σ H) :
  ∃W:Nat->Nat->St->Hp->Prop,(∃m,W 0 m σ H)/\∀i m σ H,W i m σ H ->
   ((Itz K a b).stop i H/\D.nx σ H)∨((Itz K a b).go i H/\∃N:St->Hp->Prop,(∀t u,N t u->∃O,O<m/\W (i+1) O t u)/\∀x u,(Itz K a b).yld i H x u->Lb K 2 (ya (rA J) (ya (rA L) KH)) x σ u λE Q=>M { D with nx:=N,ct:=N,bk:=D.nx } E Q):=by
 refine⟨λi m σ H=>m=l.length-i/\i<=l.length/\n i σ H,⟨l.length,by simp,aX _,P⟩,?_⟩
 rintro i m σ H ⟨rfl,hi,p⟩;obtain⟨G,I⟩:=hl i σ H hi p
 by_cases z:i<l.length
 .refine .inr ⟨⟨l,s,l[i],s[i],G,I,by simp[z],by simp[B ▸ z]⟩,n (i+1),λt u R=>⟨l.length-(i+1),by lia,rfl,z,R⟩,λv u y=>?_⟩
  obtain⟨T,x,y,S,rfl,rfl,U,X⟩:=y;exact⟨T,_,rfl,DG.of oY,rfl,_,_,rfl,_,_,rfl,rfl,hs i x y σ H T (U l G) (X s I) p S⟩
 .have e:i=l.length:=by lia
  subst e;exact .inl ⟨⟨l,s,G,I,.inl (af _)⟩,hd σ H p⟩
def BM{σ:St}{ns:Ϝ}(I:Inv X n σ H s)(h:rF X.K H a (ns.map V.int)) :
  ∃vs:Ξ,s.heap.IsList a vs.toArray/\kx vs ns/\ns.length<=jY:=by
 obtain⟨l,r,p,z⟩:=I.list h;rw[lMq]at z;exact⟨l,p.isList,yX r,z⟩
def OU(J:X.calm=true):uf X (.builtin "min") (λl H Q=>∃(a:Addr) (ns:Ϝ),l=[.ref a]/\rF X.K H a (ns.map V.int)/\0<ns.length/\∀M,M∈ns->(∀x,x∈ns->M<=x)->Q (.int M) H):=by
 intro U s σ H l Y Q I r h;obtain⟨a,ns,rfl,L,z,q⟩:=h;obtain⟨u,rfl,O⟩:=vH r;cases O;obtain⟨vs,hl,hi,_⟩:=BM I L;obtain⟨l,e⟩:=hi.allInts.items;have n:ns=l.toList.map (·.1):=by
  rw[←hi.numsOf,←nums_intItems,←e]
 have B:0<l.size:=by
  have E:=z;rw[n,lMq]at E;exact E
 rw[e]at hl;refine min_intList (I.ok.hd J) hl B λv h' tk P hk=>?_
 obtain⟨t,rfl⟩:=intItems_at P;obtain⟨h1,R⟩:=argBest_lt (numAt l) (l.size-1);refine⟨.int _,H,I.kept hk,⟨t,rfl⟩,q _ ?_ λx G=>?_⟩
 .rw[n,numAt_eq];exact PySem.getD_mem (by rw[lMq,ar];lia)
 .rw[n]at G;obtain⟨j,S,rfl⟩:=PySem.mem_getD G;rw[lMq,ar]at S;rw[←numAt_eq];exact R j ∅
def UJ(K:Ζ):V->List V->Hp->VK->Prop:=λx vs H Q=>∃(a:Addr) (ns:Ϝ) (k:Int),x = .ref a/\vs=[.int k]/\rF K H a (ns.map V.int)/\k∈ns/\Q (.int (ns.idxOf k:Nat)) H
def Te:MtR X "list.index" (UJ X.K):=by
 intro oE s σ H x xs v us Q I P r h;obtain⟨a,L,k,rfl,rfl,R,hk,q⟩:=h;cases P;obtain⟨u,rfl,t,rfl⟩:=vH r;obtain⟨l,S,⟨o,n,M,U,B,hd⟩,Y⟩:=I.list R;have hi:=yX S;obtain⟨cls,dd,O,sl⟩:=o;subst U B hd;have z:=hi.length;have E:=fT.mpr hk;have hs:=kA;rw[lMq]at Y;refine lS iE ⟨_,M,rfl⟩ PySem.F.entry_list_index (PySem.F.args_list_index_2 _ _)
  (SeqAt.list_indexAt a l.toArray n none sl (.int k t) (isInt k) (L.idxOf k) (by simpa[z]using E) ∅ ?_ ?_) ⟨M,λy hy=>(eq_isInt k t hi y (by simpa using hy)).at _ _,?_⟩
 .show isInt k l[L.idxOf k]=true;rw[isInt_at k hi _ ∅ E]
  simpa using fV E
 .intro j G J;show isInt k l[j]=false;rw[isInt_at k hi j (by simpa using G) ∅]
  exact ne_of_lt_idxOf J _
 .exact⟨.int _,H,I.tok _,⟨_,rfl⟩,q⟩
def Z6(K:Ζ)(x:V)(H:Hp)(T:String)(b:Bool):Prop:=
 match x with
 | .int _=>(T = "int" /\ b=true)∨(T = "bool" /\ b=false)
 | .bl _=>(T = "bool" /\ b=true)∨(T = "int" /\ b=true)
 | .str _=>T = "str" /\ b=true
 | .ref p=>(T = "list" /\ b=true/\∃l,rF K H p l)∨(T = "dict" /\ b=true/\∃kvs,H p=some (.dK kvs))∨(T = "tuple" /\ b=true/\∃l,DG K H p l)
 |_=>False
def QA:uf X (.builtin "isinstance") (λl H Q=>∃x T b,l=[x,.ty T]/\Z6 X.K x H T b/\Q (.bl b) H):=by
 intro G s σ H l S Q I r h;obtain⟨x,T,b,rfl,e,q⟩:=h;obtain⟨u,v,rfl,n,J⟩:=Tn r;cases J;cases x with
 |int i=>
  obtain⟨t,rfl⟩:=n;rcases e with⟨rfl,rfl⟩|⟨rfl,rfl⟩
  .exact kj (kU (Tx:= "int") F.isi_meta_int F.sub_int_int) ⟨(show s.TypeIs (.int i t) "int" from rfl),⟨.bl true,H,I,rfl,q⟩⟩
  .exact kj (lL (by trivial) F.isi_meta_bool F.sub_int_bool) (show EP X G σ Q (.bool false) { s with toks:=s.toks+1 } from ⟨.bl false,H,I.tok _,rfl,q⟩)
 |bl i=>
  cases n;rcases e with⟨rfl,rfl⟩|⟨rfl,rfl⟩
  .exact kj (kU (Tx:= "bool") F.isi_meta_bool F.sub_bool_bool) ⟨(show s.TypeIs (.bool i) "bool" from rfl),⟨.bl true,H,I,rfl,q⟩⟩
  .exact kj (kU (Tx:= "bool") F.isi_meta_int F.sub_bool_int) ⟨(show s.TypeIs (.bool i) "bool" from rfl),⟨.bl true,H,I,rfl,q⟩⟩
 |str i=>
  obtain⟨t,rfl⟩:=n;obtain⟨rfl,rfl⟩:=e;exact kj (kU (Tx:= "str") F.isi_meta_str F.sub_str_str) ⟨(show s.TypeIs (.str i t) "str" from rfl),⟨.bl true,H,I,rfl,q⟩⟩
 |ref p=>
  cases n;rcases e with⟨rfl,rfl,l,z⟩|⟨rfl,rfl,B,L⟩|⟨rfl,rfl,l,z⟩
  .obtain⟨E,M,pl,O⟩:=I.list z;exact kj (kU F.isi_meta_list (by kernel_rfl)) ⟨pl.isList.typeIs,⟨.bl true,H,I,rfl,q⟩⟩
  .have ty:=(aaA I (.inl ⟨B,.inl L⟩)).1;exact kj (kU F.isi_meta_dict (by kernel_rfl)) ⟨ty,⟨.bl true,H,I,rfl,q⟩⟩
  .obtain⟨E,M,⟨o,P,R,_⟩,O⟩:=I.tuple z;exact kj (kU F.isi_meta_tuple (by kernel_rfl)) ⟨⟨o,P,R⟩,⟨.bl true,H,I,rfl,q⟩⟩
 |_=>exact(e).elim
end Mr
namespace Mr
open PySem L2
structure yu (K:Ζ)(mg:Str->Υ)(x:Str)(st:Stmt)(ps:List Str)(f:Addr)(fd:ky):Prop where
 F:Xr K x x st f fd
 m:mg x=some (.ref f)
 b:AJ K fd ps []
def uE(h:H p=none):qd H (qE H p o):=λb u e=>by
 rw[pD (rB e h)];exact e
end Mr
namespace Mr
open PySem PySem.Spec PyProof.Rows L2
def Kb(I:Nat->Shared->Prop)
  (turn:∀n s,I n s->jW (jU prog w) A (mB Y) (λr t=>match r with
   |none=>R (.ok .next) t
   |some v=>jW (jU prog w) A (mK l Y v) (λ_ B=>jW (jU prog w) A (assign l env v) (λ_ E=>
     jW (jU prog w) A (forIn O true λc r=>if r=true then do let ok ←isTrue c env (eval c env);pure (ForInStep.yield ok)else pure (ForInStep.yield r)) (λok u=>
      if ok=true then jW (jU prog w) A (eval M env) (λx G=>
       jW (jU prog w) A (call (.builtin "list.append") [P,x]) (λ_ H=>∃m,m<n/\I m H) (λ_ _=>False) G) (λ_ _=>False) u
      else ∃m,m<n/\I m u) (λ_ _=>False) E) (λ_ _=>False) B) (λ_ _=>False) t) (λ_ _=>False) s)
  n (h:I n s):kZ (jU prog w) A (.compLoop (.ListComp M [⟨l,iter,O,0⟩] scope pos) 0 Y P env) R s:=by
 refine codeAny_loop rfl I (λn s hI=>?_) n h
 refine wpAny_noted ?_;refine jR (wpAny_standAt (jR (kB (turn n s hI) (λr t J=>?_) λ_ _ z=>z.elim)))
 cases r with
 |none=>exact jT J
 |some v=>
  refine jR (kB J (λ_ B Q=>?_) λ_ _ z=>z.elim)
  refine jR (kB Q (λ_ E S=>?_) λ_ _ z=>z.elim)
  refine jR (kB S (λok u L=>?_) λ_ _ z=>z.elim)
  cases ok with
  |false=>exact jT ⟨rfl,L⟩
  |true=>exact jR (jR (kB L (λx G U=>jR (kB U (λ_ H X=>jT (jT ⟨rfl,X⟩)) λ_ _ z=>z.elim)) λ_ _ z=>z.elim))
noncomputable abbrev rQ(X:Cx)(scope:kW)(cl:List (Str×Addr))(N:List Str)(C:Addr)(s:Shared)(H:Hp)(fp:Δ):Cx where
 prog:=X.prog
 w:=X.w
 K:=X.K
 mg:=X.mg
 base:=X.base
 A:=X.A
 N:=N
 s₀:=s
 H₀:=H
 env:=compEnvC scope cl C X.env
 outer:=X.stack
 stack:=X.stack
 ex:=fp
 fn:=λ_=>false
 calm:=X.calm
 pn:=[]
 xe:=λ_ _=>False
def PF(X:Cx)(l:List Expr)(t:TT):Prop:=
 ∀n s (σ:St) H Q,Inv X n σ H s->t σ H Q ->
  jW (jU X.prog X.w) X.A (forIn l true λc r=>if r=true then do let ok ←isTrue c X.env (eval c X.env);pure (ForInStep.yield ok)else pure (ForInStep.yield r)) (TP X n σ Q) X.xe s
def abL:TT:=λ_ H Q=>Q true H
def C6:PF X [] abL:=λ_ _ _ H _ I h=>wpAny_tests_nil ⟨H,I,h⟩
def Ra(h:PT X c t):PF X [c] t:=λl s σ H Q I q=>wpAny_tests_one (h l s σ H Q I q)
structure wQ (X:Cx)(scope:kW)(cl:List (Str×Addr))(x:Str)(N:List Str)(fr:Θ):Prop where
 names:N.Nodup
 own:N[0]?=some x
 len:N.length=fr.length+1
 sub:∀y c,cl.lookup y=some c->X.env.cells.lookup y=some c
 has:∀y,((kJ scope X.env).names.lookup y=some .cell∨(kJ scope X.env).names.lookup y=some .free)->∃c,cl.lookup y=some c
 get:∀(k j:Nat) (y:Str),fr[k]?=some j->N[k+1]?=some y->X.N[j]?=some y/\X.env.scope.names.lookup y=some .cell/\(kJ scope X.env).names.lookup y=some .cell
structure RH (X:Cx)(scope:kW)(cl:List (Str×Addr))(q:Nat)(N:List Str)(fr:Θ):Prop where
 len:N.length=fr.length+q
 sub:∀y c,cl.lookup y=some c->X.env.cells.lookup y=some c
 has:∀y,((kJ scope X.env).names.lookup y=some .cell∨(kJ scope X.env).names.lookup y=some .free)->∃c,cl.lookup y=some c
 get:∀(k j:Nat) (y:Str),fr[k]?=some j->N[k+q]?=some y->X.N[j]?=some y/\X.env.scope.names.lookup y=some .cell/\(kJ scope X.env).names.lookup y=some .cell
def wQ.g(h:wQ X scope cl x N fr):RH X scope cl 1 N fr:=⟨h.len,h.sub,h.has,h.get⟩
def wQ.none(h:∀p∈scope.names,p.2 ≠ .cell/\p.2 ≠ .free):wQ X scope [] x [x] [] where
 names:=by simp
 own:=rfl
 len:=rfl
 sub:=λy c e=>by cases e
 has:=λy e=>by
  exfalso;have key:∀p∈(kJ scope X.env).names,p.2 ≠ .cell/\p.2 ≠ .free:=by
   intro p s;obtain⟨q,t,rfl⟩:=mMq.mp s;obtain⟨n,k⟩:=q;obtain⟨u,l⟩:=h _ t;have hk:(k == NameKind.free)=false:=by simpa using l
   simp only[hk,iS];exact⟨u,l⟩
  rcases e with e|e
  .exact(key _ (PySem.mem_of_lookup e)).1 rfl
  .exact(key _ (PySem.mem_of_lookup e)).2 rfl
 get:=λk j y e _=>by cases e
noncomputable def slots(σ:St)(fr:Θ):St:=fr.map λj=>(σ[j]?).join
def M4(E:TI)(fr:Θ)(G:TT)(te:TE):TE:=λσ H Q=>E σ H λJ t=>∀l,t l=none->∃W:Nat->Nat->Hp->Prop,(∃m,W 0 m (qE t l (.lst [])))/\∀i m H,W i m H ->
 (J.stop i H/\Q (.ref l) H) ∨
 (J.go i H/\∃N:Hp->Prop,(∀n,N n->∃u,u<m/\W (i+1) u n)/\∀x n,J.yld i H x n->G (some x::slots σ fr) n λb z=>
  if b=true then te (some x::slots σ fr) z λy B=>∃s,B l=some (.lst s)/\s.length<jY/\N (qE B l (.lst (s++[y])))else N z)
def Dw{own:St->Prop}{E:Ψ}{RR:Value->Addr->ni->Shared->Prop}{Q:VK}
  (hc:X.calm=true) (hcell:∀y∈scope.names,y.2 ≠ .cell) (hkind:scope.kind = .function) (hF:RH X scope cl q N fr) (pg:∀C s H fp,PG (rQ X scope cl N C s H fp) tg gq) (hw:∀Y,own Y->∃ws:St,ws.length=q/\Y=ws++slots σ fr)
  (hf:∀C s H fp,PF (rQ X scope cl N C s H fp) ifs tf) (he:∀C s H fp,PE (rQ X scope cl N C s H fp) elt te)
  (I:Inv X oE σ H s) (T:Hm X.prog X.w X.K tg J fp it tn) (st:tn 0 s.heap) (O:∀b∈fp,AH X oE H b)
  (h:∀L,H L=none->∃W:Nat->Nat->Hp->Prop,(∃m,W 0 m (qE H L (.lst [])))/\∀i m H,W i m H ->
   (J.stop i H/\Q (.ref L) H) ∨
   (J.go i H/\∃N:Hp->Prop,(∀R,N R->∃m',m'<m/\W (i+1) m' R)/\∀x R,J.yld i H x R->∀vs:St,vs.length=q->gq x (vs++slots σ fr) R λY H1=>own Y/\tf Y H1 λb H2=>
    if b=true then te Y H2 λy H3=>∃ys,H3 L=some (.lst ys)/\ys.length<jY/\N (qE H3 L (.lst (ys++[y])))else N H2))
  (fin:∀L C s' Hf m,Inv X oE σ Hf s'->s'.heap.Ns C m->AH X oE Hf C->Q (.ref L) Hf->RR (.ref L) C (.ok .next) s') :
  jW (jU X.prog X.w) X.A (newList []) (λL S=>jW (jU X.prog X.w) X.A (nJ scope X.env.globals cl [] X.env.qual none .none (some X.env)) (λcenv s₄=>
   kZ (jU X.prog X.w) X.A (.compStart (.ListComp elt [⟨tg,iter,ifs,0⟩] scope pos) 0 (.ref it) L { cenv with scope:=kJ scope X.env }) (RR L cenv.locals) s₄) E S) E s:=by
 refine kX (wpAny_newFunctionEnv hcell (by intro y hy;simp at hy) (λM P B=>?_) hkind)
 dsimp only at P B ⊢;generalize hG:s.heap.push { cls:=.type "list", dict:=none,data:=.seq ([]:Ξ).toArray }=G at P B ⊢;have hC:G.objs.size=s.heap.objs.size+1:=by rw[←hG,iT]
 have hCle:s.heap.objs.size<=G.objs.size:=by rw[hC];exact bP _
 have hDC:s.heap.objs.size≠G.objs.size:=by rw[hC];exact az (dC _)
 have below:∀b,b<s.heap.objs.size->b≠G.objs.size:=λb hb=>by rw[hC];exact az (cR hb)
 have old:∀b o,s.heap.get? b=some o->M.get? b=some o:=λb o e=>B.extBut b o (below b (ak e)) (ai _ (hG ▸ ai _ e))
 have hacc:M.get? s.heap.objs.size=some { cls:=.type "list", data:=.seq ([]:Ξ).toArray }:=B.extBut _ _ hDC (ai _ (hG ▸ aD _ rfl));have hn:H s.heap.objs.size=none:=I.hok.fresh (af _);have hnC:H G.objs.size=none:=I.hok.fresh hCle;have fpl:∀b∈fp,b<s.heap.objs.size:=λb hb=>by
  obtain⟨o,q,_⟩:=T.obj 0 _ st b hb;exact ak q
 obtain⟨W,⟨m0,w0⟩,turn⟩:=h _ hn;have ok':(rQ X scope cl N G.objs.size s H fp).Ok:=by
  refine⟨I.ok.mod,by show(kJ scope X.env).kind = .function;exact hkind,I.ok.glob,I.ok.blt,hCle,λy z c h1 h2=>I.ok.inj y z c (hF.sub y c h1) (hF.sub z c h2),hF.has,λ_ _ z _=>(by cases z),I.ok.hd,I.ok.frames,.inl rfl,
   λb hb=>⟨below b (fpl b hb),λy c e=>(O b hb).2.2.2.2.1 y c (hF.sub y c e)⟩,λb o e=>⟨(I.bs b o e).1,(I.bs b o e).2⟩,cz I.ok.bsz I.sz,λb o e hb=>?_,λb hb z=>?_,I.stack,I.stkFree⟩
  .rcases(O b hb).2.2.2.1 with q|q
   .exact I.ok.noex b o e q
   .exact absurd (aR (ak (I.ok.bs b o e).1) q) (eJ _)
  .rcases aa.mp (I.stkSub b z)with q|q
   .exact(O b hb).2.1 q
   .exact(O b hb).2.2.1 q
 have I0:Inv (rQ X scope cl N G.objs.size s H fp) [] (aV q none++slots σ fr) (qE H s.heap.objs.size (.lst [])) { s with heap:=M,toks:=s.toks+([]:List (Str×Value)).length }:=by
  have hok1:Bu X.prog X.w (qE H s.heap.objs.size (.lst [])) M:=I.hok.laid old (af _) ⟨aX _,[],0,.nil,hacc⟩;refine⟨ok',rfl,I.bare,Un.laid old (af _) hn,⟨_,P,λk y v e1 e2 e3=>?_⟩,λy c e=>?_,?_,λy c e=>?_,λp hp=>absurd (show p∈([]:Φ)from hp) ⋯,hok1,?_⟩
  .by_cases kq:k<q
   .have e2:(aV q none++slots σ fr)[k]?=some (some v):=e2;rw[gZq (by rw[bU];exact kq),bK,pO kq]at e2
    cases e2
   .obtain⟨k,rfl⟩:∃j,k=j+q:=⟨k-q,by lia⟩
    have U:(aV q none++slots σ fr)[k+q]?=some (some v):=e2;rw[gYq (by rw[bU];lia),bU,fi]at U
    unfold slots at U;rw[gMq]at U;cases ej:fr[k]? with
    |none=>rw[ej]at U;cases U
    |some j=>
     rw[ej]at U;have e2j:(σ[j]?).join=some v:=aA.inj U;have e2s:σ[j]?=some (some v):=by
      cases q:σ[j]? with
      |none=>rw[q]at e2j;cases e2j
      |some z=>rw[q]at e2j;exact congrArg some e2j
     obtain⟨g1,g2,g3⟩:=hF.get k j y ej e1;obtain⟨m,_,hl⟩:=I.loc;obtain⟨u,r,l⟩:=hl j y v g1 e2s (.inr (.inl g2));refine⟨u,r,.inr ⟨.inl g3,?_⟩⟩;obtain⟨c,e⟩:=hF.has y (.inl g3);have e':=hF.sub y c e;rcases l with⟨l1,_⟩|⟨_,c',ec,hcell'⟩
     .have l1':X.env.scope.names.lookup y=some .local:=l1;rw[g2]at l1';cases l1'
     .rw[e']at ec;cases ec;obtain⟨o,ho,hd⟩:=hcell';exact⟨c,e,o,old c o ho,hd⟩
  .obtain⟨v,o,ho,hd⟩:=I.cell y c (hF.sub y c e);exact⟨v,o,old c o ho,hd⟩
  .show qE H s.heap.objs.size (.lst []) G.objs.size=none;rw[pD (Ne.symm hDC)];exact hnC
  .obtain⟨v,o,ho,hd⟩:=I.cell y c (hF.sub y c e);rw[pD (az (ak ho))];exact I.freeC y c (hF.sub y c e)
  .show(aV q none++slots σ fr).length=N.length;unfold slots;rw[hF.len,lAq,bU,lMq,gc]
 have st1:tn 0 M:=T.keep 0 _ _ st λb _ o e=>old b o e
 have nf0:∀b∈fp,qE H s.heap.objs.size (.lst []) b=none:=λb hb=>by
  rw[pD (az (fpl b hb))];exact(O b hb).1
 have stat:∀{R:Hp},(∀b∈fp,R b=none)->∀b∈fp,AH (rQ X scope cl N G.objs.size s H fp) [] R b:=λhn' b hb=>
  ⟨hn' b hb,below b (fpl b hb),ok'.exfs b hb,.inl hb,λy c e=>(ok'.exf b hb).2 y c e,λp hp=>absurd (show p∈([]:Φ)from hp) ⋯⟩
 have loop:∀S:Shared,S={ s with heap:=M,toks:=s.toks+([]:List (Str×Value)).length } ->
   kZ (jU X.prog X.w) X.A (.compLoop (.ListComp elt [⟨tg,iter,ifs,0⟩] scope pos) 0 (.ref it) (.ref s.heap.objs.size) (compEnvC scope cl G.objs.size X.env)) (RR (.ref s.heap.objs.size) G.objs.size) S:=by
  rintro S rfl;refine Kb (λn s'=>∃i vs R,vs.length=q/\Inv (rQ X scope cl N G.objs.size s H fp) [] (vs++slots σ fr) R s'/\tn i s'.heap/\(∀b∈fp,R b=none)/\W i n R) ?_ m0 ⟨0,_,_,bU,I0,st1,nf0,w0⟩
  rintro n s4 ⟨i,vs,H4,lv,I4,st4,nf4,w4⟩;rcases turn i n H4 w4 with⟨stop,qq⟩|⟨go,Nx,hNx,step⟩
  .refine thn (T.done (rQ X scope cl N G.objs.size s H fp) rfl rfl rfl hc i [] s4 (vs++slots σ fr) H4 (λ_ _=>False) I4 (stat nf4) st4 stop) λr s5 t=>?_
   obtain⟨hr,I5⟩:=t;subst hr;obtain⟨m,hm,_⟩:=I5.loc;have I6:Inv X oE σ H4 s5:=I.call' (ch:=fp) I5.os I5.base I5.hok I5.bare λb hb=>⟨(O b hb).2.2.2.1,(O b hb).2.1,(O b hb).2.2.2.2.1,(O b hb).2.2.2.2.2⟩
   exact fin _ _ s5 H4 m I6 hm (I.fpOk hCle I5.free) qq
  .refine thn (T.item (rQ X scope cl N G.objs.size s H fp) rfl rfl rfl hc i [] s4 (vs++slots σ fr) H4 (λ_ _=>False) I4 (stat nf4) st4 go) λr s5 t=>?_
   obtain⟨u,hr,h5⟩:=t;subst hr;refine thn h5 λ_ s6 t=>?_
   obtain⟨y,H6,I6,r6,y6,st6,nf6⟩:=t;have I6':=I6.pinned (stat nf6) (T.obj _ _ st6);refine thn (pg _ _ _ _ _ s6 (vs++slots σ fr) H6 y u _ I6' r6 (step y _ y6 vs lv)) λ_ s7 t=>?_
   obtain⟨σ7,H7,I7,o7,q7⟩:=t;obtain⟨ws,lw,e7⟩:=hw _ o7;subst e7;refine thn (hf _ _ _ _ _ s7 _ _ _ I7 q7) λb s8 t=>?_
   obtain⟨H8,I8,q8⟩:=t;have again:∀{s9:Shared}{H9:Hp},Inv (rQ X scope cl N G.objs.size s H fp) ([]++FF fp s6.heap) (ws++slots σ fr) H9 s9->Nx H9->∃m,m<n/\∃i vs R,vs.length=q/\Inv (rQ X scope cl N G.objs.size s H fp) [] (vs++slots σ fr) R s9/\tn i s9.heap/\(∀b∈fp,R b=none)/\W i m R:=λ{s9 H9} I9 n9=>by
    obtain⟨m',hm,w9⟩:=hNx H9 n9;refine⟨m',hm,i+1,ws,H9,lw,I9.unpinned,T.keep _ _ _ st6 λb hb o e=>(I9.pin (b,o) (aj _ (aj _ (yK hb e)))).1,λb hb=>?_,w9⟩
    obtain⟨o,e,d⟩:=T.obj _ _ st6 b hb;exact(I9.pin (b,o) (aj _ (aj _ (yK hb e)))).2.1
   cases b with
   |false=>exact again I8 q8
   |true=>
    refine thn (he _ _ _ _ _ s8 _ _ _ I8 q8) λz s9 t=>?_
    obtain⟨zv,H9,I9,r9,ys,a9,l9,n9⟩:=t;refine thn (ri _ s9 _ H9 (.ref s.heap.objs.size) [zv] (.ref s.heap.objs.size) [z] (λ_ R=>R=qE H9 s.heap.objs.size (.lst (ys++[zv]))) I9 rfl (.cons r9 .nil) ⟨_,ys,zv,rfl,rfl,a9,l9,rfl⟩) λ_ s10 t=>?_
    obtain⟨_,H10,I10,_,e10⟩:=t;subst e10;exact again I10 n9
 exact codeAny_compStart_list (loop _ rfl) (T.self X.A 0 _ _ _ st1 (loop _ rfl))
def EB{σ:St}{E:Ψ}{RR:Value->Addr->ni->Shared->Prop}{Q:VK}
  (hc:X.calm=true) (t:∀y∈scope.names,y.2 ≠ .cell) (u:scope.kind = .function) (hx:scope.names.lookup x=some .local) (O:wQ X scope cl x N fr)
  (hf:∀C s H fp,PF (rQ X scope cl N C s H fp) ifs tf) (he:∀C s H fp,PE (rQ X scope cl N C s H fp) elt te)
  (I:Inv X M σ H s) (T:Hm X.prog X.w X.K (.Name x px) J fp U Y) (st:Y 0 s.heap) (P:∀b∈fp,AH X M H b)
  (h:∀l,H l=none->∃W:Nat->Nat->Hp->Prop,(∃m,W 0 m (qE H l (.lst [])))/\∀i m H,W i m H ->
   (J.stop i H/\Q (.ref l) H) ∨
   (J.go i H/\∃N:Hp->Prop,(∀z,N z->∃m',m'<m/\W (i+1) m' z)/\∀x z,J.yld i H x z->tf (some x::slots σ fr) z λb H2=>
    if b=true then te (some x::slots σ fr) H2 λy H3=>∃R,H3 l=some (.lst R)/\R.length<jY/\N (qE H3 l (.lst (R++[y])))else N H2))
  (fin:∀l C S Hf m,Inv X M σ Hf S->S.heap.Ns C m->AH X M Hf C->Q (.ref l) Hf->RR (.ref l) C (.ok .next) S) :
  jW (jU X.prog X.w) X.A (newList []) (λl B=>jW (jU X.prog X.w) X.A (nJ scope X.env.globals cl [] X.env.qual none .none (some X.env)) (λn G=>
   kZ (jU X.prog X.w) X.A (.compStart (.ListComp elt [⟨.Name x px,iter,ifs,0⟩] scope pos) 0 (.ref U) l { n with scope:=kJ scope X.env }) (RR l n.locals) G) E B) E s:=by
 refine Dw (own:=λL=>∃a,L=a::slots σ fr) hc t u O.g (λC s H fp=>Cz O.names O.own (.inl (kK hx)) (.inr (kK hx))) (λL e=>?_) hf he I T st P (λl ha=>?_) fin
 .obtain⟨a,rfl⟩:=e;exact⟨[a],rfl,rfl⟩
 .obtain⟨W,w0,turn⟩:=h l ha;refine⟨W,w0,λi m H w=>(turn i m H w).imp id λ⟨go,N,hN,stp⟩=>⟨go,N,hN,λx z y vs lv=>?_⟩⟩
  match vs,lv with
  | [v],_=>exact⟨⟨some x,rfl⟩,stp x z y⟩
def BG(G:X.calm=true)(t:closureFor scope X.env=pure cl)(u:∀y∈scope.names,y.2 ≠ .cell)(l:scope.kind = .function)(n:∀y∈scope.names,y.2 = .local->scope.names.lookup y.1=some .local)
  (L:scope.names.lookup x=some .local) (M:wQ X scope cl x N fr) (hi:PI X (.Name x px) iter E) (O:∀C s H fp,PF (rQ X scope cl N C s H fp) ifs tf) (P:∀C s H fp,PE (rQ X scope cl N C s H fp) elt te)
  (hs:∀x,mw iter X.env x=pure x:=by intro _;rfl):PE X (.ListComp elt [⟨.Name x px,iter,ifs,0⟩] scope pos) (M4 E fr tf te):=by
 intro R s σ H Q I h;refine mh rfl hs t l n (thn (hi R s σ H _ I h) λv s1 S=>thn S λU s2 Y=>?_)
 obtain⟨it,fp,tn,J,H2,e,I2,T,EZ,f2,q2⟩:=Y;subst e;refine EB G u l L M O P I2 T EZ f2 q2 ?_;intro B C s' Hf m I' hm z q;refine⟨m,hm,λh' sb=>⟨.ref B,Hf,?_,rfl,q⟩⟩
 exact I'.turned (λb o hb e=>(sb.2 b hb).trans e) z.1 z.2.1 z.2.2.2.1 z.2.2.2.2.1 z.2.2.2.2.2
def Nr(hc:X.calm=true)(hN:X.N.Nodup)(hi0:X.N[i]?=some y)(hy:Zh X.env.scope y)(E:closureFor scope X.env=pure cl)(G:∀y∈scope.names,y.2 ≠ .cell)(l:scope.kind = .function)
  (n:∀y∈scope.names,y.2 = .local->scope.names.lookup y.1=some .local)
  (hx:scope.names.lookup x=some .local) (hF:wQ X scope cl x N fr) (hi:PI X (.Name x px) iter wi) (hf:∀C s H fp,PF (rQ X scope cl N C s H fp) ifs tf) (he:∀C s H fp,PE (rQ X scope cl N C s H fp) elt te)
  (R:nv (.ListComp elt [⟨.Name x px,iter,ifs,0⟩] scope pos) (some (.Name y py)) B.line X.env=pure true:=by rfl) (hs:∀x,mw iter X.env x=pure x:=by intro _;rfl)
  (S:X.fn y=true∨X.env.scope.names.lookup y=some .local:=by trivial) :
  PS X (.Assign [.Name y py] (.ListComp elt [⟨.Name x px,iter,ifs,0⟩] scope pos) B) (FU (M4 wi fr tf te) (rA i)):=by
 intro O s σ H D I h;rw[exec_Assign_Name_used _ _ _ _ R];refine jR (wpAny_standAt (jR ?_));show jW _ X.A (do let _ ←comprehension (.ListComp elt [⟨.Name x px,iter,ifs,0⟩] scope pos) scope X.env _ (newList []) false (eval iter X.env) (some (assign (.Name y py) X.env))) _ _ s
 refine jR (kB (mh (use:=some (assign (.Name y py) X.env)) (Q:=λ_ L=>SP X O D .next L) rfl hs E l n
  (thn (hi O s σ H _ I h) λv s1 h1=>thn h1 λitv s2 h2=>?_)) (λ_ L hq=>jT (jT hq)) λ_ _ e=>e)
 obtain⟨it,fp,tn,J,H2,e,P,T,EZ,f2,U⟩:=h2;subst e;refine EB (RR:=λt C=>compPost (jU X.prog X.w) X.A X.xe (some (assign (.Name y py) X.env)) (λ_ L=>SP X O D .next L) t C) (Q:=λv H'=>D.nx (σ.set i (some v)) H') hc G l hx hF hf he P T EZ f2 U ?_
 intro t C L Hf m I' hm M q;obtain⟨o,es,ep,ho,hd,r⟩:=id hm;have I1:Inv X (O++[(C,o)]) σ Hf L:=I'.pins_of λp hp=>(mAq.mp hp).elim (λz=>I'.pin p (aj _ z)) λz=>by
  have e:p=(C,o):=by simpa using z
  subst e;exact⟨ho,M.1,M.2.1,M.2.2.1,λv z=>by rw[hd]at z;cases z⟩
 refine thn (Cz (X:=X) (i:=i) (pos:=py) hN hi0 hy S _ L σ Hf (.ref t) (.ref t) _ I1 rfl q) λ_ s2 Y=>?_
 obtain⟨σ2,H2,P,U⟩:=Y;have pC:=P.pin (C,o) (aj _ (aj _ ⋯))
 refine⟨m,⟨o,es,ep,pC.1,hd,r⟩,λh' sb=>⟨σ2,H2,?_,U⟩⟩
 exact P.unpinned.turned (t':=s2.toks) (λb u hb e=>(sb.2 b hb).trans e) pC.2.1 M.2.1 M.2.2.2.1 M.2.2.2.2.1 M.2.2.2.2.2
end Mr
namespace MrS
open PySem PyProof.Rows
section
variable {E:Ψ}{s:Shared}
noncomputable abbrev tT(h:Heap)(a:Addr)(vs:Ξ):Heap:=((h.update a (Obj.mapSeq λ_=>#[])).push (ko "tuple" vs.toArray 0)).push (ko "list" #[] 0)
def xx(G:s.heap.get? a=some (ko "list" vs.toArray n))(hs:vs.length<=jY)
  (J:2<=vs.length->∀Q:kG->Shared->Prop,Q lg { s with heap:=tT s.heap a vs }->jW (jU prog w) A (nY vs.toArray) Q E { s with heap:=tT s.heap a vs })
  (C:zU prog w A { s with heap:=tT s.heap a vs } lg Pk lt) (O:∀x,x∈kY vs->Pk x)
  (h:∀l:Array jS,l.Perm (kY vs)->A7 lt l 0 (kY vs).size->P (.done (.ret .none)) { s with heap:=mq s.heap a vs (l.map (·.2)) }) :
  jW (jU prog w) A (Builtin.«list.sort» ⟨[.ref a],[]⟩) P E s:=by
 rw[list_sort_plain];have ha:a<s.heap.objs.size:=ak G;refine jR (listItems_at G rfl ?_);refine jR (oa G rfl ?_ (hsz:=by simpa using hs))
 obtain⟨L,u⟩:∃L,(s.heap.update a (Obj.mapSeq λ_=>#[])).get? a=some (ko "list" #[] L):=⟨_,nq G (λ_=>#[])⟩
 refine jR (oq u rfl ?_);refine jR (wpAny_newTuple ?_);refine jR (lU ?_);refine kM ?_;have t:(tT s.heap a vs).get? a=some (ko "list" #[] L):=by
  rw[gh _ _ _ (by rw[size_push',fM];exact az (cR ha)),gh _ _ _ (by rw[fM];exact az ha)]
  exact u
 show jW (jU prog w) A _ P E { s with heap:=tT s.heap a vs }
 dsimp only;have S:vs.toArray.size=vs.length:=by simp
 have U:jY=16777216:=kA
 by_cases H:vs.toArray.size<2
 .rw[pO H,pO H];refine jR (jT ?_);rw[StateT.run_pure];refine jR (jT ?_);dsimp only;refine jR (oq t rfl ?_);refine jR (oa t rfl ?_ (hsz2:=by rw[jz];show(kY vs).size<=_;rw[mM,kA];lia))
  simp only[bne_self_eq_false,cK,if_false];refine jT (h _ (ju.refl _) ?_);intro i j x y _ X Y ex R;have:i=j:=by rw[mM]at Y;lia
  subst this;rw[ex]at R;cases R;exact C.refl (O x (aQq ex))
 .rw[pK H,pK H];refine jR (J ∅ _ ?_)
  refine jR (kB (Iq C (arr:=kY vs) (g:=7) (E:=E)
   (Q:=λ_ z=>∃l p I,z=yx lg l p I/\l.Perm (kY vs)/\A7 lt l 0 (kY vs).size) O (by rw[mM];lia) λl p I a1 a2=>⟨l,p,I,rfl,a1,a2⟩) ?_ λ_ _ e=>e)
  rintro⟨⟨⟩,z⟩ s' ⟨rfl,l,p,I,rfl,B,M⟩;dsimp only;refine jR (oq t rfl ?_);refine jR (oa t rfl ?_ (hsz2:=by refine cz (fJ ((jz ..).trans (B.size_eq.trans (mM _)))) ?_;lia))
  simp only[bne_self_eq_false,cK,if_false];exact jT (h l B M)
def Iz{x:Ω}vs(u:h.get? a=some (ko "list" x n)):∃l,(tT h a vs).get? a=some (ko "list" #[] l):=by
 have ha:a<h.objs.size:=ak u;obtain⟨l,t⟩:∃l,(h.update a (Obj.mapSeq λ_=>#[])).get? a=some (ko "list" #[] l):=⟨_,nq u (λ_=>#[])⟩
 refine⟨l,?_⟩;rw[gh _ _ _ (by rw[size_push',fM];exact az (cR ha)),gh _ _ _ (by rw[fM];exact az ha)]
 exact t
def HS{h:Heap}{t:Ω}(l:Ω)(u:h.get? a=some (ko "list" t n)):∃x,(h.update a (Obj.mapSeq λ_=>l)).get? a=some (ko "list" l x):=⟨_,nq u (λ_=>l)⟩
def vm{vs:Ξ}(h:x∈kY vs):x.1∈vs/\x.2=x.1:=by
 obtain⟨i,hi,e⟩:=Array.mem_iff_getElem.mp h;have l:i<vs.length:=by rw[mM]at hi;exact hi
 have:x=(vs[i],vs[i]):=by
  rw[←e];simp[kY]
 rw[this];exact⟨gRq l,rfl⟩
def zG{vs:Ξ}(u:l.Perm (kY vs))(hs:A7 lt l 0 (kY vs).size) :
  (l.map (·.2)).toList.Perm vs/\(l.map (·.2)).toList.Pairwise (λx y=>lt (y,y) (x,x)=false):=by
 constructor
 .have:=u.toList.map (·.2);have e:(kY vs).toList.map (·.2)=vs:=by
   have:(kY vs).toList=vs.zip vs:=by simp[kY]
   rw[this];apply List.ext_getElem
   .simp
   .intro i M O;simp
  rw[e]at this;rw[Array.toList_map];exact this
 .rw[cc];intro i j hi G B;have t:i<l.size:=by simpa using hi
  have n:j<l.size:=by simpa using G
  have z:=hs i j l[i] l[j] (aX _) (cT B) (by rw[←u.size_eq];exact n) (by simp[t]) (by simp[n])
  have H:=vm (u.mem_iff.mp (bC t));have I:=vm (u.mem_iff.mp (bC n));have J:l[i]=(l[i].2,l[i].2):=jc H.2.symm rfl;have L:l[j]=(l[j].2,l[j].2):=jc I.2.symm rfl;rw[J,L]at z;simpa using z
def Bo{vs:Ξ}{Q:Ψ}(hl:s.heap.IsList l vs.toArray)(hs:vs.length<=jY)
  (I:∀u:Shared,(∀b o,s.heap.get? b=some o->u.heap.get? b=some o)->(2<=vs.length->∀Q:kG->Shared->Prop,Q lg u->jW (jU prog w) A.in1.in1 (nY vs.toArray) Q E u)/\zU prog w A.in1.in1 u lg Pk lt)
  (J:∀v∈vs,Pk (v,v))
  (h:∀(out:Ξ) h' L,out.Perm vs->out.Pairwise (λx y=>lt (y,y) (x,x)=false)->(∀b o,s.heap.get? b=some o->h'.get? b=some o) ->
   h'.get? (s.heap.objs.size+1)=some (ko "list" out.toArray L)->Q (.ref (s.heap.objs.size+1)) { s with heap:=h' }) :
  jW (jU prog w) A (call (.builtin "sorted") [.ref l]) Q E s:=by
 refine Calls.call_function_entry ot oe oh (oi _) ?_;unfold Builtin.«sorted»;refine jR (m:=checkCount "sorted" 1 1 _) (jT ?_);refine jR (collect_list hl ?_ hs);refine jR (lU ?_);have t:((s.heap.push (ko "list" #[] 0)).update s.heap.objs.size (Obj.mapSeq (· ++ vs.toArray))).objs.size=s.heap.objs.size+1:=by
  rw[fM,size_push']
 have n:(((s.heap.push (ko "list" #[] 0)).update s.heap.objs.size (Obj.mapSeq (· ++ vs.toArray))).push (ko "list" vs.toArray 0)).get? (s.heap.objs.size+1)=some (ko "list" vs.toArray 0):=by
  rw[←t];exact aD _ rfl
 show jW _ _ _ _ _ { s with heap:=((s.heap.push (ko "list" #[] 0)).update s.heap.objs.size (Obj.mapSeq (· ++ vs.toArray))).push (ko "list" vs.toArray 0) }
 rw[t];generalize M:((s.heap.push (ko "list" #[] 0)).update s.heap.objs.size (Obj.mapSeq (· ++ vs.toArray))).push (ko "list" vs.toArray 0)=G at n ⊢;have O:∀b o,s.heap.get? b=some o->G.get? b=some o:=λb o e=>by
  rw[←M];refine ai _ ?_;rw[dr _ _ _ _ (az (ak e))];exact ai _ e
 have H:∀b o,s.heap.get? b=some o->(tT G (s.heap.objs.size+1) vs).get? b=some o:=λb o e=>by
  refine ai _ (ai _ ?_);rw[dr _ _ _ _ (az (cR (ak e)))];exact O b o e
 obtain⟨P,R⟩:=I { s with heap:=tT G (s.heap.objs.size+1) vs } H
 refine jR (kM (kz nH ⟨_,n,rfl⟩ nt (xx (Pk:=Pk) (lt:=lt) n hs P R (λx S=>?_) λz U X=>⟨_,rfl,?_⟩) (nK _)))
 .obtain⟨Y,m2⟩:=vm S;have:x=(x.1,x.1):=jc rfl m2;rw[this];exact J _ Y
 .obtain⟨v1,v2⟩:=zG U X;obtain⟨e1,B⟩:=Iz vs n;obtain⟨n1,g1⟩:=HS (z.map (·.2)) B;refine jT ⟨_,rfl,h _ (mq G (s.heap.objs.size+1) vs (z.map (·.2))) n1 v1 v2 (λb o e=>?_) ?_⟩
  .unfold mq;rw[dr _ _ _ _ (az (cR (ak e)))];exact H b o e
  .rw[show(z.map (·.2)).toList.toArray=z.map (·.2)from Array.toArray_toList]
   exact g1
end
end MrS
namespace HT
open PySem PyProof.Rows
section
open PySem.SeqAt
open PySem.AutoSeq1 (wpAny_loadPart')
open PySem.MeetsSeq PySem.MeetsSeq2 PySem.MeetsSeq3 PySem.SeqRoads2
def J0{vs:Ξ}{ns:Ϝ}(h:kx vs ns):∀{i}hi,∃z t,vs[i] = .int z t/\ns.drop i=z::ns.drop (i+1):=by
 induction h with
 |nil=>intro i hi;exact absurd hi (cG _)
 |cons a t _ l=>
  intro i hi;cases i with
  |zero=>exact⟨a,t,rfl,rfl⟩
  |succ i=>exact l (i:=i) (by simpa using hi)
def Hd l b(items z:Ω)n U dd J(sl L:Array Υ)(ns H:Ϝ)(hi:kx items.toList ns)(Q:kx z.toList H)k :
  ∀i:Nat,min items.size z.size-i=k->i<=items.size->i<=z.size->Meets (Builtin.«list.__eq__.loop» ⟨[.ref l,.ref b,km i,km 0],[]⟩)
   (λ_ R s=>s.heap.get? l=some { cls:=.type "list", dict:=dd,data:=.seq items n,slots:=sl }/\s.heap.get? b=some { cls:=.type "list", dict:=J,data:=.seq z U,slots:=L } /\
    R (.ok (.ret (.bool (sH (ns.drop i) (H.drop i))))) s):=by
 have z1:ns.length=items.size:=by rw[←hi.length];simp
 have z2:H.length=z.size:=by rw[←Q.length];simp
 induction k with
 |zero=>
  intro i hk X Y prog w A R s h;obtain⟨M,g,d,O,os⟩:=s;obtain⟨hl,hb,h⟩:=h
  wp_walk using wpAny_loadPart' hl,wpAny_loadPart' hb
  have fin:sH (ns.drop i) (H.drop i)=decide (items.size<z.size):=by
   by_cases c:i=items.size
   .have e1:ns.drop i=[]:=bR ∅
    rw[e1]
    by_cases S:i<z.size
    .rw[ax (by lia:i<H.length),Ex]
     exact(d0 ∅).symm
    .rw[bR (by lia:H.length<=i),FS]
     exact(d4 ∅).symm
   .have S:i=z.size:=by lia
    rw[ax (by lia:i<ns.length),bR (by lia:H.length<=i),E4]
    exact(d4 ∅).symm
  rw[fin]at h
  by_cases c:i=items.size
  .have Jk:items[((i:Nat):Int).toNat]?=none:=by simp;lia
   rw[Jk]
   wp_walk using wpAny_loadPart' hl,wpAny_loadPart' hb
   exact h
  .have S:i=z.size:=by lia
   have Jk:items[((i:Nat):Int).toNat]?=some (items[i]'∅):=by simp
   have B:z[((i:Nat):Int).toNat]?=none:=by simp;lia
   rw[Jk,B]
   wp_walk using wpAny_loadPart' hl,wpAny_loadPart' hb
   exact h
 |succ k ih=>
  intro i hk X Y prog w A R s h;obtain⟨M,g,d,O,os⟩:=s;obtain⟨hl,hb,h⟩:=h
  wp_walk using wpAny_loadPart' hl,wpAny_loadPart' hb
  have I:i<items.size:=by lia
  have E:i<z.size:=by lia
  obtain⟨x,t,ex,dx⟩:=J0 hi (i:=i) (by simpa using I)
  obtain⟨y,u,ey,dy⟩:=J0 Q (i:=i) (by simpa using E)
  have Jk:items[((i:Nat):Int).toNat]?=some (.int x t):=by
   rw[←ex];simp[I]
  have B:z[((i:Nat):Int).toNat]?=some (.int y u):=by
   rw[←ey];simp[E]
  have hc:((i:Int)+1)=((i+1:Nat):Int):=by push_cast;rfl
  rw[dx,dy,yR]at h;rw[Jk,B];obtain⟨e,he,G⟩:=TB A.in1 ⟨M,g,d,O,os⟩ x t y u;refine jR (he prog w _ _ ?_);cases e with
  |true=>
   rw[pO (G.mp rfl)]at h
   wp_walk
   rw[hc];exact⟨kN plain_eq_loop _,kr entry_eq_loop (by
    rw[Around.under_plainId plain_eq_loop _];exact ih (i+1) ∅ ∅ ∅ prog w A R _ ⟨hl,hb,h⟩)⟩
  |false=>
   rw[pK (λq=>absurd (G.mpr q) aM)]at h
   have P:=T1 A.in1 ⟨M,g,d,O,os⟩ x t y u prog w
   wp_walk using wpAny_loadPart' hl,wpAny_loadPart' hb
   rw[Jk,B]
   wp_walk using P
   exact h
def BI l b(items t:Ω)n B dd u(sl x:Array Υ)(ns z:Ϝ)(hi:kx items.toList ns)(E:kx t.toList z) :
  Meets (Builtin.«list.__lt__» ⟨[.ref l,.ref b],[]⟩)
   (λ_ R s=>s.heap.get? l=some { cls:=.type "list", dict:=dd,data:=.seq items n,slots:=sl }/\s.heap.get? b=some { cls:=.type "list", dict:=u,data:=.seq t B,slots:=x } /\
    R (.ok (.ret (.bool (sH ns z)))) s):=by
 intro prog w A R s h;obtain⟨G,g,d,H,os⟩:=s;obtain⟨hl,hb,h⟩:=h;have I:=AutoSeq1.sub_list_list
 wp_walk using wpAny_loadPart' hl,wpAny_loadPart' hb
 exact⟨kN plain_eq_loop _,kr entry_eq_loop (by
  rw[Around.under_plainId plain_eq_loop _];exact Hd l b items t n B dd u sl x ns z hi E _ 0 rfl (aX _) (aX _) prog w A R _ ⟨hl,hb,h⟩)⟩
end
end HT
namespace Mr
open PySem PySem.Spec PyProof.Rows L2
section
open HT
theorem Bv:∀l n:Ϝ,sH l n=true->sH n l=false
 | [],[],_=>rfl
 | [],_::_,_=>rfl
 |_::_,[],h=>by cases h
 |x::l,y::n,h=>by
  rw[yR]at h ⊢
  by_cases e:x=y
  .rw[pO e]at h;rw[pO e.symm];exact Bv l n h
  .rw[pK e]at h;rw[pK (Ne.symm e)];have s:=of_decide_eq_true h;exact d4 ∅
theorem Ah:∀l n s:Ϝ,sH n l=false->sH s n=false->sH s l=false
 | [],[],[],_,_=>rfl
 | [],[],_::_,_,h=>by exact h
 | [],_::_,[],_,h=>by cases h
 | [],_::_,_::_,_,_=>rfl
 |_::_,[],_,h,_=>by cases h
 |_::_,_::_,[],_,h=>by cases h
 |x::l,y::n,z::s,h1,h2=>by
  rw[yR]at h1 h2 ⊢
  by_cases u:y=x
  .rw[pO u]at h1;subst u
   by_cases t:z=y
   .rw[pO t]at h2 ⊢;exact Ah l n s h1 h2
   .rw[pK t]at h2 ⊢;exact h2
  .rw[pK u]at h1;have B:=of_decide_eq_false h1
   by_cases t:z=y
   .rw[pK ∅]
    exact d4 ∅
   .rw[pK t]at h2;have E:=of_decide_eq_false h2;rw[pK ∅]
    exact d4 ∅
theorem B8:∀l n:Ϝ,sH l n=false->sH n l=false->l=n
 | [],[],_,_=>rfl
 | [],_::_,h,_=>by cases h
 |_::_,[],_,h=>by cases h
 |x::l,y::n,h1,h2=>by
  rw[yR]at h1 h2
  by_cases e:x=y
  .rw[pO e]at h1;rw[pO e.symm]at h2;rw[e,B8 l n h1 h2]
  .rw[pK e]at h1;rw[pK (Ne.symm e)]at h2;have s:=of_decide_eq_false h1;have t:=of_decide_eq_false h2;lia
def WZ(x y:Ϝ):Bool:=!HT.sH y x
def Oc x y z(l:WZ x y=true)(n:WZ y z=true):WZ x z=true:=by
 unfold WZ at *;simp only[hZ]at *;exact Ah x y z l n
def Pl x y:(WZ x y || WZ y x)=true:=by
 unfold WZ;cases h:HT.sH y x with
 |false=>rfl
 |true=>rw[Bv y x h];rfl
def srt(rs:Λ):Λ:=rs.mergeSort WZ
def pV rs:(srt rs).Perm rs:=gU _ _
def Bn rs:(srt rs).Pairwise (λx y=>HT.sH y x=false):=by
 refine(gf Oc Pl rs).imp λ{a b} h=>?_
 unfold WZ at h;simpa using h
def FN:∀{xs l:Λ},xs.Perm l->xs.Pairwise (λx y=>HT.sH y x=false)->l.Pairwise (λx y=>HT.sH y x=false)->xs=l
 |xs,l,n,s,t=>aE.eq_of_pairwise (λa b _ _ u z=>(B8 b a u z).symm) s t n
def My(n:l.Perm rs)(h:l.Pairwise (λx y=>HT.sH y x=false)):l=srt rs:=
 FN (n.trans (pV rs).symm) h (Bn rs)
def Dc(n:rs.Perm l):srt rs=srt l:=My ((pV rs).trans n) (Bn rs)
def qB rs:(srt rs).length=rs.length:=(pV rs).length_eq
noncomputable def sk(ns:Ϝ):Ϝ:=ns.mergeSort (λx y=>decide (x<=y))
def rJ ns:(sk ns).Perm ns:=gU _ _
def Dh ns:(sk ns).Pairwise (·<=·):=by
 refine(gf (λa b c l n=>?_) (λa b=>?_) ns).imp λ{a b} h=>by simpa using h
 .simp only[decide_eq_true_eq]at *;lia
 .simp only[Bool.or_eq_true,decide_eq_true_eq];lia
def HC(n:l.Perm ns)(h:l.Pairwise (·<=·)):l=sk ns:=
 aE.eq_of_pairwise (λa b _ _ s t=>Int.le_antisymm s t) h (Dh ns) (n.trans (rJ ns).symm)
end
def qS(H:Hp)(ps:Δ)(rs:Λ):Prop:=ps.map H=rs.map (λr=>some (HO.lst (r.map V.int)))
def qS.nil:qS H [] []:=rfl
theorem qS.length(h:qS H ps rs):ps.length=rs.length:=by
 have:=congrArg bJ h;simpa using this
def qS.cons_iff{ps:Δ}{rs:Λ}{r:Ϝ}:qS H (p::ps) (r::rs)↔H p=some (.lst (r.map V.int))/\qS H ps rs:=by
 unfold qS;rw[aw,aw,ji.injEq]
def qS.get(h:qS H ps rs){i:Nat}(e:ps[i]?=some p):∃r,rs[i]?=some r/\H p=some (.lst (r.map V.int)):=by
 have:=congrArg (λl=>l[i]?) h
 simp only[gMq,e,cI]at this;cases n:rs[i]? with
 |none=>rw[n]at this;cases this
 |some r=>rw[n]at this;exact⟨r,rfl,aA.inj this⟩
def qS.mem(h:qS H ps rs)(l:p∈ps):∃r,r∈rs/\H p=some (.lst (r.map V.int)):=by
 obtain⟨i,hi⟩:=List.getElem?_of_mem l;obtain⟨r,n,e⟩:=h.get hi;exact⟨r,mGq n,e⟩
def qS.keep(h:qS H ps rs)(k:∀p∈ps,l p=H p):qS l ps rs:=by
 unfold qS at *;rw[←h];exact mCq k
def qS.same(h:qS H ps rs)(s:qd H l):qS l ps rs:=
 h.keep λp n=>by
  obtain⟨r,_,e⟩:=h.mem n;rw[s _ _ e,e]
noncomputable def toI:V->Int
 | .int i=>i
 |_=>0
def zR(H:Hp)(p:Addr):Ϝ:=match H p with
 |some (.lst l)=>l.map toI
 |_=>[]
def JE(h:H p=some (.lst (r.map V.int))):zR H p=r:=by
 unfold zR;rw[h];simp only[mPq];exact List.map_id'' (λ_=>rfl) r
def qS.fn(h:qS H ps rs):rs=ps.map (zR H):=by
 induction rs generalizing ps with
 |nil=>
  have:=h.length;have:=bV.mp this;rw[this];rfl
 |cons r rs l=>
  cases ps with
  |nil=>have:=h.length;simp at this
  |cons p ps=>
   obtain⟨n,s⟩:=qS.cons_iff.mp h;rw[aw,←l s,JE n]
def qS.fn_row(h:qS H ps rs)(l:p∈ps):H p=some (.lst ((zR H p).map V.int)):=by
 obtain⟨r,_,e⟩:=h.mem l;rw[JE e];exact e
def qS.of_fn(h:∀p∈ps,H p=some (.lst ((zR H p).map V.int))):qS H ps (ps.map (zR H)):=by
 unfold qS;rw[mPq];exact mCq h
def qS.perm(h:qS H ps rs)(s:l.Perm ps):∃n,qS H l n/\n.Perm rs/\n=l.map (zR H):=
 ⟨_,qS.of_fn λp m=>h.fn_row (s.mem_iff.mp m),by rw[h.fn];exact s.map _,rfl⟩
def qS.free{H:Hp}(h:qS l ps rs)(n:l q=none):q∉ps:=λm=>by
 obtain⟨r,_,e⟩:=h.mem m;rw[n]at e;cases e
theorem Aj:∀{ps:Δ}{vs},qk (ps.map V.ref) vs->vs=ps.map bM
 | [],vs,r=>by cases r;rfl
 |p::ps,vs,r=>by
  cases r with
  |cons l n=>
   have e:=l;rw[e,Aj n];rfl
theorem CZ:∀(ps:Δ),qk (ps.map V.ref) (ps.map bM)
 | []=>.nil
 |p::ps=>.cons rfl (CZ ps)
noncomputable def vB:Value->Addr
 | .ref p=>p
 |_=>0
noncomputable def intOf:Value->Int
 | .int i _=>i
 |_=>0
def Hb{vs:Ξ}{ns:Ϝ}(h:kx vs ns):ns=vs.map intOf/\∀v∈vs,∃a t,v = .int a t:=by
 induction h with
 |nil=>exact⟨rfl,λv l=>by cases l⟩
 |cons a t _ n=>
  refine⟨by rw[aw,←n.1];rfl,λv l=>?_⟩
  rcases aa.mp l with rfl|l
  .exact⟨a,t,rfl⟩
  .exact n.2 v l
theorem vals_ints:∀{vs},(∀v∈vs,∃a t,v = .int a t)->qk ((vs.map intOf).map V.int) vs
 | [],_=>.nil
 |v::vs,h=>by
  obtain⟨a,t,rfl⟩:=h _ (ah ..);exact .cons ⟨t,rfl⟩ (vals_ints λv l=>h v (mCo _ l))
def NB{E:Ψ}{vs:Ξ}(t:2<=vs.length)(u:∀v∈vs,W.Looks M s.heap (typeOf v) (.type T))(l:(cX T != cX "tuple")=true)(n:(cX T == cX T)=true)(h:Q lg s) :
  jW M A (nY vs.toArray) Q E s:=W.kas_kind t u l n h
noncomputable def ltI(x y:jS):Bool:=match x.1,y.1 with
 | .int a _,.int b _=>decide (a<b)
 |_,_=>false
def Yx(prog)w A s:MrS.zU prog w A s lg (λx=>∃a t,x.1 = .int a t) ltI where
 ask:=by
  rintro⟨_,x⟩ ⟨_,y⟩ ⟨a,t,l⟩ ⟨b,u,n⟩ E Q q;subst l n;exact oneLt_int q
 asym:=by
  rintro⟨_,x⟩ ⟨_,y⟩ ⟨a,t,l⟩ ⟨b,u,n⟩ h;subst l n;have h':=of_decide_eq_true h;exact d4 ∅
 trans:=by
  rintro⟨_,x⟩ ⟨_,y⟩ ⟨_,z⟩ ⟨a,t,l⟩ ⟨b,u,n⟩ ⟨c,v,B⟩ G H;subst l n B;have I:=of_decide_eq_false G;have J:=of_decide_eq_false H;exact d4 ∅
def ltR(r:Addr->Ϝ)(x y:jS):Bool:=match x.1,y.1 with
 | .ref p,.ref q=>HT.sH (r p) (r q)
 |_,_=>false
def acU{ps:Δ}(O:A.units<kE)
  (h:∀p∈ps,∃vs:Ξ,nR s.heap p vs.toArray/\kx vs (r p)):MrS.zU prog w A s lg (λx=>∃p,x.1 = .ref p/\p∈ps) (ltR r) where
 ask:=by
  rintro⟨_,x⟩ ⟨_,y⟩ ⟨p,l,P⟩ ⟨q,t,R⟩ E Q k;subst l t;obtain⟨vs,⟨o,n,B,S,G,hd⟩,hi⟩:=h p P;obtain⟨ws,⟨o2,U,H,I,u,J⟩,X⟩:=h q R;obtain⟨cls,dd,data,sl⟩:=o;obtain⟨M,Y,data2,L⟩:=o2;subst S G hd I u J;refine jR (wpAny_cRoomFor O ?_);refine jR (mG ⟨_,B,rfl⟩ F.slot_list_lt (lS F.slot_list_lt ⟨_,B,rfl⟩ F.entry_list_lt (F.args_list_lt_2 _ _)
   (HT.BI p q vs.toArray ws.toArray n U none none sl L (r p) (r q) (by simpa using hi) (by simpa using X)) ⟨B,H,?_⟩))
  exact ku k
 asym:=by
  rintro⟨_,x⟩ ⟨_,y⟩ ⟨a,l,_⟩ ⟨b,t,_⟩ h;subst l t;exact Bv _ _ h
 trans:=by
  rintro⟨_,x⟩ ⟨_,y⟩ ⟨_,z⟩ ⟨a,l,_⟩ ⟨b,t,_⟩ ⟨c,e3,_⟩ h1 h2;subst l t e3;exact Ah _ _ _ h1 h2
def HH:uf X (.builtin "sorted") (λz H Q=>∃a ns,z=[.ref a]/\rF X.K H a (ns.map V.int)/\∀p,H p=none->Q (.ref p) (qE H p (.lst ((sk ns).map V.int)))):=by
 intro oE s σ H z us Q I r h;obtain⟨a,ns,rfl,L,q⟩:=h;obtain⟨u,rfl,M⟩:=vH r;cases M;obtain⟨O,hl,hi,P⟩:=BM I L;obtain⟨R,B⟩:=Hb hi;have E:=hi.length;refine MrS.Bo hl ∅ (λs' _=>⟨λl Q q=>?_,Yx _ _ _ _⟩) (λv m=>B v m) λout G S J U Y o4=>?_
 .match O,hi,l with
  | [],_,l=>simp at l
  | [_],_,l=>simp at l
  |v₁::v₂::sL,hi,_=>
   rw[og hi];exact jT q
 .have n:=λv m=>B v (J.mem_iff.mp m)
  have e:out.map intOf=sk ns:=by
   refine HC (by rw[R];exact J.map _) ?_
   rw[bx];refine U.imp_of_mem λ{x y} mx my h=>?_
   obtain⟨a,t,rfl⟩:=n x mx;obtain⟨b,u,rfl⟩:=n y my;have G:=of_decide_eq_false h;show a<=b;lia
  have hp:=I.hok.fresh (bP _);refine⟨.ref (s.heap.objs.size+1),_,I.laid Y (bP _) (show rq X.prog X.w _ G _ (.lst ((sk ns).map V.int))from ⟨?_,out,S,?_,o4⟩),rfl,q _ hp⟩
  .rw[lMq,(rJ ns).length_eq];exact P
  .rw[←e];exact vals_ints n
def Hj(hu:X.A.units+64<kE):uf X (.builtin "sorted") (λY H Q=>∃a ps rs,Y=[.ref a]/\rF X.K H a (ps.map V.ref)/\qS H ps rs /\
  ∀p B,H p=none->B.Perm ps->qS (qE H p (.lst (B.map V.ref))) B (srt rs)->Q (.ref p) (qE H p (.lst (B.map V.ref)))):=by
 intro oE s σ H Y us Q I r h;obtain⟨a,ps,rs,rfl,hS,hE,q⟩:=h;obtain⟨u,rfl,ru⟩:=vH r;cases ru;obtain⟨L,R,hl,hz⟩:=I.list hS;have ei:=Aj R;subst ei;have M:∀p∈ps,∃G:Ξ,nR s.heap p G.toArray/\kx G (zR H p):=λp t=>by
  obtain⟨L,R,pl,_⟩:=I.list (rF.of (hE.fn_row t));exact⟨L,pl,yX R⟩
 have z:∀(J:Shared),(∀b o,s.heap.get? b=some o->J.heap.get? b=some o)->∀p∈ps,∃G:Ξ,nR J.heap p G.toArray/\kx G (zR H p):=λJ k p t=>by
  obtain⟨G,⟨o,n,O,sL⟩,hi⟩:=M p t;exact⟨G,⟨o,n,k _ _ O,sL⟩,hi⟩
 refine MrS.Bo (Pk:=λx=>∃p,x.1 = .ref p/\p∈ps) (lt:=ltR (zR H)) hl.isList (by simpa using hz) (λJ k=>⟨λh2 Q q=>?_,acU (by show X.A.units+1+1<kE;lia) (z J k)⟩) (λv m=>?_) λout h' n' o1 o2 o3 o4=>?_
 .refine NB (T:= "list") h2 (λv S=>?_) (by rfl) (by rfl) q
  obtain⟨p,t,rfl⟩:=mMq.mp S;obtain⟨G,pl,_⟩:=z J k p t;intro A Q E s2 k2 q2;obtain⟨o,O,hc,_⟩:=pl.isList;exact mL (T:= "list") ⟨o,k2 _ _ O,hc⟩ q2
 .obtain⟨p,t,rfl⟩:=mMq.mp m;exact⟨p,rfl,t⟩
 .have O:∀v∈out,∃p∈ps,v = .ref p:=λv m=>by
   obtain⟨p,t,rfl⟩:=mMq.mp (o1.mem_iff.mp m);exact⟨p,t,rfl⟩
  have U:out=(out.map vB).map bM:=by
   rw[mPq];have e:=mCq (l:=out) (f:=id) (g:=bM∘vB) λv S=>by
    obtain⟨p,_,rfl⟩:=O v S;rfl
   rw[←e,fv]
  have P:(out.map vB).Perm ps:=by
   have:=o1.map vB;rw[mPq,show vB∘bM=id from rfl,fv]at this
   exact this
  have t:H (s.heap.objs.size+1)=none:=I.hok.fresh (bP _);generalize out.map vB=B at U P;obtain⟨ts,e1,e2,e3⟩:=hE.perm P;have es:ts=srt rs:=by
   refine My e2 ?_;rw[e3,bx];rw[U,bx]at o2;exact o2
  refine⟨.ref (s.heap.objs.size+1),_,I.laid (t':=s.toks) o3 (bP _) (show rq X.prog X.w _ h' _ (.lst (B.map V.ref))from ⟨?_,out,n',?_,o4⟩),rfl,q _ B t P (by rw[←es];exact e1.same (uE t))⟩
  .rw[lMq,P.length_eq];simpa using hz
  .rw[U];exact CZ B
noncomputable def uG(r:Ϝ):PyData:=.list (r.map PyData.int)
def E5(rs:Λ):PyData:=.list (rs.map uG)
theorem Dp:∀rs:Λ,PyData.canLayAll0 (rs.map uG)=true
 | []=>by simp[PyData.canLayAll0]
 |r::rs=>by simp[PyData.canLayAll0,uG,PyData.canLay0,W.canLayAll0_ints r,Dp rs]
theorem EW:∀rs:Λ,PyData.depthAll (rs.map uG)<=3
 | []=>by simp[PyData.depthAll]
 |r::rs=>by
  have l:=EW rs;have n:=W.depthAll_ints r;simp only[aw,PyData.depthAll,uG,PyData.depth];lia
def Dv rs:SeqAt.shaped (E5 rs)=true:=by
 have n:=EW rs;have l:PyData.depth (E5 rs)<=64:=by simp only[E5,PyData.depth];lia
 show(PyData.canLay0 (E5 rs) && decide (PyData.depth (E5 rs)<=64))=true;rw[fL];exact⟨by exact Dp rs,d0 l⟩
theorem ER:∀rs l:Λ,SeqAt.noMixAll (rs.map uG) (l.map uG)=true
 | [],[]=>by simp[SeqAt.noMixAll]
 | [],_::_=>by simp[SeqAt.noMixAll]
 |_::_,[]=>by simp[SeqAt.noMixAll]
 |r::rs,t::l=>by simp[SeqAt.noMixAll,uG,SeqAt.noMix,W.noMix_ints r t,ER rs l]
theorem GX:∀rs l:Λ,PySem.Spec.sameAll (rs.map uG) (l.map uG)=decide (rs=l)
 | [],[]=>by simp[PySem.Spec.sameAll]
 | [],_::_=>by simp[PySem.Spec.sameAll]
 |_::_,[]=>by simp[PySem.Spec.sameAll]
 |r::rs,t::l=>by
  simp only[aw,PySem.Spec.sameAll,uG,PySem.Spec.same,W.same_ints r t];rw[GX rs l]
  by_cases h:r=t <;> simp[h]
end Mr
namespace Mr
open PySem L2
structure Bt (mg:Str->Υ):Prop where
 len:mg "len" = none
 min:mg "min" = none
 max:mg "max" = none
 abs:mg "abs" = none
 all:mg "all" = none
 sorted:mg "sorted" = none
 isi:mg "isinstance" = none
 list:mg "list" = none
 int:mg "int" = none
 bool:mg "bool" = none
 str:mg "str" = none
 dict:mg "dict" = none
 zip:mg "zip" = none
 enum:mg "enumerate" = none
 range:mg "range" = none
 reversed:mg "reversed" = none
structure Fn (P:jZ)(w:ke)(K:Ζ)(mg:Str->Υ)(base:Heap)(k:Nat)(x:Str)(st:Stmt)(ps:List Str)(sp:Sp)(f:Addr)(fd:ky):Prop where
 D:yu K mg x st ps f fd
 ok:DB P w K mg base Xj k f fd ps sp
def vv.units65(r:vv k A):A.units+65<kE:=by have:=r.un;lia
def abc(G:Fn X.prog X.w X.K X.mg X.base k x st ps sp f fd)(hr:vv k X.A)(ha:PA X (e::es) t)(s:Gl X x:=by rfl)(l:(x == ("__debug__" : Str))=false:=by decide)
  (u:kf (e::es) X.env=(false,eval e X.env)::kf es X.env:=by rfl) (n:(lu pos (kf es X.env)).any (·.1)=false:=by rfl) :
  PE X (.Call (.Name x p) (e::es) [] pos) (GW sp [] E0 t):=Wx G.ok hr s G.D.m G.D.F.kp G.D.b .nil abu ha l u n
section
variable (K:Ζ)
def NW:Sp:=λvs H Q _=>∃(a:Addr) (ns:Ϝ),vs=[.ref a]/\rF K H a (ns.map V.int)/\ns.length<=63/\∀l,Q (.bl true) l
end
def qt{α:Type}{l:List α}{x}(h:l[i]?=some x):l.take (i+1)=l.take i++[x]:=by
 rw[bG,h];rfl
end Mr
namespace Xe
open PySem PySem.Spec PySem.W PyProof.Rows L2 Mr
noncomputable abbrev lk0(K:Frag)(C:Addr):Bool:=findIn K (.ref C) "__setattr__" == some (some (.builtin "object.__setattr__")) && findIn K (.ref C) "__getattribute__" == some (some (.builtin "BaseException.__getattribute__")) &&
 findIn K (.ref C) "__getattr__" == some none && findIn K (.ref C) "__class__" == some (some (.builtin "object.__class__"))
noncomputable def Zi(K:Frag)(c:Str)(C:Addr)(s:Ξ):Bool:=match K.lookup C with
 |some ⟨.type "type", _,.cls l,sl⟩=>(match sl.toList with
  | [_,_,_,_,some (.builtin n),_]=>l.name == c && l.mro == .ref C::s && n == "ValueError.__new__" && !l.hasDel && l.hasDict && tailIn K VEm s
  |_=>false)
 |_=>false
structure Ref (K:Frag)(c:Str)(C M:Addr):Prop where
 nm:nsIn K kc c=some (some (.ref C))
 nmM:nsIn K kc "MapError" = some (some (.ref M))
 xc:Zi K c C (.ref M::VEm)=true
 xm:Zi K "MapError" M VEm=true
 lk:lk0 K C=true
def IsC(K:Frag)(c:Str)(C:Addr):Prop:=nsIn K kc c=some (some (.ref C))/\((∃M,Ref K c C M)∨(c = "MapError" /\ Zi K "MapError" C VEm=true))
noncomputable def ExA(e C:Addr)(l:Option Addr):HO:=.ext λh=>∃o vs,h.get? e=some o/\o.cls = .ref C/\o.dict=l/\o.data = .fields vs
def YK{kvs:List (pQ×V)}(r:KV kvs vs):∀{i:Nat}{p},kvs[i]?=some p->∃u,vs[i]?=some (p.1,u)/\qI p.2 u:=by
 induction r with
 |nil=>intro i p h;simp at h
 | @cons a b _ _ r t l=>
  intro i p h;cases i with
  |zero=>simp at h;subst h;exact⟨b.2,by simp[r.1],r.2⟩
  |succ i=>obtain⟨u,n,g2⟩:=l (by simpa using h);exact⟨u,by simpa using n,g2⟩
end Xe
namespace Mr
open PySem PyProof.Rows L2
section
variable {X:Cx}
def Rg(_ j:Int):Prop:=0<j/\j.natAbs.log2<9000
def Sl:Ed X (mn .FloorDiv) (rI Rg λi j=>.int (i / j)):=opI λi j _ _ _ _ _ l q=>by
 have n:=l.1;exact floordiv_int ∅ (by rw[gZ i ∅];exact q) (.inl (PyProof.noPylong_of_log2 l.2))
end
end Mr
namespace Mr
open PySem PySem.Calls PySem.Spec PyProof.Rows L2
def Yk(K:Ζ)(x:V)(H:Hp)(T:String):Prop:=match x with
 | .int _=>T = "list" ∨ T = "tuple" ∨ T = "str"
 | .str _=>T = "list" ∨ T = "tuple"
 | .non=>T = "list" ∨ T = "tuple"
 | .ref p=>(T = "tuple" /\ ∃l,rF K H p l)∨(T = "list" /\ ∃l,DG K H p l)
 |_=>False
def Rq:uf X (.builtin "isinstance") (λl H Q=>∃x T,l=[x,.ty T]/\Yk X.K x H T/\Q (.bl false) H):=by
 intro n s σ H l P Q I r h;obtain⟨x,T,rfl,e,q⟩:=h;obtain⟨u,v,rfl,z,G⟩:=Tn r;cases G;cases x with
 |int i=>
  obtain⟨t,rfl⟩:=z;rcases e with rfl|rfl|rfl
  .exact kj (lL (by trivial) F.isi_meta_list F.sub_int_list) (show EP X n σ Q (.bool false) { s with toks:=s.toks+1 } from ⟨.bl false,H,I.tok _,rfl,q⟩)
  .exact kj (lL (by trivial) F.isi_meta_tuple F.sub_int_tuple) (show EP X n σ Q (.bool false) { s with toks:=s.toks+1 } from ⟨.bl false,H,I.tok _,rfl,q⟩)
  .exact kj (lL (by trivial) F.isi_meta_str F.sub_int_str) (show EP X n σ Q (.bool false) { s with toks:=s.toks+1 } from ⟨.bl false,H,I.tok _,rfl,q⟩)
 |str i=>
  obtain⟨t,rfl⟩:=z;rcases e with rfl|rfl
  .exact kj (nT (by trivial) F.isi_meta_list F.sub_str_list) (show EP X n σ Q (.bool false) { s with toks:=s.toks+1 } from ⟨.bl false,H,I.tok _,rfl,q⟩)
  .exact kj (nT (by trivial) F.isi_meta_tuple F.sub_str_tuple) (⟨.bl false,H,I.tok _,rfl,q⟩)
 |non=>
  cases z;rcases e with rfl|rfl
  .exact kj (nD (by trivial) F.isi_meta_list F.sub_NoneType_list) (⟨.bl false,H,I.tok _,rfl,q⟩)
  .exact kj (nD (by trivial) F.isi_meta_tuple F.sub_NoneType_tuple) (⟨.bl false,H,I.tok _,rfl,q⟩)
 |ref p=>
  cases z;rcases e with⟨rfl,l,B⟩|⟨rfl,l,B⟩
  .obtain⟨E,J,pl,L⟩:=I.list B;exact kj (isinstance_false_list (by trivial) F.isi_meta_tuple F.sub_list_tuple) ⟨pl.isList.typeIs,⟨.bl false,H,I.tok _,rfl,q⟩⟩
  .obtain⟨E,J,⟨o,M,O,_⟩,L⟩:=I.tuple B;exact kj (isinstance_false_tuple (by trivial) F.isi_meta_list F.sub_tuple_list) ⟨⟨o,M,O⟩,⟨.bl false,H,I.tok _,rfl,q⟩⟩
 |_=>exact(e).elim
end Mr
namespace MrS
open PySem PySem.W PyProof.Rows
section
variable {E:Ψ}
def Jp{Q:Ξ->Shared->Prop}(K:KdlSrc prog w T r d n P OK)(hh:A.handled=none)(hok:OK s.heap)(hn:n<=jY)
  (h:∀h' u (l:Ω),(∀b o,s.heap.get? b=some o->h'.get? b=some o)->s.heap.objs.size<h'.objs.size->ItemsOf P l n->Q l.toList { s with heap:=h',toks:=u }) :
  jW (jU prog w) A (collect (.ref r)) Q E s:=by
 unfold collect;refine jR (nF (kr nU ?_));refine jR (lU (jT ⟨Code.quiet_builtin _ (by trivial),kr entry_list_iadd' ?_⟩))
 have t:=K.there _ hok;have x:(s.heap.push (ko "list" #[] 0)).get? s.heap.objs.size=some (ko "list" #[] 0):=aD _ rfl;refine kdl_extend (R:=λr z=>match r with
   | .ok (.ret v)=>jW (jU prog w) A (match v with
    | .ref a=>do
     let o ←load a
     match o.data with
     | .seq G _=>pure G.toList
     |_=>mz "internal:collect"
    |_=>mz "internal:collect") Q E z
   | .ok _=>False
   | .error e=>E e z) K hh (K.keep _ _ hok λb _ o e=>ai _ e) s.heap.objs.size (du t.1) (du t.2) (.ref s.heap.objs.size) 0 x (λh' u l c hk B hi=>?_) hn
 refine jR (wpAny_load B ?_);exact jT (h h' u l (λb o e=>hk b o (az (ak e)) (ai _ e)) (ak B) hi)
def MN{Q:Ψ}(K:KdlSrc prog w T r d n P OK)(hh:A.handled=none)(hok:OK s.heap)(hn:n<=jY)
  (U:∀(vs:Ξ),vs.length=n->(∀j v,vs[j]?=some v->P j v)->∀L:Shared,(2<=vs.length->∀Q:kG->Shared->Prop,Q lg L->jW (jU prog w) A.in1.in1 (nY vs.toArray) Q E L)/\zU prog w A.in1.in1 L lg Pk lt/\∀v∈vs,Pk (v,v))
  (h:∀(vs out:Ξ) h' (p:Addr) H X,vs.length=n->(∀j v,vs[j]?=some v->P j v)->out.Perm vs->out.Pairwise (λx y=>lt (y,y) (x,x)=false)->(∀b o,s.heap.get? b=some o->h'.get? b=some o)->s.heap.objs.size<=p ->
   h'.get? p=some (ko "list" out.toArray X)->Q (.ref p) { s with heap:=h',toks:=H }) :
  jW (jU prog w) A (call (.builtin "sorted") [.ref r]) Q E s:=by
 refine Calls.call_function_entry ot oe oh (oi _) ?_;unfold Builtin.«sorted»;refine jR (m:=checkCount "sorted" 1 1 _) (jT ?_);refine jR (Jp K hh hok hn λu H t I z hi=>?_)
 have hl:t.toList.length=n:=by rw[ar];exact hi.1
 have M:∀j v,t.toList[j]?=some v->P j v:=λj v e=>hi.2 j v (by rw[←au];exact e)
 have hs:t.toList.length<=jY:=by rw[hl];exact hn
 generalize t.toList=vs at hl M hs;refine jR (lU ?_ hs);have l:(u.push (ko "list" vs.toArray 0)).get? u.objs.size=some (ko "list" vs.toArray 0):=aD _ rfl;show jW _ _ _ _ _ { s with heap:=u.push (ko "list" vs.toArray 0),toks:=H }
 have J:s.heap.objs.size<=u.objs.size:=cT z;have R:∀b o,s.heap.get? b=some o->(u.push (ko "list" vs.toArray 0)).get? b=some o:=λb o e=>ai _ (I b o e)
 have B:∀b o,s.heap.get? b=some o->b≠u.objs.size:=λb o e=>az (ak (I b o e))
 generalize u.push (ko "list" vs.toArray 0)=G at l R ⊢
 clear z
 generalize u.objs.size=p at l J B ⊢;have Y:∀b o,s.heap.get? b=some o->(tT G p vs).get? b=some o:=λb o e=>by
  refine ai _ (ai _ ?_);rw[dr _ _ _ _ (B b o e)];exact R b o e
 obtain⟨q1,q2,q3⟩:=U vs hl M { s with heap:=tT G p vs,toks:=H }
 refine jR (kM (kz nH ⟨_,l,rfl⟩ nt (xx (s:={ s with heap:=G,toks:=H }) (Pk:=Pk) (lt:=lt) l hs q1 q2 (λx hx=>?_) λS a1 a2=>⟨_,rfl,?_⟩) (nK _)))
 .obtain⟨m1,m2⟩:=vm hx;have:x=(x.1,x.1):=jc rfl m2;rw[this];exact q3 _ m1
 .obtain⟨v1,v2⟩:=zG a1 a2;obtain⟨e1,O⟩:=Iz vs l;obtain⟨n1,g1⟩:=HS (S.map (·.2)) O;refine jT ⟨_,rfl,h vs _ (mq G p vs (S.map (·.2))) p H n1 hl M v1 v2 (λb o e=>?_) J ?_⟩
  .unfold mq;rw[dr _ _ _ _ (B b o e)];exact Y b o e
  .exact g1
end
end MrS
namespace Mr
open PySem PySem.W PySem.Spec PyProof.Rows L2
theorem DL:∀{l:Ξ}{ns:Ϝ},l.length=ns.length->(∀(j:Nat) v n,l[j]?=some v->ns[j]?=some n->∃t,v=gg n t)->kx l ns
 | [],[],_,_=>.nil
 | [],_::_,h,_=>by simp at h
 |_::_,[],h,_=>by simp at h
 |u::l,n::ns,h,g=>by
  obtain⟨t,rfl⟩:=g 0 u n rfl rfl;exact .cons n t (DL (by simpa using h) λj v m s x=>g (j+1) v m (by simpa using s) (by simpa using x))
def VD:∀{kvs:List (pQ×V)}{ws},KV kvs ws->kvs.map (·.1)=ws.map (·.1):=λ{kvs ws} r=>by
 induction r with
 |nil=>rfl
 |cons a b l=>rw[aw,aw,l,a.1]
def Hk(hc:X.calm=true):uf X (.builtin "sorted") (λR H Q=>∃(a:Addr) (kvs:List (pQ×V)) (ns:Ϝ),R=[.ref a]/\H a=some (.dK kvs)/\kvs.map (·.1)=ns.map aN/\∀p,H p=none->Q (.ref p) (qE H p (.lst ((sk ns).map V.int)))):=by
 intro oE s σ H R l Q I r h;obtain⟨a,kvs,ns,rfl,ha,hk,q⟩:=h;obtain⟨u,rfl,ru⟩:=vH r;cases ru;obtain⟨S,sa,B,kv,d⟩:=(show rq X.prog X.w H s.heap a (.dK kvs)from I.hok a _ ha)
 obtain⟨ep,da⟩:=d.dictAt;have hl:=Paired.length kv;have n:ns.length=B.length:=by
  have:=congrArg bJ hk;rw[lMq,lMq]at this;rw[←this,hl]
 have L:B.map (·.1)=ns.map aN:=by rw[←VD kv,hk]
 have M:∀l:Ξ,l.length=B.length->(∀(j:Nat) (v:Value),l[j]?=some v->∃k x,B[j]?=some (k,x)/\(qQ X.prog X.w).is k v=true)->kx l ns:=λl E G=>DL (by rw[E,n]) λj v m e1 e2=>by
  obtain⟨k,x,g1,g2⟩:=G j v e1;have U:(B.map (·.1))[j]?=some k:=by rw[gMq,g1];rfl
  rw[L,gMq,e2]at U;have e4:(aN m:pQ)=k:=by simpa using U
  subst e4;rcases qN (k:=aN m) (v:=v) g2 with⟨i,t,O,e6⟩|⟨z,t,O,_⟩
  .cases O;exact⟨t,e6⟩
  .cases O
 refine MrS.MN (kdl_dict (knd:=qQ X.prog X.w) (d:=a) (kvs:=B) (ep:=ep) sa) (I.ok.hd hc) da (by rw[←hl];exact S) (Pk:=λx:jS=>∃a t,x.1=gg a t) (lt:=ltI) (λl E G s'=>⟨λJ Q q=>?_,Yx _ _ _ _,λv m=>(Hb (M l E G)).2 v m⟩) λl out Y p tk n' E G o1 o2 o3 op o4=>?_
 .have hi:=M l E G
  match l,hi,J with
  | [],_,J=>simp at J
  | [_],_,J=>simp at J
  |v₁::v₂::sL,hi,_=>
   rw[og hi];exact jT q
 .obtain⟨en,hv⟩:=Hb (M l E G);have P:∀v∈out,∃a t,v = .int a t:=λv m=>hv v (o1.mem_iff.mp m)
  have e:out.map intOf=sk ns:=by
   refine HC (by rw[en];exact o1.map _) ?_
   rw[bx];refine o2.imp_of_mem λ{x y} mx my h=>?_
   obtain⟨a,t,rfl⟩:=P x mx;obtain⟨b,u,rfl⟩:=P y my;have Y:¬ b<a:=of_decide_eq_false h;show a<=b;lia
  have hp:H p=none:=I.hok.fresh op;refine⟨.ref p,_,I.laid (t':=tk) o3 op (show rq X.prog X.w _ Y _ (.lst ((sk ns).map V.int))from ⟨?_,out,n',?_,o4⟩),rfl,q _ hp⟩
  .rw[lMq,(rJ ns).length_eq,n,←hl];exact S
  .rw[←e];exact vals_ints P
end Mr
namespace Z
open PySem L2 Mr
abbrev St:=L2.St
inductive D where
 |non|bl (b:Bool)|int (i:Int)|str (x:Str)|ty (n:String)|list (xs:List D)|tup (xs:List D)|dict (kvs:List (pQ×D))|scr (ns:Ϝ)|exc (c:Str) (fs:List (Str×Int))|cls (c:Str)|fd (kvs:List (pQ×D))|ins (c:Str) (fs:List (Str×D))
inductive rm (K:Ζ)(H:Hp):D->V->Prop
 |non:rm K H .non .non
 |bl {b:Bool}:rm K H (.bl b) (.bl b)
 |int {i:Int}:rm K H (.int i) (.int i)
 |str {x:Str}:rm K H (.str x) (.str x)
 |ty {n:String}:rm K H (.ty n) (.ty n)
 |list {p:Addr}{vs:List V}{ds:List D}(h:H p=some (.lst vs)) (l:ds.length=vs.length) (e:∀(i:Nat) (d:D) (v:V),ds[i]?=some d->vs[i]?=some v->rm K H d v):rm K H (.list ds) (.ref p)
 |tup {p:Addr}{vs:List V}{ds:List D}(h:H p=some (.tup vs)) (l:ds.length=vs.length) (e:∀(i:Nat) (d:D) (v:V),ds[i]?=some d->vs[i]?=some v->rm K H d v):rm K H (.tup ds) (.ref p)
 |dict {p:Addr}{kvs:List (pQ×V)}{ds:List (pQ×D)}(h:H p=some (.dK kvs)) (l:ds.map (·.1)=kvs.map (·.1)) (e:∀(i:Nat) (d:pQ×D) (v:pQ×V),ds[i]?=some d->kvs[i]?=some v->rm K H d.2 v.2):rm K H (.dict ds) (.ref p)
 |scr {p:Addr}{ns:Ϝ}(h:rF K H p (ns.map V.int)):rm K H (.scr ns) (.ref p)
 |exc {c:Str}{fs:List (Str×Int)}{e C M dx:Addr}(rf:Xe.Ref K c C M) (nf:∀p∈fs,W.findIn K (.ref C) p.1=some none) (h:H e=some (Xe.ExA e C (some dx))) (hx:H dx=some (.xd (fs.map λp=>(p.1,V.int p.2)))):rm K H (.exc c fs) (.ref e)
 |exc0 {c:Str}{e C M:Addr}(rf:Xe.Ref K c C M) (h:H e=some (Xe.ExA e C none)):rm K H (.exc c []) (.ref e)
 |cls {c:Str}{C:Addr}(h:Xe.IsC K c C):rm K H (.cls c) (.ref C)
 |fd {p:Addr}{o:Obj}{kvs:List (pQ×V)}{ds:List (pQ×D)}(h:H p=some (.frz o (.dK kvs))) (l:ds.map (·.1)=kvs.map (·.1)) (e:∀(i:Nat) (d:pQ×D) (v:pQ×V),ds[i]?=some d->kvs[i]?=some v->rm K H d.2 v.2):rm K H (.fd ds) (.ref p)
 |ins {c:Str}{a C dx:Addr}{gs:List (Str×V)}{fs:List (Str×D)}(rf:W.nsIn K kc c=some (some (.ref C))) (h:H a=some (.ins C dx gs)) (l:fs.map (·.1)=gs.map (·.1)) (e:∀(i:Nat) (d:Str×D) (v:Str×V),fs[i]?=some d->gs[i]?=some v->rm K H d.2 v.2):rm K H (.ins c fs) (.ref a)
def qo(K:Ζ)(H:Hp)(ds:List D)(vs:List V):Prop:=ds.length=vs.length/\∀(i:Nat) d v,ds[i]?=some d->vs[i]?=some v->rm K H d v
def uQ(K:Ζ)(H:Hp)(ds:List (pQ×D))(kvs:List (pQ×V)):Prop:=ds.map (·.1)=kvs.map (·.1)/\∀(i:Nat) d v,ds[i]?=some d->kvs[i]?=some v->rm K H d.2 v.2
def rm.mono(h:rm K H d v)(s:qd H H'):rm K H' d v:=by
 induction h with
 |non=>exact .non
 |bl=>exact .bl
 |int=>exact .int
 |str=>exact .str
 |ty=>exact .ty
 |list h l _ n=>exact .list (s _ _ h) l n
 |tup h l _ n=>exact .tup (s _ _ h) l n
 |dict h l _ n=>exact .dict (s _ _ h) l n
 |scr h=>exact .scr (s.seq h)
 |exc t u h x=>exact .exc t u (s _ _ h) (s _ _ x)
 |exc0 t h=>exact .exc0 t (s _ _ h)
 |cls h=>exact .cls h
 |fd h l _ n=>exact .fd (s _ _ h) l n
 |ins t h l _ n=>exact .ins t (s _ _ h) l n
theorem qo.mono(h:qo K H ds vs)(s:qd H H'):qo K H' ds vs:=⟨h.1,λi d v a b=>(h.2 i d v a b).mono s⟩
theorem uQ.mono(h:uQ K H ds vs)(s:qd H H'):uQ K H' ds vs:=⟨h.1,λi d v a b=>(h.2 i d v a b).mono s⟩
def qo.nil:qo K H [] []:=⟨rfl,λi d v a=>by simp at a⟩
def qo.cons(h:rm K H d v)(t:qo K H ds vs):qo K H (d::ds) (v::vs):=⟨by simp[t.1],λi e w a b=>by
 cases i with
 |zero=>
  simp at a b;subst a b;exact h
 |succ i=>exact t.2 i e w (by simpa using a) (by simpa using b)⟩
def qo.cons_iff:qo K H (d::ds) (v::vs)↔rm K H d v/\qo K H ds vs:=
 ⟨λh=>⟨h.2 0 d v rfl rfl,by have:=h.1;simpa using this,λi e w a b=>h.2 (i+1) e w (by simpa using a) (by simpa using b)⟩,λh=>.cons h.1 h.2⟩
def qo.nil_inv(h:qo K H [] vs):vs=[]:=by
 have:=h.1;cases vs with
 |nil=>rfl
 |cons _ _=>simp at this
def qo.cons_inv(h:qo K H (d::ds) vs):∃v ws,vs=v::ws/\rm K H d v/\qo K H ds ws:=by
 cases vs with
 |nil=>have:=h.1;simp at this
 |cons v ws=>exact⟨v,ws,rfl,qo.cons_iff.mp h⟩
theorem qo.append:∀{ds l}{vs ws},qo K H ds vs->qo K H l ws->qo K H (ds++l) (vs++ws)
 | [],l,vs,ws,h,g=>by rw[h.nil_inv];exact g
 |d::ds,l,vs,ws,h,g=>by
  obtain⟨v,t,rfl,n,s⟩:=h.cons_inv;exact .cons n (qo.append s g)
theorem qo.take(h:qo K H ds vs)n:qo K H (ds.take n) (vs.take n):=⟨by rw[lTq,lTq,h.1],λi d v a b=>by
 rw[je]at a b;split at a
 .rename_i hi;rw[pO hi]at b;exact h.2 i d v a b
 .cases a⟩
theorem qo.drop(h:qo K H ds vs)n:qo K H (ds.drop n) (vs.drop n):=⟨by rw[aJ,aJ,h.1],λi d v a b=>by
 rw[cV]at a b;exact h.2 _ d v a b⟩
def qo.get(h:qo K H ds vs){i:Nat}(e:ds[i]?=some d):∃v,vs[i]?=some v/\rm K H d v:=by
 have hi:=(gSq.mp e).1;have l:=h.1 ▸ hi;exact⟨vs[i],gEg l,h.2 i d _ e (gEg l)⟩
def qo.get'(h:qo K H ds vs){i:Nat}(e:vs[i]?=some v):∃d,ds[i]?=some d/\rm K H d v:=by
 have hi:=(gSq.mp e).1;have l:=h.1.symm ▸ hi;exact⟨ds[i],gEg l,h.2 i _ v (gEg l) e⟩
theorem qo.reverse:∀{ds}{vs},qo K H ds vs->qo K H ds.reverse vs.reverse
 | [],vs,h=>by rw[h.nil_inv];exact .nil
 |d::ds,vs,h=>by
  obtain⟨v,s,rfl,l,n⟩:=h.cons_inv;rw[dO,dO];exact n.reverse.append (.cons l .nil)
def rm.list_inv(h:rm K H (.list ds) v):∃p vs,v = .ref p/\H p=some (.lst vs)/\qo K H ds vs:=by
 cases h with
 |list h l e=>exact⟨_,_,rfl,h,l,e⟩
def rm.tup_inv(h:rm K H (.tup ds) v):∃p vs,v = .ref p/\H p=some (.tup vs)/\qo K H ds vs:=by
 cases h with
 |tup h l e=>exact⟨_,_,rfl,h,l,e⟩
def rm.dict_inv(h:rm K H (.dict ds) v):∃p kvs,v = .ref p/\H p=some (.dK kvs)/\uQ K H ds kvs:=by
 cases h with
 |dict h l e=>exact⟨_,_,rfl,h,l,e⟩
def rm.mk_list(h:H p=some (.lst vs))(r:qo K H ds vs):rm K H (.list ds) (.ref p):=.list h r.1 r.2
def rm.mk_tup(h:H p=some (.tup vs))(r:qo K H ds vs):rm K H (.tup ds) (.ref p):=.tup h r.1 r.2
def rm.mk_dict(h:H p=some (.dK vs))(r:uQ K H ds vs):rm K H (.dict ds) (.ref p):=.dict h r.1 r.2
noncomputable def D.scal:D->Bool
 | .non=>true
 | .bl _=>true
 | .int _=>true
 | .str _=>true
 | .ty _=>true
 |_=>false
theorem rm.scal(h:rm K H d v)(s:d.scal=true):rm K l d v:=by
 cases h with
 |non=>exact .non
 |bl=>exact .bl
 |int=>exact .int
 |str=>exact .str
 |ty=>exact .ty
 |_=>cases s
inductive AV where
 |sh (d:D)|ow (avs:List AV)|owd (kvs:List (pQ×D))|owl (kvs:List (pQ×Ϝ))
abbrev i0(x:Int):Option AV:=some (.sh (.int x))
abbrev i3(x:List D):Option AV:=some (.sh (.list x))
noncomputable abbrev i4(x:Bool):Option AV:=some (.sh (.bl x))
mutual
def oN:AV->D
 | .sh d=>d
 | .ow l=>.list (Fi l)
 | .owd kvs=>.dict kvs
 | .owl kvs=>.dict (kvs.map λx=>(x.1,.list (x.2.map .int)))
def Fi:List AV->List D
 | []=>[]
 |a::as=>oN a::Fi as
end
theorem GI:∀l:List AV,Fi l=l.map oN
 | []=>by simp[Fi]
 |a::as=>by simp[Fi,GI as]
@[simp] theorem uk d:oN (.sh d)=d:=by simp[oN]
@[simp] theorem rM l:oN (.ow l) = .list (l.map oN):=by simp[oN,GI]
@[simp] theorem OB kvs:oN (.owd kvs) = .dict kvs:=by simp[oN]
inductive pZ (K:Ζ)(Hf H:Hp):AV->V->Δ->Prop
 |sh {d:D}{v:V}(r:rm K Hf d v):pZ K Hf H (.sh d) v []
 |ow {p:Addr}{vs:List V}{avs:List AV}{Fs:List Δ}(h:H p=some (.lst vs)) (n:Hf p=none) (l:avs.length=vs.length) (lf:avs.length=Fs.length)
   (e:∀(i:Nat) (a:AV) (v:V) (F:Δ),avs[i]?=some a->vs[i]?=some v->Fs[i]?=some F->pZ K Hf H a v F):pZ K Hf H (.ow avs) (.ref p) (p::Fs.flatten)
 |owd {p:Addr}{kvs:List (pQ×V)}{ds:List (pQ×D)}(h:H p=some (.dK kvs)) (n:Hf p=none) (r:uQ K Hf ds kvs):pZ K Hf H (.owd ds) (.ref p) [p]
 |owl {p:Addr}{kvs:List (pQ×Ϝ)}{qs:Δ}(h:H p=some (.dK (jF (λx q=>(x.1,V.ref q)) kvs qs))) (n:Hf p=none) (l:kvs.length=qs.length) (e:∀(i:Nat) (q:Addr) (x:pQ×Ϝ),qs[i]?=some q->kvs[i]?=some x->H q=some (.lst (x.2.map V.int))/\Hf q=none):pZ K Hf H (.owl kvs) (.ref p) (p::qs)
def NS{kvs:List (pQ×Ϝ)}{u:Δ}(h:H p=some (.dK (jF (λx q=>(x.1,V.ref q)) kvs u)))(l:kvs.length=u.length)(e:∀(i:Nat) q x,u[i]?=some q->kvs[i]?=some x->H q=some (.lst (x.2.map V.int))):rm K H (.dict (kvs.map λx=>(x.1,.list (x.2.map .int)))) (.ref p):=by
 refine .dict h ?_ λi d v s n=>?_
 .refine cS λi=>?_
  rw[gMq,gMq,gMq,iM]
  by_cases c:i<kvs.length
  .rw[gEg c,gEg (l ▸ c)];rfl
  .rw[aO (iA c)];rfl
 .rw[gMq]at s;rw[iM]at n;cases hk:kvs[i]? with
  |none=>rw[hk]at s;cases s
  |some x=>
   cases z:u[i]? with
   |none=>rw[hk,z]at n;cases n
   |some q=>
    rw[hk]at s n;rw[z]at n;cases s;cases n;refine .list (e i q x z hk) (by rw[lMq,lMq]) λj d v t B=>?_
    rw[gMq]at t B;cases E:x.2[j]? with
    |none=>rw[E]at t;cases t
    |some m=>
     rw[E]at t B;cases t;cases B;exact .int
def ZW{kvs:List (pQ×Ϝ)}{n:Δ}(l:kvs.length=n.length)(s:q∈n):∃(i:Nat) (x:pQ×Ϝ),n[i]?=some q/\kvs[i]?=some x:=by
 obtain⟨i,hi⟩:=ay.mp s;have hl:=(gSq.mp hi).1;exact⟨i,_,hi,gEg (l ▸ hl)⟩
def pZ.owned(h:pZ K Hf H av v F):∀q∈F,H q≠none/\Hf q=none:=by
 induction h with
 |sh _=>intro q s;cases s
 | @ow p u t B h n l lf e E=>
  intro q s;rcases aa.mp s with rfl|s
  .exact⟨by rw[h];simp,n⟩
  .obtain⟨F,G,s⟩:=mFq.mp s;obtain⟨i,hi,rfl⟩:=cZ.mp G;exact E i t[i] u[i] B[i] ⋯ ⋯ ⋯ q s
 |owd h n r=>
  intro q s;have:=mSq.mp s;subst this;exact⟨by rw[h];simp,n⟩
 |owl h n l e=>
  intro q s;rcases aa.mp s with z|z
  .rw[z];exact⟨by rw[h];simp,n⟩
  .obtain⟨i,x,I,J⟩:=ZW l z;obtain⟨L,M⟩:=e i q x I J;exact⟨by rw[L];simp,M⟩
def pZ.keep(h:pZ K Hf H av v F)(s:qd Hf Hf')(hk:∀q∈F,H' q=H q)(hn:∀q∈F,Hf' q=none):pZ K Hf' H' av v F:=by
 induction h with
 |sh r=>exact .sh (r.mono s)
 | @ow p L E M h n l lf e G=>
  refine .ow (by rw[hk p ⋯];exact h) (hn p ⋯) l lf λi a v F t u z=>G i a v F t u z (λq B=>hk q ?_) λq B=>hn q ?_
  all_goals exact mCo _ (mFq.mpr ⟨F,mGq z,B⟩)
 |owd h n r=>exact .owd (by rw[hk _ ⋯];exact h) (hn _ ⋯) (r.mono s)
 | @owl p I J h n l e=>
  refine .owl (by rw[hk _ (ah ..)];exact h) (hn _ (ah ..)) l λi q x t u=>?_
  have m:q∈p::J:=mCo _ (mGq t);exact⟨by rw[hk q m];exact(e i q x t u).1,hn q m⟩
def pZ.rep(h:pZ K Hf H av v F)(s:qd Hf H):rm K H (oN av) v:=by
 induction h with
 |sh r=>exact r.mono s
 | @ow p I z E h n l lf e G=>
  rw[rM];refine .list h (by simp[l]) λi d v t B=>?_
  rw[gMq]at t;cases u:z[i]? with
  |none=>rw[u]at t;cases t
  |some a=>
   rw[u]at t;cases t;have hi:=lf ▸ (gSq.mp u).1;exact G i a v E[i] u B (gEg hi)
 |owd h n r=>exact .mk_dict h (r.mono s)
 |owl h n l e=>exact NS h l λi q x t B=>(e i q x t B).1
noncomputable def frz(Hf H:Hp)(F:Δ):Hp:=λb=>if b∈F then H b else Hf b
def CW(h:b∈F):frz Hf H F b=H b:=pO h
def vf(h:b∉F):frz Hf H F b=Hf b:=pK h
def tG(h:∀q∈F,Hf q=none):qd Hf (frz Hf H F):=λb o e=>by
 rw[vf λm=>by rw[h b m]at e;cases e]
 exact e
def Wu(s:qd Hf H):qd (frz Hf H F) H:=λb o e=>by
 by_cases m:b∈F
 .rw[CW m]at e;exact e
 .rw[vf m]at e;exact s b o e
def pZ.frozen(h:pZ K Hf H av v F)(s:qd Hf Hf')(hk:∀q∈F,Hf' q=H q):rm K Hf' (oN av) v:=by
 induction h with
 |sh r=>exact r.mono s
 | @ow p J z E h n l lf e G=>
  rw[rM];refine .list (by rw[hk p ⋯];exact h) (by simp[l]) λi d v t B=>?_
  rw[gMq]at t;cases u:z[i]? with
  |none=>rw[u]at t;cases t
  |some a=>
   rw[u]at t;cases t;have hi:=lf ▸ (gSq.mp u).1;exact G i a v E[i] u B (gEg hi) λq I=>hk q (mCo _ (mFq.mpr ⟨E[i],gRq hi,I⟩))
 |owd h n r=>exact .mk_dict (by rw[hk _ ⋯];exact h) (r.mono s)
 |owl h n l e=>exact NS (by rw[hk _ (ah ..)];exact h) l λi q x t B=>by rw[hk q (mCo _ (mGq t))];exact(e i q x t B).1
abbrev AS:=List (Option AV)
structure qi (K:Ζ)(H₀ Hf₀ Hf:Hp)(S:AS)(σ:St)(H:Hp)(Fs:List Δ):Prop where
 len:S.length=σ.length
 lenF:Fs.length=S.length
 rep:∀(i:Nat) (av:AV),S[i]?=some (some av)->∃v F,σ[i]?=some (some v)/\Fs[i]?=some F/\pZ K Hf H av v F
 emp:∀i:Nat,S[i]?=some none->Fs[i]?=some []
 nd:Fs.flatten.Nodup
 fresh:∀p∈Fs.flatten,H₀ p=none
 sub:qd Hf H
 fr:qd H₀ H
 lim:∀b,Hf₀ b=none->H₀ b≠none->Hf b=none
 sf:qd Hf₀ Hf
structure yv (Hf H:Hp)(Fs:List Δ)(Hf' H':Hp)(Fs':List Δ):Prop where
 sf:qd Hf Hf'
 sh:qd H H'
 own:∀p∈Fs'.flatten,p∈Fs.flatten
 gr:∀b,Hf b=none->Hf' b≠none->H b=none∨b∈Fs.flatten
theorem yv.refl:yv Hf H l Hf H l:=⟨.refl _,.refl _,λ_ h=>h,λb h g=>absurd h g⟩
def NA(s:qd H l)(h:H b≠none):l b≠none:=by
 cases e:H b with
 |none=>exact absurd e h
 |some o=>rw[s b o e];simp
theorem yv.trans(a:yv Hf H t Hf1 n Fs1)(b:yv Hf1 n Fs1 l s Fs2):yv Hf H t l s Fs2:=
 ⟨a.sf.trans b.sf,a.sh.trans b.sh,λp h=>a.own p (b.own p h),λc h g=>by
  by_cases e:Hf1 c=none
  .rcases b.gr c e g with q|q
   .exact .inl (a.sh.free q)
   .exact .inr (a.own c q)
  .exact a.gr c h e⟩
section
variable {Fs:List Δ}
def ND(s:qd H H')(h:H b≠none):H' b=H b:=by
 cases e:H b with
 |none=>exact absurd e h
 |some o=>exact s b o e
def qi.mem(R:qi K H₀ Hf₀ Hf S σ H Fs)(h:q∈Fs.flatten):H q≠none/\Hf q=none:=by
 obtain⟨F,t,n⟩:=mFq.mp h;obtain⟨i,hi,rfl⟩:=cZ.mp t;have l:=R.lenF ▸ hi;cases e:S[i]with
 |none=>
  have:=R.emp i (by rw[gEg l,e])
  rw[gEg hi]at this;rw[aA.inj this]at n;cases n
 |some u=>
  obtain⟨v,F,_,s,r⟩:=R.rep i u (by rw[gEg l,e])
  rw[gEg hi]at s;rw[aA.inj s]at n;exact r.owned q n
def qi.more(R:qi K H₀ Hf₀ Hf S σ H Fs)(s:qd H H')(sf:qd Hf Hf')(sub:qd Hf' H')(hn:∀q∈Fs.flatten,Hf' q=none)(lim:∀b,Hf₀ b=none->H₀ b≠none->Hf' b=none):qi K H₀ Hf₀ Hf' S σ H' Fs where
 len:=R.len
 lenF:=R.lenF
 rep:=λi t e=>by
  obtain⟨v,F,u,n,r⟩:=R.rep i t e;refine⟨v,F,u,n,r.keep sf (λq l=>ND s (r.owned q l).1) λq l=>hn q (mFq.mpr ⟨F,mGq n,l⟩)⟩
 emp:=R.emp
 nd:=R.nd
 fresh:=R.fresh
 sub:=sub
 fr:=R.fr.trans s
 lim:=lim
 sf:=R.sf.trans sf
def qi.laid(R:qi K H₀ Hf₀ Hf S σ H Fs)(s:qd H H'):qi K H₀ Hf₀ Hf S σ H' Fs:=R.more s (.refl _) (R.sub.trans s) (λq h=>(R.mem h).2) R.lim
def rK(h:p∈(Fs.set i F).flatten):p∈F∨p∈Fs.flatten:=by
 obtain⟨G,n,l⟩:=mFq.mp h;rcases eK n with q|q
 .exact .inr (mFq.mpr ⟨G,q,l⟩)
 .subst q;exact .inl l
theorem sv:∀{Fs:List Δ}{F}i,Fs.flatten.Nodup->F.Nodup->(∀p∈F,p∉Fs.flatten)->(Fs.set i F).flatten.Nodup
 | [],F,i,h,_,_=>by simp
 |G::Gs,F,0,h,hF,hd=>by
  rw[eh,fCq,nAq];rw[fCq,nAq]at h;refine⟨hF,h.2.1,λa ha b hb e=>hd a ha ?_⟩
  exact aj _ (e ▸ hb)
 |G::Gs,F,i+1,h,hF,hd=>by
  rw[fj,fCq,nAq];rw[fCq,nAq]at h;refine⟨h.1,sv i h.2.1 hF λp l m=>hd p l (by exact aj _ m),λa ha b hb e=>?_⟩
  rcases rK hb with q|q
  .exact hd b q (by exact ao _ (e ▸ ha))
  .exact h.2.2 a ha b q e
theorem qi.set(R:qi K H₀ Hf₀ Hf S σ H Fs)i(r:pZ K Hf H s v F)(nd:F.Nodup)(t:∀q∈F,H₀ q=none/\q∉Fs.flatten) :
  qi K H₀ Hf₀ Hf (S.set i (some s)) (σ.set i (some v)) H (Fs.set i F) where
 len:=by simp[R.len]
 lenF:=by simp[R.lenF]
 rep:=λj a e=>by
  rw[bN]at e
  by_cases l:i=j
  .subst l;rw[pO rfl]at e;split at e
   .rename_i hi;cases e;exact⟨v,F,by rw[aW (R.len ▸ hi)],by rw[aW (R.lenF.symm ▸ hi)],r⟩
   .cases e
  .rw[pK l]at e;obtain⟨w,G,u,x,q⟩:=R.rep j a e;exact⟨w,G,by rw[aC l];exact u,by rw[aC l];exact x,q⟩
 emp:=λj e=>by
  rw[bN]at e
  by_cases l:i=j
  .subst l;rw[pO rfl]at e;split at e <;> cases e
  .rw[pK l]at e;rw[aC l];exact R.emp j e
 nd:=sv i R.nd nd λp n=>(t p n).2
 fresh:=λp n=>by
  rcases rK n with q|q
  .exact(t p q).1
  .exact R.fresh p q
 sub:=R.sub
 fr:=R.fr
 lim:=R.lim
 sf:=R.sf
def qz(h:p∈(Fs.set i []).flatten):p∈Fs.flatten:=by
 rcases rK h with q|q
 .cases q
 .exact q
theorem uL:∀{Fs:List Δ}{F}{i}{p},Fs.flatten.Nodup->Fs[i]?=some F->p∈F->p∉(Fs.set i []).flatten
 | [],F,i,p,_,e,_,_=>by simp at e
 |G::Gs,F,0,p,h,e,l,m=>by
  simp at e;subst e;rw[fCq,nAq]at h;exact h.2.2 p l p m rfl
 |G::Gs,F,i+1,p,h,e,l,m=>by
  rw[fCq,nAq]at h;have n:=by simpa using e
  rcases mAq.mp m with q|q
  .exact h.2.2 p q p (mFq.mpr ⟨F,mGq n,l⟩) rfl
  .exact uL h.2.1 n l q
def qi.move(R:qi K H₀ Hf₀ Hf S σ H Fs)(e:S[i]?=some (some u)):∃v F,σ[i]?=some (some v)/\Fs[i]?=some F/\pZ K Hf H u v F/\F.Nodup/\(∀q∈F,H₀ q=none/\q∉(Fs.set i []).flatten) /\
  qi K H₀ Hf₀ Hf (S.set i none) σ H (Fs.set i []):=by
 obtain⟨v,F,B,s,r⟩:=R.rep i u e;have x:∀q∈F,q∈Fs.flatten:=λq t=>mFq.mpr ⟨F,mGq s,t⟩
 refine⟨v,F,B,s,r,bu.sublist (aT (mGq s)) R.nd,λq t=>⟨R.fresh q (x q t),uL R.nd s t⟩,?_⟩
 refine⟨by simp[R.len],by simp[R.lenF],λj a n=>?_,λj n=>?_,sv i R.nd bb (λp z=>by cases z),λp z=>R.fresh p (qz z),R.sub,R.fr,R.lim,R.sf⟩
 .rw[bN]at n
  by_cases l:i=j
  .subst l;rw[pO rfl]at n;split at n <;> cases n
  .rw[pK l]at n;obtain⟨w,G,E,I,q⟩:=R.rep j a n;exact⟨w,G,E,by rw[aC l];exact I,q⟩
 .rw[bN]at n
  by_cases l:i=j
  .subst l;rw[pO rfl]at n;split at n
   .rename_i hi;rw[aW (R.lenF.symm ▸ hi)]
   .cases n
  .rw[pK l]at n;rw[aC l];exact R.emp j n
theorem qi.frz(R:qi K H₀ Hf₀ Hf S σ H Fs)(l:∀q∈F,H₀ q=none/\q∉Fs.flatten)(hn:∀q∈F,Hf q=none):qi K H₀ Hf₀ (frz Hf H F) S σ H Fs:=by
 refine R.more (.refl _) (tG hn) (Wu R.sub) (λq n=>?_) λb t s=>?_
 .rw[vf λm=>(l q m).2 n]
  exact(R.mem n).2
 .rw[vf λm=>s (l b m).1]
  exact R.lim b t s
end
abbrev ME:=AS->Option (D×AS)
abbrev MK:=AS->Option (AV×AS)
abbrev ML:=AS->Option (List D×AS)
abbrev MT:=AS->Option (Bool×AS)
abbrev MA:=AS->Option (List AV×AS)
def pU(K:Ζ)(Hf H:Hp)(l:List AV)(vs:List V)(n:List Δ):Prop:=
 l.length=vs.length/\l.length=n.length/\∀(i:Nat) a v F,l[i]?=some a->vs[i]?=some v->n[i]?=some F->pZ K Hf H a v F
structure xS (H₀ H:Hp)(Fs Fs':List Δ)(F:Δ):Prop where
 nd:F.Nodup
 fr:∀q∈F,H₀ q=none
 out:∀q∈F,q∉Fs'.flatten
 new:∀q∈F,H q=none∨q∈Fs.flatten
def xS.nil:xS H₀ H n l []:=⟨bb,λq h=>(by cases h),λq h=>(by cases h),λq h=>(by cases h)⟩
section
variable (K:Ζ)
def SR(te:TE)(m:ME):Prop:=∀{H₀ l Hf}{S}{σ}{H}{u}{d}{S'},qi K H₀ l Hf S σ H u->m S=some (d,S')->∀Q:VK,
 (∀n t s v,yv Hf H u n t s->qi K H₀ l n S' σ t s->rm K t d v->Q v t)->te σ H Q
def SK(te:TE)(m:MK):Prop:=∀{H₀ l Hf}{S}{σ}{H}{u}{a}{S'},qi K H₀ l Hf S σ H u->m S=some (a,S')->∀Q:VK,
 (∀n t s v F,yv Hf H u n t s->qi K H₀ l n S' σ t s->pZ K n t a v F->xS H₀ H u s F->Q v t)->te σ H Q
def SL(te:TE)(m:ML):Prop:=∀{H₀ l Hf}{S}{σ}{H}{u}{ds}{S'},qi K H₀ l Hf S σ H u->m S=some (ds,S')->∀Q:VK,
 (∀n t s p vs,yv Hf H u n t s->qi K H₀ l n S' σ t s->t p=some (.lst vs)->qo K n ds vs->Q (.ref p) t)->te σ H Q
def DE(x:TT)(m:MT):Prop:=∀{H₀ l Hf}{S}{σ}{H}{u}{b}{S'},qi K H₀ l Hf S σ H u->m S=some (b,S')->∀Q:Bool->Hp->Prop,
 (∀n t s,yv Hf H u n t s->qi K H₀ l n S' σ t s->Q b t)->x σ H Q
def SA(B:TA)(m:MA):Prop:=∀{H₀ l Hf}{S}{σ}{H}{u}{x}{S'},qi K H₀ l Hf S σ H u->m S=some (x,S')->∀Q:List V->Hp->Prop,
 (∀n t s vs z,yv Hf H u n t s->qi K H₀ l n S' σ t s->pU K n t x vs z->xS H₀ H u s z.flatten->Q vs t)->B σ H Q
def UY(x:TA)(m:ML):Prop:=∀{H₀ l Hf}{S}{σ}{H}{u}{ds}{S'},qi K H₀ l Hf S σ H u->m S=some (ds,S')->∀Q:List V->Hp->Prop,
 (∀n t s vs,yv Hf H u n t s->qi K H₀ l n S' σ t s->qo K t ds vs->Q vs t)->x σ H Q
end
def pZ.stp(r:pZ K Hf H n v F)(s:∀q∈F,q∉Fs.flatten)(t:yv Hf H Fs Hf' H' Fs'):pZ K Hf' H' n v F:=
 r.keep t.sf (λq l=>ND t.sh (r.owned q l).1) λq l=>by
  by_cases e:Hf' q=none
  .exact e
  .rcases t.gr q (r.owned q l).2 e with z|z
   .exact absurd z (r.owned q l).1
   .exact absurd z (s q l)
def qi.new(R:qi K H₀ Hf₀ Hf S σ H Fs)(l:H p=none):yv Hf H Fs Hf (qE H p o) Fs/\qi K H₀ Hf₀ Hf S σ (qE H p o) Fs/\Hf p=none/\H₀ p=none/\p∉Fs.flatten:=
 ⟨⟨.refl _,uE l,λ_ h=>h,λb h g=>absurd h g⟩,R.laid (uE l),R.sub.free l,R.fr.free l,λm=>(R.mem m).1 l⟩
def tS n:(aV n ([]:Δ)).flatten=[]:=by
 induction n with
 |zero=>rfl
 |succ n l=>rw[iY,fCq,l];rfl
def pZ.new(h:H p=some (.lst vs))(n:Hf p=none)(r:qo K Hf ds vs):pZ K Hf H (.ow (ds.map .sh)) (.ref p) [p]:=by
 have e:[p]=p::(aV ds.length ([])).flatten:=by rw[tS]
 rw[e];refine .ow h n (by simp[r.1]) ⋯ λi a v F l s t=>?_
 rw[gMq]at l;cases q:ds[i]? with
 |none=>rw[q]at l;cases l
 |some d=>
  rw[q]at l;cases l;have:=eU (mGq t);subst this;exact .sh (r.2 i d v q s)
def pZ.news(h:H p=some (.lst vs))(n:Hf p=none)(r:pU K Hf H l vs s):pZ K Hf H (.ow l) (.ref p) (p::s.flatten):=.ow h n r.1 r.2.1 r.2.2
def pZ.ow_inv(h:pZ K Hf H (.ow s) v F):∃p vs t,v = .ref p/\F=p::t.flatten/\H p=some (.lst vs)/\Hf p=none/\pU K Hf H s vs t:=by
 cases h with
 |ow h n l lf e=>exact⟨_,_,_,rfl,rfl,h,n,l,lf,e⟩
def pZ.owd_inv(h:pZ K Hf H (.owd ds) v F):∃p kvs,v = .ref p/\F=[p]/\H p=some (.dK kvs)/\Hf p=none/\uQ K Hf ds kvs:=by
 cases h with
 |owd h n r=>exact⟨_,_,rfl,rfl,h,n,r⟩
def pZ.sh_inv(h:pZ K Hf H (.sh d) v F):F=[]/\rm K Hf d v:=by
 cases h with
 |sh r=>exact⟨rfl,r⟩
def qi.give(R:qi K H₀ Hf₀ Hf' S σ l Fs1)(t:yv Hf H Fs Hf' l Fs1)(r:pZ K Hf' l u v F)(o:xS H₀ H Fs Fs1 F) :
  qi K H₀ Hf₀ (Z.frz Hf' l F) S σ l Fs1/\rm K (Z.frz Hf' l F) (oN u) v/\yv Hf H Fs (Z.frz Hf' l F) l Fs1:=by
 have n:=λq s=>(r.owned q s).2
 refine⟨R.frz (λq s=>⟨o.fr q s,o.out q s⟩) n,r.frozen (tG n) λq s=>CW s,t.sf.trans (tG n),t.sh,t.own,λb h g=>?_⟩
 by_cases m:b∈F
 .exact o.new b m
 .rw[vf m]at g;exact t.gr b h g
def pU.nil:pU K Hf H [] [] []:=⟨rfl,rfl,λi a v F h=>by simp at h⟩
def pU.cons(h:pZ K Hf H a v F)(t:pU K Hf H u vs x):pU K Hf H (a::u) (v::vs) (F::x):=
 ⟨by simp[t.1],by simp[t.2.1],λi b w G l n s=>by
  cases i with
  |zero=>
   simp at l n s;subst l n s;exact h
  |succ i=>exact t.2.2 i b w G (by simpa using l) (by simpa using n) (by simpa using s)⟩
def pU.nil_inv(h:pU K Hf H [] vs l):vs=[]/\l=[]:=by
 obtain⟨a,b,_⟩:=h;exact⟨bV.mp a.symm,bV.mp b.symm⟩
def pU.cons_inv(h:pU K Hf H (a::s) vs n):∃v ws F l,vs=v::ws/\n=F::l/\pZ K Hf H a v F/\pU K Hf H s ws l:=by
 obtain⟨t,u,x⟩:=h;cases vs with
 |nil=>simp at t
 |cons v ws=>
  cases n with
  |nil=>simp at u
  |cons F l=>exact⟨v,ws,F,l,rfl,rfl,x 0 a v F rfl rfl rfl,by simpa using t,by simpa using u,λi b w G z B E=>x (i+1) b w G (by simpa using z) (by simpa using B) (by simpa using E)⟩
theorem pU.frozen(h:pU K Hf H as vs Gs)(s:qd Hf Hf')(hk:∀q∈Gs.flatten,Hf' q=H q):qo K Hf' (as.map oN) vs:=
 ⟨by simp[h.1],λi d v l t=>by
  rw[gMq]at l;cases n:as[i]? with
  |none=>rw[n]at l;cases l
  |some a=>
   rw[n]at l;cases l;have hi:=h.2.1 ▸ (gSq.mp n).1;exact(h.2.2 i a v Gs[i] n t (gEg hi)).frozen s λq u=>hk q (mFq.mpr ⟨Gs[i],gRq hi,u⟩)⟩
theorem pU.owned(h:pU K Hf H as vs Gs):∀q∈Gs.flatten,H q≠none/\Hf q=none:=λq l=>by
 obtain⟨F,s,l⟩:=mFq.mp l;obtain⟨i,hi,rfl⟩:=cZ.mp s;have n:=h.2.1.symm ▸ hi;have t:=h.1 ▸ n;exact(h.2.2 i as[i] vs[i] Gs[i] (gEg n) (gEg t) (gEg hi)).owned q l
def qi.gives(R:qi K H₀ Hf₀ Hf' S σ l Fs1)(t:yv Hf H Fs Hf' l Fs1)(r:pU K Hf' l x vs s)(o:xS H₀ H Fs Fs1 s.flatten) :
  qi K H₀ Hf₀ (Z.frz Hf' l s.flatten) S σ l Fs1/\qo K (Z.frz Hf' l s.flatten) (x.map oN) vs/\yv Hf H Fs (Z.frz Hf' l s.flatten) l Fs1:=by
 have n:=λq u=>(r.owned q u).2
 refine⟨R.frz (λq u=>⟨o.fr q u,o.out q u⟩) n,r.frozen (tG n) λq u=>CW u,t.sf.trans (tG n),t.sh,t.own,λb h g=>?_⟩
 by_cases m:b∈s.flatten
 .exact o.new b m
 .rw[vf m]at g;exact t.gr b h g
def xS.stp(o:xS H₀ H Fs Fs1 F)(t:yv Hf1 n Fs1 l s Fs2):xS H₀ H Fs Fs2 F:=⟨o.nd,o.fr,λq h m=>o.out q h (t.own q m),o.new⟩
def xS.back(t:yv Hf H Fs Hf1 l Fs1)(o:xS H₀ l Fs1 Fs2 F):xS H₀ H Fs Fs2 F:=⟨o.nd,o.fr,o.out,λq h=>(o.new q h).elim (λe=>.inl (t.sh.free e)) λm=>.inr (t.own q m)⟩
def xS.app(a:xS H₀ H Fs Fs' F)(b:xS H₀ H Fs Fs' G)(d:∀q∈F,q∉G):xS H₀ H Fs Fs' (F++G):=
 ⟨nAq.mpr ⟨a.nd,b.nd,λx l y n e=>d x l (e ▸ n)⟩,λq h=>(mAq.mp h).elim (a.fr q) (b.fr q),λq h=>(mAq.mp h).elim (a.out q) (b.out q),λq h=>(mAq.mp h).elim (a.new q) (b.new q)⟩
def xS.apart{Hf1:Hp}(a:xS H₀ H Fs Fs1 F)(ha:∀q∈F,l q≠none)(b:xS H₀ l Fs1 Fs2 G):∀q∈F,q∉G:=λq h m=>by
 rcases b.new q m with e|e
 .exact ha q h e
 .exact a.out q h e
def xS.one(R:qi K H₀ Hf₀ Hf S σ H Fs)(l:H p=none):xS H₀ H Fs Fs [p]:=
 ⟨by simp,λq h=>by rw[mSq.mp h];exact R.fr.free l,λq h m=>by rw[mSq.mp h]at m;exact(R.mem m).1 l,λq h=>by rw[mSq.mp h];exact .inl l⟩
noncomputable def oH(i:Nat):ME:=λS=>(S[i]?.join).map λa=>(oN a,S)
noncomputable def oW(i:Nat):MK:=λS=>(S[i]?.join).map λa=>(.sh (oN a),S.set i (some (.sh (oN a))))
noncomputable def AG(i:Nat):MK:=λS=>(S[i]?.join).map λa=>(a,S.set i none)
noncomputable def IQ(i:Nat):ML:=λS=>match S[i]?.join with
 |some (.sh (.list ds))=>some (ds,S)
 |some (.ow l)=>some (l.map oN,S.set i (some (.ow ((l.map oN).map .sh))))
 |_=>none
noncomputable def rOf(k:MK):ME:=λS=>(k S).map λx=>(oN x.1,x.2)
def kSc(m:ME):MK:=λS=>(m S).bind λx=>if x.1.scal then some (.sh x.1,x.2)else none
def lOf(k:MK):ML:=λS=>(k S).bind λx=>match x.1 with
 | .sh (.list ds)=>some (ds,x.2)
 | .ow l=>some (l.map oN,x.2)
 |_=>none
noncomputable def sr(k:MK):MK:=λS=>(k S).map λx=>(.sh (oN x.1),x.2)
def rC(d:D):ME:=λS=>if d.scal then some (d,S)else none
def ql{S:AS}{i:Nat}(h:S[i]?.join=some a):S[i]?=some (some a):=by
 cases e:S[i]? with
 |none=>rw[e]at h;cases h
 |some z=>rw[e]at h;exact congrArg some h
def qu i:SR K (wU i) (oH i):=by
 intro H₀ l Hf S σ H t d u R e Q q;obtain⟨a,n,e⟩:=oMq.mp e;cases e;obtain⟨v,F,s,x,r⟩:=R.rep i a (ql n);exact⟨v,s,q _ _ _ v .refl R (r.rep R.sub)⟩
def aas i:SK K (wU i) (AG i):=by
 intro H₀ n Hf S σ H B a E R e Q q;obtain⟨b,s,e⟩:=oMq.mp e;cases e;obtain⟨v,F,t,u,r,nd,o,x⟩:=R.move (ql s);exact⟨v,t,q _ _ _ v F ⟨.refl _,.refl _,λp z=>qz z,λb h g=>absurd h g⟩ x r ⟨nd,λq l=>(o q l).1,λq l=>(o q l).2,λq l=>.inr (mFq.mpr ⟨F,mGq u,l⟩)⟩⟩
def qi.again{S:AS}{n:List Δ}{F:Δ}(R:qi K H₀ l Hf (S.set i none) σ H (n.set i []))(s1:σ[i]?=some (some v))(r:pZ K Hf H s v G)(nd:G.Nodup)(t:∀q∈G,H₀ q=none/\q∉(n.set i []).flatten) :
  qi K H₀ l Hf (S.set i (some s)) σ H (n.set i G):=by
 have R2:=R.set i r nd t;rw[gQ,gQ]at R2;have e:σ.set i (some v)=σ:=by
  obtain⟨hk,u⟩:=gSq.mp s1;rw[←u];exact gE hk
 rw[e]at R2;exact R2
def A8 i:SK K (wU i) (oW i):=by
 intro H₀ l Hf S σ H I a J R e Q q;obtain⟨b,x,e⟩:=oMq.mp e;cases e;obtain⟨v,F,t,z,r,nd,o,B⟩:=R.move (ql x);have n:=λq s=>(r.owned q s).2
 have R2:=B.frz o n;have u:=r.frozen (tG n) λq s=>CW s
 have E:=R2.again (F:=F) t (.sh u) bb λq h=>(by cases h)
 refine⟨v,t,q _ _ _ v [] ⟨tG n,.refl _,λp G=>qz G,λb h g=>?_⟩ E (.sh u) .nil⟩
 by_cases m:b∈F
 .exact .inr (mFq.mpr ⟨F,mGq z,m⟩)
 .rw[vf m]at g;exact absurd h g
def Ly i:SL K (wU i) (IQ i):=by
 intro H₀ u Hf S σ H Fs ds S' R e Q q;unfold IQ at e;split at e
 .rename_i M x;cases e;obtain⟨v,F,s,B,r⟩:=R.rep i _ (ql x);obtain⟨p,E,rfl,t,G⟩:=r.sh_inv.2.list_inv;exact⟨_,s,q _ _ _ p E .refl R (R.sub _ _ t) G⟩
 .rename_i O x;cases e;obtain⟨v,F,s,B,r,nd,o,P⟩:=R.move (ql x);obtain⟨p,E,I,rfl,rfl,t,G,J⟩:=r.ow_inv;have n:=λq l=>(J.owned q l).2
  have R2:=P.frz (λq l=>o q (mCo _ l)) n
  have L:=J.frozen (tG n) λq l=>CW l
  have U:=(aq.mp nd).1;have X:=pZ.new t (by rw[vf U];exact G) L
  have Y:=R2.again (F:=p::I.flatten) s X ⋯ λq l=>by rw[mSq.mp l];exact o p ⋯
  refine⟨_,s,q _ _ _ p E ⟨tG n,.refl _,λb hb=>?_,λb h g=>?_⟩ Y t L⟩
  .rcases rK hb with z|z
   .rw[mSq.mp z];exact mFq.mpr ⟨_,mGq B,by simp⟩
   .exact z
  .by_cases m:b∈I.flatten
   .exact .inr (mFq.mpr ⟨_,mGq B,mCo _ m⟩)
   .rw[vf m]at g;exact absurd h g
 .cases e
theorem SK.rOf(h:SK K te k):SR K te (rOf k):=by
 intro H₀ l Hf S σ H B d E R e Q q;obtain⟨x,s,e⟩:=oMq.mp e;cases e;exact h R s Q λu G z v F t n r o=>q _ _ _ v t n (r.rep n.sub)
theorem SR.kSc(h:SR K te m):SK K te (kSc m):=by
 intro H₀ l Hf S σ H B a E R e Q q;obtain⟨x,n,e⟩:=oBq.mp e;split at e
 .rename_i hs;cases e;exact h R n Q λs G u v t z r=>q _ _ _ v [] t z (.sh (r.scal hs)) .nil
 .cases e
def SK.frz(h:SK K te k):SK K te (sr k):=by
 intro H₀ l Hf S σ H G a I R e Q q;obtain⟨x,n,e⟩:=oMq.mp e;cases e;refine h R n Q λs J u v F t z r o=>?_
 obtain⟨R2,B,E⟩:=z.give t r o;exact q _ _ _ v [] E R2 (.sh B) .nil
theorem SK.lOf(h:SK K te k):SL K te (lOf k):=by
 intro H₀ l Hf S σ H P U X R e Q q;obtain⟨x,G,e⟩:=oBq.mp e;refine h R G Q λI Y J v F t n r o=>?_
 split at e
 .rename_i L s;cases e;rw[s]at r;obtain⟨p,u,rfl,z,B⟩:=r.sh_inv.2.list_inv;exact q _ _ _ p u t n (n.sub _ _ z) B
 .rename_i M s;cases e;obtain⟨R2,E,O⟩:=n.give t r o;rw[s,rM]at E;obtain⟨p,u,rfl,z,B⟩:=E.list_inv;exact q _ _ _ p u O R2 (R2.sub _ _ z) B
 .cases e
def RZ(h:∀H,rm K H d v):SR K (tC v) (rC d):=by
 intro H₀ l Hf S σ H n s t R e Q q;unfold rC at e;split at e
 .cases e;exact q _ _ _ v .refl R (h _)
 .cases e
def qC:SR K (tC (.int i)) (rC (.int i)):=RZ λ_=>.int
def XW:SR K (tC (.str i)) (rC (.str i)):=RZ λ_=>.str
def aa4:SR K (tC (.bl i)) (rC (.bl i)):=RZ λ_=>.bl
def YU:SR K (tC .non) (rC .non):=RZ λ_=>.non
def aa3:SR K (tC (.ty T)) (rC (.ty T)):=RZ λ_=>.ty
def vx{α:Type}(p:Prop)(x:Option α):Option α:=@ite (Option α) p (fc p) x none
def vh(h:p)(x:Option α):vx p x=x:=pO h
def wL(x:Option α):vx True x=x:=pO trivial
def pJ{x y:Option α}(h:vx p x=y):(p/\x=y)∨none=y:=by
 by_cases c:p
 .rw[vh c]at h;exact .inl ⟨c,h⟩
 .exact .inr ((@if_neg p (fc p) c _ x none).symm.trans h)
noncomputable def qe(f:D->D->Option D)(a b:ME):ME:=λS=>(a S).bind λx=>(b x.2).bind λy=>(f x.1 y.1).map λd=>(d,y.2)
noncomputable def GN(f:D->Option D)(a:ME):ME:=λS=>(a S).bind λx=>(f x.1).map λd=>(d,x.2)
def EJ(K:Ζ)(r:R2)(f:D->D->Option D):Prop:=∀{x y}{H}{Q}{l n d},rm K H l x->rm K H n y->f l n=some d->(∀v,rm K H d v->Q v H)->r x y H Q
def UnD(K:Ζ)(r:V->Hp->VK->Prop)(f:D->Option D):Prop:=∀{x}{H}{Q}{l d},rm K H l x->f l=some d->(∀v,rm K H d v->Q v H)->r x H Q
def sF(hr:EJ K r f)(ha:SR K ta a)(hb:SR K tb b):SR K (Xb r ta tb) (qe f a b):=by
 intro H₀ l Hf S σ H O d P R e Q q;obtain⟨x,s,e⟩:=oBq.mp e;obtain⟨y,t,e⟩:=oBq.mp e;obtain⟨z,u,e⟩:=oMq.mp e;cases e;refine ha R s _ λB U Fs1 X E G I=>hb G t _ λJ Y Fs2 v2 n R2 L=>?_
 exact hr (I.mono n.sh) L u λv M=>q _ _ _ v (E.trans n) R2 M
def NX{r}{f}(hr:UnD K r f)(ha:SR K ta a):SR K (tUn r ta) (GN f a):=by
 intro H₀ l Hf S σ H I d J R e Q q;obtain⟨x,n,e⟩:=oBq.mp e;obtain⟨z,s,e⟩:=oMq.mp e;cases e;exact ha R n _ λt L Fs1 M u B E=>hr E s λv G=>q _ _ _ v u B G
def LI(c:Int->Int->Prop)(g:Int->Int->D):D->D->Option D
 | .int i,.int j=>vx (c i j) (some (g i j))
 |_,_=>none
noncomputable def dI1(g:Int->D):D->Option D
 | .int i=>some (g i)
 |_=>none
abbrev vC:=LI (λ_ _=>True) λi j=>.int (i+j)
abbrev AY:=LI (λ_ _=>True) λi j=>.int (i-j)
abbrev wW:=LI UG λi j=>.int (i*j)
abbrev tP:=LI (λ_ j=>0<j) λi j=>.int (i % j)
abbrev A3:=LI YM λi j=>.int (i / j)
abbrev J9:=LI aah λi j=>.int (i ^ j.toNat)
abbrev FQ:=LI (λ_ _=>True) λi j=>.bl (decide (i<j))
abbrev dLe:=LI (λ_ _=>True) λi j=>.bl (decide (i<=j))
abbrev Ml:=LI (λ_ _=>True) λi j=>.bl (decide (j<i))
abbrev dGe:=LI (λ_ _=>True) λi j=>.bl (decide (j<=i))
abbrev vS:=dI1 λi=>.int (-i)
noncomputable def Qj(b:Bool):Option D:=some (.bl b)
def FP(x y:D):Option D:=match x with
 | .int i=>(match y with|.int j=>Qj (decide (i=j))|.non=>Qj false|.str _=>Qj false|_=>none)
 | .str i=>(match y with|.str j=>Qj (decide (i=j))|.non=>Qj false|.int _=>Qj false|_=>none)
 | .bl i=>(match y with|.bl j=>Qj (decide (i=j))|.non=>Qj false|_=>none)
 | .non=>(match y with|.non=>Qj true|.int _=>Qj false|.str _=>Qj false|.bl _=>Qj false|_=>none)
 |_=>none
noncomputable def Od:D->Option D
 | .bl b=>some (.bl (!b))
 |_=>none
def KC(x y:D):Option D:=(FP x y).bind Od
def JJ(l:∀H i j,rm K H (g' i j) (g i j)):EJ K (rI C g) (LI C g'):=by
 intro x y H Q t u d n s e q;unfold LI at e;split at e
 .rename_i i j;cases n;cases s;rcases pJ e with⟨h,e⟩|e
  .cases e;exact⟨i,j,rfl,rfl,h,q _ (l H i j)⟩
  .cases e
 .cases e
def Iu(l:∀H i j,rm K H (g' i j) (g i j)):EJ K (Us g) (LI (λ_ _=>True) g'):=by
 intro x y H Q t u d n s e q;unfold LI at e;split at e
 .rename_i i j;cases n;cases s;rw[wL]at e;cases e;exact⟨i,j,rfl,rfl,q _ (l H i j)⟩
 .cases e
def TH:EJ K (Us λi j=>.int (i+j)) vC:=Iu λ_ _ _=>.int
def Mx:EJ K (Us λi j=>.int (i-j)) AY:=Iu λ_ _ _=>.int
def Li:EJ K (rI UG λi j=>.int (i*j)) wW:=JJ λ_ _ _=>.int
def xB:EJ K (rI (λ_ j=>0<j) λi j=>.int (i % j)) tP:=JJ λ_ _ _=>.int
def HN:EJ K (rI YM λi j=>.int (i / j)) A3:=JJ λ_ _ _=>.int
def Yo:EJ K (rI aah λi j=>.int (i ^ j.toNat)) J9:=JJ λ_ _ _=>.int
def GR:EJ K (Us λi j=>.bl (decide (i<j))) FQ:=Iu λ_ _ _=>.bl
def NO:EJ K (Us λi j=>.bl (decide (j<i))) Ml:=Iu λ_ _ _=>.bl
def CD:UnD K (rU λi=>.int (-i)) vS:=by
 intro x H Q n d l e q;cases l <;> simp only[dI1]at e
 all_goals first|(simp at e;done)|skip
 rename_i i;cases e;exact⟨i,rfl,q _ .int⟩
def XC:EJ K rEq FP:=by
 intro x y H Q s t d l n e q;cases l <;> first|(cases e;)|(cases n <;> first|(cases e;done)|skip)
 all_goals (cases e;refine⟨rfl,q _ ?_⟩;simp only[reduceCtorEq,decide_false,decide_true,V.int.injEq,V.str.injEq,V.bl.injEq];exact .bl)
def SN:EJ K rNe KC:=by
 intro x y H Q B E d l n e q;obtain⟨b,s,t⟩:=oBq.mp e;obtain⟨u,z⟩:=XC l n s (Q:=λv _=>rm K H b v) λv h=>h
 cases z;cases t;exact⟨u,q _ .bl⟩
noncomputable def SY(a b:ME):ME:=λS=>(a S).bind λx=>match x.1 with
 | .bl true=>b x.2
 | .bl false=>some (.bl false,x.2)
 |_=>none
noncomputable def rOr(a b:ME):ME:=λS=>(a S).bind λx=>match x.1 with
 | .bl true=>some (.bl true,x.2)
 | .bl false=>b x.2
 |_=>none
def aay(a:ME):ME:=GN Od a
noncomputable def tN(a:ME):MT:=λS=>(a S).bind λx=>match x.1 with
 | .bl b=>some (b,x.2)
 |_=>none
noncomputable def B2(a b:MT):MT:=λS=>(a S).bind λx=>if x.1=true then b x.2 else some (false,x.2)
noncomputable def ON(a b:MT):MT:=λS=>(a S).bind λx=>if x.1=true then some (true,x.2)else b x.2
noncomputable def BP(a:MT):MT:=λS=>(a S).map λx=>(!x.1,x.2)
noncomputable def rIf(c:MT)(a b:ME):ME:=λS=>(c S).bind λx=>if x.1=true then a x.2 else b x.2
noncomputable def kIf(c:MT)(a b:MK):MK:=λS=>(c S).bind λx=>if x.1=true then a x.2 else b x.2
def KL(ha:SR K ta a)(hb:SR K tb b):SR K (Xo ta tb) (SY a b):=by
 intro H₀ n Hf S σ H L d M R e Q q;obtain⟨x,z,e⟩:=oBq.mp e;refine ha R z _ λB O Fs1 P t u l=>?_
 split at e
 .rename_i s;rw[s]at l;cases l;exact⟨true,rfl,Ho (hb u e Q λE U Fs2 G I R2 J=>q _ _ _ G (t.trans I) R2 J)⟩
 .rename_i s;rw[s]at l;cases l;cases e;exact⟨false,rfl,FI (q _ _ _ _ t u .bl)⟩
 .cases e
def Zv(ha:SR K ta a):SR K (Xp ta) (aay a):=by
 intro H₀ n Hf S σ H I d J R e Q q;obtain⟨x,t,e⟩:=oBq.mp e;obtain⟨z,l,e⟩:=oMq.mp e;cases e;refine ha R t _ λu L Fs1 M B E s=>?_
 cases G:x.1 <;> rw[G]at l s <;> simp only[Od]at l
 all_goals first|(simp at l;done)|skip
 cases s;cases l;exact⟨_,rfl,q _ _ _ _ B E .bl⟩
def TC(ha:SR K ta a):DE K (tB ta) (tN a):=by
 intro H₀ l Hf S σ H E d G R e Q q;obtain⟨x,s,e⟩:=oBq.mp e;refine ha R s _ λt I Fs1 J u z n=>?_
 split at e
 .rename_i b B;rw[B]at n;cases n;cases e;exact⟨_,rfl,q _ _ _ u z⟩
 .cases e
def yZ(ha:SR K ta a):DE K (QU ta) (tN a):=TC ha
def Me(ha:DE K ca ma)(hb:DE K cb mb):DE K (abK ca cb) (B2 ma mb):=by
 intro H₀ n Hf S σ H G d I R e Q q;obtain⟨x,u,e⟩:=oBq.mp e;refine ha R u _ λz J Fs1 s t=>?_
 split at e
 .rename_i l;rw[l];exact Ho (hb t e Q λB L Fs2 E R2=>q _ _ _ (s.trans E) R2)
 .rename_i l;cases e;rw[dD]at l;rw[l];exact FI (q _ _ _ s t)
def aa6(ha:DE K ca ma)(hb:DE K cb mb):DE K (tOr ca cb) (ON ma mb):=by
 intro H₀ n Hf S σ H G d I R e Q q;obtain⟨x,u,e⟩:=oBq.mp e;refine ha R u _ λz J Fs1 s t=>?_
 split at e
 .rename_i l;cases e;rw[l];exact Ho (q _ _ _ s t)
 .rename_i l;rw[dD]at l;rw[l];exact FI (hb t e Q λB L Fs2 E R2=>q _ _ _ (s.trans E) R2)
def YL(ha:DE K ca ma):DE K (abi ca) (BP ma):=by
 intro H₀ l Hf S σ H z d B R e Q q;obtain⟨x,n,e⟩:=oMq.mp e;cases e;exact ha R n _ λs E Fs1 t u=>q _ _ _ t u
abbrev qM:Nat:=16777216
def Q5:jY=qM:=kA
def SQ(K:Ζ)(te:TE)(m:ML):Prop:=∀{H₀ l Hf}{S}{σ}{H}{u}{ds}{S'},qi K H₀ l Hf S σ H u->m S=some (ds,S')->∀Q:VK,
 (∀n t s p vs,yv Hf H u n t s->qi K H₀ l n S' σ t s->rF K t p vs->qo K n ds vs->Q (.ref p) t)->te σ H Q
theorem SL.q(h:SL K te m):SQ K te m:=by
 intro H₀ l Hf S σ H B E G R e Q q;exact h R e Q λn I s p u t x z r=>q _ _ _ p u t x (rF.of z) r
def va(i:Nat):ML:=λS=>match S[i]?.join with
 |some (.sh (.scr ns))=>some (ns.map .int,S)
 |some (.sh (.list ds))=>some (ds,S)
 |some (.ow l)=>some (l.map oN,S.set i (some (.ow ((l.map oN).map .sh))))
 |_=>none
theorem uc:∀ns:Ϝ,qo K H (ns.map .int) (ns.map V.int)
 | []=>.nil
 |n::ns=>.cons .int (uc ns)
def C3{K}i:SQ K (wU i) (va i):=by
 intro H₀ n Hf S σ H M O P R e Q q;unfold va at e;split at e
 .rename_i E l;cases e;obtain⟨v,F,G,U,r⟩:=R.rep i _ (ql l);cases r.sh_inv.2 with
  |scr h=>exact⟨_,G,q _ _ _ _ _ .refl R (R.sub.seq h) (uc E)⟩
 .rename_i I l;cases e;refine Ly i R ?_ Q λs J u p x t z B r=>q _ _ _ p x t z (rF.of B) r
  unfold IQ;rw[l]
 .rename_i L l;refine Ly i R ?_ Q λs J u p x t z B r=>q _ _ _ p x t z (rF.of B) r
  unfold IQ;rw[l];exact e
 .cases e
theorem pU.stp(r:pU K Hf H n vs l)(u:∀q∈l.flatten,q∉Fs.flatten)(t:yv Hf H Fs Hf' H' Fs'):pU K Hf' H' n vs l:=
 ⟨r.1,r.2.1,λi a v F x z s=>(r.2.2 i a v F x z s).stp (λq B=>u q (mFq.mpr ⟨F,mGq s,B⟩)) t⟩
def qi.layF(R:qi K H₀ Hf₀ Hf S σ H Fs)(l:H p=none):yv Hf H Fs (qE Hf p o) (qE H p o) Fs/\qi K H₀ Hf₀ (qE Hf p o) S σ (qE H p o) Fs:=by
 have n:=R.sub.free l;refine⟨⟨uE n,uE l,λ_ h=>h,λb h g=>?_⟩,R.more (uE l) (uE n) (λb u e=>?_) (λq s=>?_) λb x t=>?_⟩
 .by_cases m:b=p
  .subst m;exact .inl l
  .rw[pD m]at g;exact absurd h g
 .by_cases m:b=p
  .subst m;rw[oY]at e ⊢;exact e
  .rw[pD m]at e ⊢;exact R.sub b u e
 .rw[pD λe=>(R.mem s).1 (by rw[e];exact l)]
  exact(R.mem s).2
 .rw[pD λe=>t (by rw[e];exact R.fr.free l)]
  exact R.lim b x t
def pH:MA:=λS=>some ([],S)
noncomputable def oO(k:MK)(r:MA):MA:=λS=>(k S).bind λx=>(r x.2).map λy=>(x.1::y.1,y.2)
def oS:ML:=λS=>some ([],S)
noncomputable def oI(k:ME)(r:ML):ML:=λS=>(k S).bind λx=>(r x.2).map λy=>(x.1::y.1,y.2)
def uY:SA K vy pH:=by
 intro H₀ l Hf S σ H n s t R e Q q;cases e;exact q _ _ _ [] [] .refl R .nil .nil
def vd(hk:SK K te k)(hr:SA K tr r):SA K (rN te tr) (oO k r):=by
 intro H₀ l Hf S σ H U X Y R e Q q;obtain⟨x,E,e⟩:=oBq.mp e;obtain⟨y,G,e⟩:=oMq.mp e;cases e;refine hk R E _ λn H1 Fs1 v F u I z s=>hr I G _ λJ H2 Fs2 L M t R2 O B=>?_
 refine q _ _ _ (v::L) (F::M) (u.trans t) R2 (.cons (z.stp s.out t) O) ?_;exact(s.stp t).app (B.back u) (s.apart (Hf1:=n) (λq P=>(z.owned q P).1) B)
def xl:UY K vy oS:=by
 intro H₀ l Hf S σ H n s t R e Q q;cases e;exact q _ _ _ [] .refl R .nil
def uH(hk:SR K te k)(hr:UY K tr r):UY K (rN te tr) (oI k r):=by
 intro H₀ l Hf S σ H L M O R e Q q;obtain⟨x,s,e⟩:=oBq.mp e;obtain⟨y,t,e⟩:=oMq.mp e;cases e;refine hk R s _ λu P Fs1 v z B E=>hr B t _ λG U Fs2 I n R2 J=>?_
 exact q _ _ _ (v::I) (z.trans n) R2 (.cons (E.mono n.sh) J)
def sm(a:MA):MK:=λS=>(a S).bind λx=>vx (x.1.length<=qM) (some (.ow x.1,x.2))
def K6(a:MA):MK:=λS=>(a S).bind λx=>vx (x.1.length<=qM) (some (.sh (.tup (x.1.map oN)),x.2))
def zZ(ha:SA K ta a):SK K (Yt ta) (sm a):=by
 intro H₀ l Hf S σ H O P U R e Q q;obtain⟨x,E,e⟩:=oBq.mp e;rcases pJ e with⟨hl,e⟩|e
 .cases e;refine ha R E _ λG X Fs1 Y I t u n z=>⟨by rw[←n.1];exact hl,λp s=>?_⟩
  obtain⟨B,R2,J,n2,n3⟩:=u.new s;refine q _ _ _ (.ref p) (p::I.flatten) (t.trans B) R2 (pZ.news oY J (n.stp z.out B)) ?_;have L:=(xS.one u s).back t;refine(L.app z λq M m=>?_)
  rw[mSq.mp M]at m;exact(n.owned p m).1 s
 .cases e
def Ys(ha:SA K ta a):SK K (abq ta) (K6 a):=by
 intro H₀ l Hf S σ H M O P R e Q q;obtain⟨x,t,e⟩:=oBq.mp e;rcases pJ e with⟨hl,e⟩|e
 .cases e;refine ha R t _ λu U Fs1 X Y z B n E=>⟨by rw[←n.1];exact hl,λp G=>?_⟩
  obtain⟨R2,I,J⟩:=B.gives z n E;obtain⟨s,L⟩:=R2.layF G;exact q _ _ _ (.ref p) [] (J.trans s) L (.sh (.mk_tup oY (I.mono s.sf))) .nil
 .cases e
def PU(a b:ML):MK:=λS=>(a S).bind λx=>(b x.2).bind λy=>vx (x.1.length+y.1.length<=qM) (some (.ow ((x.1++y.1).map .sh),y.2))
def Y8(ha:SL K ta a)(hb:SL K tb b):SK K (Xb aci ta tb) (PU a b):=by
 intro H₀ n Hf S σ H Fs av S' R e Q q;obtain⟨x,G,e⟩:=oBq.mp e;obtain⟨y,I,e⟩:=oBq.mp e;rcases pJ e with⟨hl,e⟩|e
 .cases e;refine ha R G _ λJ H1 Fs1 L s u M O z=>hb M I _ λP H2 Fs2 U t l R2 X B=>?_
  refine⟨L,U,s,t,rfl,rfl,l.sh _ _ O,X,by rw[←z.1,←B.1];exact hl,λp E=>?_⟩
  obtain⟨Y,R3,n1,n2,n3⟩:=R2.new E;exact q _ _ _ (.ref p) [p] ((u.trans l).trans Y) R3 (pZ.new oY n1 ((z.mono l.sf).append B)) ((xS.one R2 E).back (u.trans l))
 .cases e
abbrev MO:=AS->Option (Option Int×AS)
def SO(K:Ζ)(to:TO)(m:MO):Prop:=∀{H₀ l Hf}{S}{σ}{H}{u}{o}{S'},qi K H₀ l Hf S σ H u->m S=some (o,S')->∀Q:Option Int->Hp->Prop,
 (∀n t s,yv Hf H u n t s->qi K H₀ l n S' σ t s->Q o t)->to σ H Q
def yr:MO:=λS=>some (none,S)
noncomputable def wA(m:ME):MO:=λS=>(m S).bind λx=>match x.1 with
 | .int i=>some (some i,x.2)
 |_=>none
def zf{α:Type}(l:List α)(lo hi:Option Int):List α:=(l.drop (HT.Gn l.length 0 lo)).take (HT.Gn l.length l.length hi-HT.Gn l.length 0 lo)
def MW(l:ML)(lo hi:MO):MK:=λS=>(l S).bind λx=>(lo x.2).bind λy=>(hi y.2).map λz=>(.ow ((zf x.1 y.1 z.1).map .sh),z.2)
def D3:SO K N3 yr:=by
 intro H₀ n Hf S σ H s o t R e Q q;cases e;exact q _ _ _ .refl R
def AB(h:SR K te m):SO K (Xs te) (wA m):=by
 intro H₀ n Hf S σ H G o I R e Q q;obtain⟨x,t,e⟩:=oBq.mp e;refine h R t _ λu J Fs1 v z B s=>?_
 split at e
 .rename_i i E;rw[E]at s;cases s;cases e;exact⟨i,rfl,q _ _ _ z B⟩
 .cases e
def qo.cut(r:qo K H ds vs)lo hi:qo K H (zf ds lo hi) (O4 vs lo hi):=by
 unfold zf O4;rw[r.1];exact(r.drop _).take _
def KB(hl:SQ K te l)(t:SO K tl lo)(u:SO K th hi):SK K (tSl (aa7 K) te tl th) (MW l lo hi):=by
 intro H₀ B Hf S σ H Fs av S' R e Q q;obtain⟨x,L,e⟩:=oBq.mp e;obtain⟨y,M,e⟩:=oBq.mp e;obtain⟨z,O,e⟩:=oMq.mp e;cases e;refine hl R L _ λP H1 Fs1 U E G X Y r1=>t X M _ λHf2 H2 Fs2 n R2=>u R2 O _ λHf3 H3 Fs3 s I=>?_
 refine⟨U,E,rfl,(n.sh.trans s.sh).seq Y,λp J=>?_⟩
 obtain⟨t4,R4,n1,n2,n3⟩:=I.new J;exact q _ _ _ (.ref p) [p] (((G.trans n).trans s).trans t4) R4 (pZ.new oY n1 ((r1.mono (n.sf.trans s.sf)).cut _ _)) ((xS.one I J).back ((G.trans n).trans s))
def FG:D->D->Option D
 | .list ds,.int i=>atI ds i
 | .scr ns,.int i=>(atI ns i).map .int
 |_,_=>none
def Xc:D->D->Option D
 | .tup ds,.int i=>atI ds i
 |_,_=>none
def kIx(l:ML)(b:ME):MK:=λS=>(l S).bind λx=>(b x.2).bind λy=>match y.1 with
 | .int i=>(atI x.1 i).map λd=>(.sh d,y.2)
 |_=>none
theorem qo.atI(r:qo K H ds vs)(h:L2.atI ds i=some d):∃v,L2.atI vs i=some v/\rm K H d v:=by
 unfold L2.atI at h ⊢;rw[r.1]at h;obtain⟨j,l,n⟩:=oBq.mp h;rw[l];exact r.get n
def TU:EJ K (VU K) FG:=by
 intro x y H Q M O d u z e q;unfold FG at e;split at e
 .rename_i P i;cases z;obtain⟨p,E,rfl,h,r⟩:=u.list_inv;obtain⟨l,G⟩:=r;obtain⟨v,s,t⟩:=qo.atI ⟨l,G⟩ e;exact⟨p,E,i,v,rfl,rfl,rF.of h,s,q v t⟩
 .rename_i B i;cases z;cases u;rename_i p h;obtain⟨n,s,t⟩:=oMq.mp e;subst t;obtain⟨v,I,J⟩:=qo.atI (uc B) (by
   unfold L2.atI at s ⊢;rw[lMq];obtain⟨j,L,g2⟩:=oBq.mp s;rw[L];show(B.map D.int)[j]?=_;rw[gMq,g2];rfl)
  exact⟨p,_,i,v,rfl,rfl,h,I,q v J⟩
 .cases e
def ZX:EJ K (abB K) Xc:=by
 intro x y H Q z B d l n e q;unfold Xc at e;split at e
 .rename_i E i;cases n;obtain⟨p,s,rfl,h,r⟩:=l.tup_inv;obtain⟨v,t,u⟩:=qo.atI r e;exact⟨p,s,i,v,rfl,rfl,DG.of h,t,q v u⟩
 .cases e
def abl(hl:SQ K ta l)(hb:SR K tb b):SK K (Xb (VU K) ta tb) (kIx l b):=by
 intro H₀ n Hf S σ H Y av S' R e Q q;obtain⟨x,z,e⟩:=oBq.mp e;obtain⟨y,B,e⟩:=oBq.mp e;refine hl R z _ λE H1 Fs1 G s I J L M=>hb J B _ λO H2 Fs2 v2 t R2 u=>?_
 split at e
 .rename_i i P;rw[P]at u;cases u;obtain⟨d,U,e⟩:=oMq.mp e;cases e;obtain⟨v,X,g2⟩:=(M.mono t.sf).atI U;exact⟨G,s,i,v,rfl,rfl,t.sh.seq L,X,q _ _ _ v [] (I.trans t) R2 (.sh g2) .nil⟩
 .cases e
def Ry(K:Ζ)(r:List V->Hp->VK->Prop)(f:List D->Option D):Prop:=∀{vs}{H}{Q}{ds}{d},qo K H ds vs->f ds=some d->(∀v,rm K H d v->Q v H)->r vs H Q
noncomputable def uR(f:List D->Option D)(a:ML):ME:=λS=>(a S).bind λx=>(f x.1).map λd=>(d,x.2)
def EC(hr:Ry K r f)(ha:UY K n a):SR K (K2 r n) (uR f a):=by
 intro H₀ l Hf S σ H J d L R e Q q;obtain⟨x,s,e⟩:=oBq.mp e;obtain⟨z,t,e⟩:=oMq.mp e;cases e;exact ha R s _ λu M Fs1 O B E G=>hr G t λv I=>q _ _ _ v B E I
def rE:List D->Option D
 | [.list ds]=>some (.int ds.length)
 | [.tup ds]=>some (.int ds.length)
 | [.scr ns]=>some (.int ns.length)
 | [.str x]=>vx (x.length<=qM) (some (.int x.length))
 |_=>none
noncomputable def J5:List D->Option D
 | [.dict ds]=>some (.int ds.length)
 |_=>none
noncomputable def W3:List D->Option D
 | [.int i]=>some (.int (if i<0 then -i else i))
 |_=>none
noncomputable def ad7:List D->Option D
 | [.int i,.int j]=>some (.int (if j>i then j else i))
 |_=>none
noncomputable def adW:List D->Option D
 | [.int i,.int j]=>some (.int (if j<i then j else i))
 |_=>none
noncomputable def aef:List D->Option D
 | [.int i]=>some (.int i)
 | [.bl k]=>some (.int (if k then 1 else 0))
 |_=>none
noncomputable def isT:D->String->Option D
 | .int _,T=>if T = "int" then some (.bl true)else if T = "bool" then some (.bl false)else none
 | .bl _,T=>if T = "bool" ∨ T = "int" then some (.bl true)else none
 | .str _,T=>if T = "str" then some (.bl true)else none
 | .list _,T=>if T = "list" then some (.bl true)else none
 | .tup _,T=>if T = "tuple" then some (.bl true)else none
 | .dict _,T=>if T = "dict" then some (.bl true)else none
 |_,_=>none
def TK:List D->Option D
 | [x,.ty T]=>isT x T
 |_=>none
noncomputable def rz:List D->Option Ϝ
 | []=>some []
 | .int i::ds=>(rz ds).map (i :: ·)
 |_=>none
theorem uV:∀{ds}{ns},rz ds=some ns->ds=ns.map .int
 | [],ns,h=>by cases h;rfl
 |d::ds,ns,h=>by
  cases d with
  |int i=>
   obtain⟨s,l,n⟩:=oMq.mp (h);subst n;rw[uV l];rfl
  |_=>cases h
@[simp] theorem rp ns:rz (ns.map .int)=some ns:=by
 induction ns with
 |nil=>rfl
 |cons n ns l=>show(rz (ns.map .int)).map (n :: ·)=_;rw[l];rfl
theorem rX:∀{ns:Ϝ}{vs},qo K H (ns.map .int) vs->vs=ns.map V.int
 | [],vs,h=>h.nil_inv
 |n::ns,vs,h=>by
  obtain⟨v,t,rfl,l,s⟩:=qo.cons_inv h;cases l;rw[rX s];rfl
noncomputable def DQ:Ϝ->Option Int
 | []=>none
 |n::ns=>some (ns.foldl min n)
theorem xI:∀(ns:Ϝ) n,ns.foldl min n∈n::ns
 | [],n=>by simp
 |m::ns,n=>by
  have h:=xI ns (min n m);rw[dh];rcases aa.mp h with e|e
  .rw[e]
   by_cases c:n<=m
   .rw[Int.min_eq_left c];simp
   .rw[Int.min_eq_right ∅];simp
  .exact mCo _ (mCo _ e)
theorem vQ:∀(ns:Ϝ) n,(ns.foldl min n<=n)/\∀x∈ns,ns.foldl min n<=x
 | [],n=>⟨iK _,λx h=>by cases h⟩
 |m::ns,n=>by
  obtain⟨t,l⟩:=vQ ns (min n m);rw[dh];refine⟨by lia,λx s=>?_⟩
  rcases aa.mp s with e|e
  .lia
  .exact l x e
def IP:List D->Option D
 | [.list ds]=>(rz ds).bind λns=>(DQ ns).map .int
 |_=>none
def AQ:Ry K (λE H Q=>∃x n,E=[x]/\aaO K x H n/\Q (.int n) H) rE:=by
 intro G H Q I d r e q;unfold rE at e;split at e
 .obtain⟨v,t,rfl,l,s⟩:=r.cons_inv;rw[s.nil_inv];obtain⟨p,u,rfl,z,B⟩:=l.list_inv;cases e;exact⟨_,_,rfl,.inl ⟨u,rF.of z,B.1⟩,q _ .int⟩
 .obtain⟨v,t,rfl,l,s⟩:=r.cons_inv;rw[s.nil_inv];obtain⟨p,u,rfl,z,B⟩:=l.tup_inv;cases e;exact⟨_,_,rfl,.inr ⟨u,DG.of z,B.1⟩,q _ .int⟩
 .obtain⟨v,t,rfl,l,s⟩:=r.cons_inv;rw[s.nil_inv];cases e;cases l with
  |scr h=>exact⟨_,_,rfl,.inl ⟨_,h,(lMq _).symm⟩,q _ .int⟩
 .rcases pJ e with⟨hl,e⟩|e
  .obtain⟨v,t,rfl,l,s⟩:=r.cons_inv;rw[s.nil_inv];cases e;cases l;exact⟨_,_,rfl,⟨by exact hl,rfl⟩,q _ .int⟩
  .cases e
 .cases e
def W1:Ry K (λl H Q=>∃a kvs,l=[V.ref a]/\H a=some (.dK kvs)/\Q (.int kvs.length) H) J5:=by
 intro x H Q z d r e q;unfold J5 at e;split at e
 .obtain⟨v,B,rfl,n,s⟩:=r.cons_inv;rw[s.nil_inv];obtain⟨p,E,rfl,t,u⟩:=n.dict_inv;cases e;have hl:=congrArg bJ u.1;rw[lMq,lMq]at hl;rw[hl]at q;exact⟨_,_,rfl,t,q _ .int⟩
 .cases e
def Yj:Ry K (λl H Q=>∃i,l=[.int i]/\Q (.int (if i<0 then -i else i)) H) W3:=by
 intro t H Q u d r e q;unfold W3 at e;split at e
 .obtain⟨v,x,rfl,n,s⟩:=r.cons_inv;rw[s.nil_inv];cases n;cases e;exact⟨_,rfl,q _ .int⟩
 .cases e
def Y1:Ry K (λB H Q=>∃(a:Addr) (ns:Ϝ),B=[.ref a]/\rF K H a (ns.map V.int)/\0<ns.length/\∀M,M∈ns->(∀x,x∈ns->M<=x)->Q (.int M) H) IP:=by
 intro P H Q R d r e q;unfold IP at e;split at e
 .obtain⟨v,S,rfl,l,E⟩:=r.cons_inv;rw[E.nil_inv];obtain⟨ns,G,e⟩:=oBq.mp e;obtain⟨m,s,e⟩:=oMq.mp e;cases e;rw[uV G]at l;obtain⟨p,U,rfl,t,I⟩:=l.list_inv;rw[rX I]at t;cases ns with
  |nil=>cases s
  |cons n ns=>
   cases s;refine⟨p,_,rfl,rF.of t,by simp,λM J L=>?_⟩
   have O:M=ns.foldl min n:=by
    have X:=L _ (xI ns n);have u:=vQ ns n;have Y:ns.foldl min n<=M:=by
     rcases aa.mp J with z|z
     .subst z;exact u.1
     .exact u.2 M z
    lia
   rw[O];exact q _ .int
 .cases e
def Zq:Ry K (λB H Q=>∃x T b,B=[x,.ty T]/\Z6 K x H T b/\Q (.bl b) H) TK:=by
 intro J H Q L d r e q;unfold TK at e;split at e
 rotate_left
 .cases e
 rename_i x T;obtain⟨v,M,rfl,n,E⟩:=r.cons_inv;obtain⟨u,O,rfl,G,I⟩:=E.cons_inv;rw[I.nil_inv];cases G;unfold isT at e;cases x <;> first|(cases e;)|dsimp only at e
 case int=>
  cases n;split at e
  .rename_i l;cases e;exact⟨_,_,_,rfl,.inl ⟨l,rfl⟩,q _ .bl⟩
  .split at e
   .rename_i l;cases e;exact⟨_,_,_,rfl,.inr ⟨l,rfl⟩,q _ .bl⟩
   .cases e
 case bl=>
  cases n;split at e
  .rename_i l;cases e;rcases l with l|l
   .exact⟨_,_,_,rfl,.inl ⟨l,rfl⟩,q _ .bl⟩
   .exact⟨_,_,_,rfl,.inr ⟨l,rfl⟩,q _ .bl⟩
  .cases e
 case str=>
  cases n;split at e
  .rename_i l;cases e;exact⟨_,_,_,rfl,⟨l,rfl⟩,q _ .bl⟩
  .cases e
 case list=>
  obtain⟨p,s,rfl,t,z⟩:=n.list_inv;split at e
  .rename_i l;cases e;exact⟨_,_,_,rfl,.inl ⟨l,rfl,s,rF.of t⟩,q _ .bl⟩
  .cases e
 case tup=>
  obtain⟨p,s,rfl,t,z⟩:=n.tup_inv;split at e
  .rename_i l;cases e;exact⟨_,_,_,rfl,.inr (.inr ⟨l,rfl,s,DG.of t⟩),q _ .bl⟩
  .cases e
 case dict=>
  obtain⟨p,s,rfl,t,z⟩:=n.dict_inv;split at e
  .rename_i l;cases e;exact⟨_,_,_,rfl,.inr (.inl ⟨l,rfl,s,t⟩),q _ .bl⟩
  .cases e
abbrev MF:=List D->Option AV
def sq(K:Ζ)(f:MF):Sp:=λvs H Q _=>∃Hf ds a,qd Hf H/\qo K Hf ds vs/\f ds=some a /\
 ∀l n v F,qd Hf l->qd H n->qd l n->(∀b,Hf b=none->H b≠none->l b=none)->pZ K l n a v F->F.Nodup->(∀q∈F,H q=none)->Q v n
def qb(f:MF)(a:MA):MK:=λS=>(a S).bind λx=>(f (x.1.map oN)).map λr=>(r,x.2)
def DS(ha:SA K E a):SK K (GW (sq K f) [] E0 E) (qb f a):=by
 intro H₀ s Hf S σ H Fs M S' R e Q q;obtain⟨x,O,e⟩:=oBq.mp e;obtain⟨z,P,e⟩:=oMq.mp e;cases e;refine ha R O _ λt u Fs1 vs U G X Y o1=>?_
 obtain⟨R2,r2,t2⟩:=X.gives G Y o1;rw[aNq];refine⟨_,_,M,R2.sub,r2,P,λB H' v F I J s3 l r nd fr=>?_⟩
 have t3:yv (Z.frz t u U.flatten) u Fs1 B H' Fs1:=⟨I,J,λ_ h=>h,λb h g=>.inl (by
  by_cases e:u b=none
  .exact e
  .exact absurd (l b h e) g)⟩
 have hn:=λq n=>l q (R2.mem n).2 (R2.mem n).1
 have R3:=R2.more J I s3 hn λb h1 L=>l b (R2.lim b h1 L) (NA R2.fr L)
 refine q _ _ _ v F (t2.trans t3) R3 r ⟨nd,λq n=>R2.fr.free (fr q n),λq n m=>(R2.mem m).1 (fr q n),λq n=>.inl (G.sh.free (fr q n))⟩
inductive IC where
 |nx (S:AS)|rt (a:AV)|bk (S:AS)|ct (S:AS)
abbrev MS:=AS->Option IC
def Ky(K:Ζ)(H₀ n Hf:Hp)(D:AI):IC->Prop
 | .nx S=>∀l s t u,qd Hf l->qi K H₀ n l S s t u->D.nx s t
 | .bk S=>∀l s t u,qd Hf l->qi K H₀ n l S s t u->D.bk s t
 | .ct S=>∀l s t u,qd Hf l->qi K H₀ n l S s t u->D.ct s t
 | .rt a=>∀l t v F,qd n l->qd H₀ t->qd l t->(∀b,n b=none->H₀ b≠none->l b=none)->pZ K l t a v F->F.Nodup->(∀q∈F,H₀ q=none)->D.rt v t
def SS(K:Ζ)(t:TS)(m:MS):Prop:=∀{H₀ l Hf}{S}{σ}{H}{n}{o},qi K H₀ l Hf S σ H n->m S=some o->∀D:AI,Ky K H₀ l Hf D o->t D σ H
def Ky.mono{D}(s:qd Hf x)(h:Ky K H₀ l Hf D o):Ky K H₀ l x D o:=by
 cases o with
 |nx S=>exact λn t z u B R=>h n t z u (s.trans B) R
 |bk S=>exact λn t z u B R=>h n t z u (s.trans B) R
 |ct S=>exact λn t z u B R=>h n t z u (s.trans B) R
 |rt a=>exact h
def qK:MS:=λS=>some (.nx S)
def adm:MS:=λS=>some (.bk S)
def ad3:MS:=λS=>some (.ct S)
def K5:MS:=λ_=>none
noncomputable def oM(a b:MS):MS:=λS=>(a S).bind λo=>match o with
 | .nx S'=>b S'
 |o=>some o
noncomputable def oX(i:Nat)(k:MK):MS:=λS=>(k S).map λx=>.nx (x.2.set i (some x.1))
noncomputable def RY(k:MK):MS:=λS=>(k S).map λx=>.nx x.2
noncomputable def qT(k:MK):MS:=λS=>(k S).map λx=>.rt x.1
noncomputable def zC(c:MT)(a b:MS):MS:=λS=>(c S).bind λx=>if x.1=true then a x.2 else b x.2
def DI:SS K Np qK:=by
 intro H₀ l Hf S σ H n o R e D h;cases e;exact h _ _ _ _ (.refl _) R
def UN:SS K Sn K5:=by
 intro H₀ l Hf S σ H n o R e D h;cases e
def xP(ha:SS K t a)(hb:SS K u b):SS K (E1 t u) (oM a b):=by
 intro H₀ l Hf S σ H I o R e D h;obtain⟨x,n,e⟩:=oBq.mp e;refine ha R n _ ?_;cases x with
 |nx J=>exact λz B L E s G=>hb G e D (h.mono s)
 |rt a=>cases e;exact h
 |bk a=>cases e;exact h
 |ct a=>cases e;exact h
def CN(hk:SK K te k):SS K (FU te (rA i)) (oX i k):=by
 intro H₀ l Hf S σ H J o R e D h;obtain⟨x,z,e⟩:=oMq.mp e;cases e;refine hk R z _ λB L Fs1 v F E G I n=>?_
 exact h _ _ _ _ E.sf (G.set i I n.nd λq s=>⟨n.fr q s,n.out q s⟩)
def W6(hk:SK K te k):SS K (zA te) (RY k):=by
 intro H₀ l Hf S σ H E o R e D h;obtain⟨x,n,e⟩:=oMq.mp e;cases e;exact hk R n _ λs G Fs1 v F z B I J=>h _ _ _ _ z.sf B
def HL(hk:SK K te k):SS K (Uh te) (qT k):=by
 intro H₀ n Hf S σ H G o R e D h;obtain⟨x,z,e⟩:=oMq.mp e;cases e;exact hk R z _ λB I Fs1 v F J l E s=>h _ _ v F l.sf l.fr l.sub l.lim E s.nd s.fr
def JU(B:DE K c m)(ha:SS K t a)(hb:SS K u b):SS K (Sq c t u) (zC m a b):=by
 intro H₀ n Hf S σ H I o R e D h;obtain⟨x,E,e⟩:=oBq.mp e;refine B R E _ λG J Fs1 s z=>?_
 split at e
 .rename_i l;rw[l];exact Ho (ha z e D (h.mono s.sf))
 .rename_i l;rw[dD]at l;rw[l];exact FI (hb z e D (h.mono s.sf))
noncomputable def qO(S:AS)(i:Nat):Option (List AV):=match S[i]?.join with
 |some (.ow l)=>some l
 |_=>none
noncomputable def xr(S:AS)(i:Nat):Option (List (pQ×D)):=match S[i]?.join with
 |some (.owd kvs)=>some kvs
 |_=>none
def uD(i:Nat)(k:MK):MS:=λS=>(qO S i).bind λ_=>(k S).bind λx=>(qO x.2 i).bind λl=>
 vx (l.length<qM) (some (.nx (x.2.set i (some (.ow (l++[x.1]))))))
def QJ(i:Nat)(l:ML):MS:=λS=>(qO S i).bind λ_=>(l S).bind λx=>(qO x.2 i).bind λn=>
 vx (n.length+x.1.length<=qM) (some (.nx (x.2.set i (some (.ow (n++x.1.map .sh))))))
noncomputable def intOf:D->Option Int
 | .int i=>some i
 |_=>none
def aes(i:Nat)(b:ME)(k:MK):MS:=λS=>(sr k S).bind λx=>(qO x.2 i).bind λ_=>(b x.2).bind λy=>(qO y.2 i).bind λl=>(intOf y.1).bind λj=>(KF l.length j).map λn=>
 .nx (y.2.set i (some (.ow (((l.map oN).set n (oN x.1)).map .sh))))
noncomputable def vp:D->Option pQ
 | .int i=>some (.inl i)
 | .str x=>some (.inr x)
 |_=>none
noncomputable def xC(kvs:List (pQ×D))(k:pQ)(d:D):List (pQ×D):=if kvs.any (λkv=>decide (kv.1=k))then kvs.map (λkv=>if kv.1=k then (kv.1,d)else kv)else kvs++[(k,d)]
noncomputable def getD(kvs:List (pQ×D))(k:pQ):Option D:=(kvs.find? λkv=>decide (kv.1=k)).map (·.2)
def xg(i:Nat)(b:ME)(k:MK):MS:=λS=>(sr k S).bind λx=>(xr x.2 i).bind λ_=>(b x.2).bind λy=>(xr y.2 i).bind λkvs=>(vp y.1).bind λkey=>
 vx (kvs.length<qM) (some (.nx (y.2.set i (some (.owd (xC kvs key (oN x.1)))))))
section
variable {Fs:List Δ}
def qi.turn(R:qi K H₀ Hf₀ Hf S σ H Fs)(s1:σ[i]?=some (some (.ref p)))(s2:Fs[i]?=some F)(s:p∈F)(r:pZ K Hf (qE H p o) E (.ref p) x)(nd:x.Nodup)
  (J:∀q∈x,H₀ q=none/\q∉(Fs.set i []).flatten):qi K H₀ Hf₀ Hf (S.set i (some E)) σ (qE H p o) (Fs.set i x):=by
 have t:=mFq.mpr ⟨F,mGq s2,s⟩;have pn:=(R.mem t).2;have L:=R.fresh p t;have out:=uL R.nd s2 s;have M:qi K H₀ Hf₀ Hf (S.set i none) σ (qE H p o) (Fs.set i []):=by
  refine⟨by simp[R.len],by simp[R.lenF],λj a n=>?_,λj n=>?_,sv i R.nd bb (λp s=>by cases s),λp s=>R.fresh p (qz s),λb u e=>?_,λb u e=>?_,R.lim,R.sf⟩
  .rw[bN]at n
   by_cases l:i=j
   .subst l;rw[pO rfl]at n;split at n <;> cases n
   .rw[pK l]at n;obtain⟨w,G,O,I,q⟩:=R.rep j a n;refine⟨w,G,O,by rw[aC l];exact I,q.keep (.refl _) (λc B=>pD λe=>out ?_) λc B=>(q.owned c B).2⟩
    subst e;exact mFq.mpr ⟨G,mGq (by rw[aC l];exact I),B⟩
  .rw[bN]at n
   by_cases l:i=j
   .subst l;rw[pO rfl]at n;split at n
    .rename_i hi;rw[aW (R.lenF.symm ▸ hi)]
    .cases n
   .rw[pK l]at n;rw[aC l];exact R.emp j n
  .rw[pD λz=>by rw[z,pn]at e;cases e]
   exact R.sub b u e
  .rw[pD λz=>by rw[z,L]at e;cases e]
   exact R.fr b u e
 exact M.again (F:=F) s1 r nd J
def pP{i:Nat}(s2:Fs[i]?=some F)(h:q∈F):q∈Fs.flatten:=mFq.mpr ⟨F,mGq s2,h⟩
def pU.snoc(r:pU K Hf H n vs E)(s:pZ K Hf H a v F):pU K Hf H (n++[a]) (vs++[v]) (E++[F]):=by
 obtain⟨x,z,I⟩:=r;refine⟨by simp[x],by simp[z],λi b w G l t u=>?_⟩
 by_cases hi:i<n.length
 .rw[gZq hi]at l;rw[gZq (x ▸ hi)]at t;rw[gZq (z ▸ hi)]at u;exact I i b w G l t u
 .have B:i=n.length:=by
   have:=(gSq.mp l).1;rw[lAq,lSq]at this;lia
  subst B;rw[gYq (af _),dA]at l;rw[x,gYq (af _),dA]at t;rw[z,gYq (af _),dA]at u;cases l;cases t;cases u;exact s
def pU.keepUpd(r:pU K Hf H s vs l)(u:p∉l.flatten):pU K Hf (qE H p o) s vs l:=
 ⟨r.1,r.2.1,λi a v F x z t=>by
  have q:=r.2.2 i a v F x z t;refine q.keep (.refl _) (λc n=>pD λe=>u ?_) λc n=>(q.owned c n).2
  subst e;exact mFq.mpr ⟨F,mGq t,n⟩⟩
def pZ.keepUpd(q:pZ K Hf H a v F)(n:p∉F):pZ K Hf (qE H p o) a v F:=
 q.keep (.refl _) (λc l=>pD λe=>n (e ▸ l)) λc l=>(q.owned c l).2
def Na(r:qo K Hf ds vs):pU K Hf H (ds.map .sh) vs (aV ds.length []):=
 ⟨by simp[r.1],by simp,λi a v F l n s=>by
  rw[gMq]at l;cases q:ds[i]? with
  |none=>rw[q]at l;cases l
  |some d=>
   rw[q]at l;cases l;have:=eU (mGq s);subst this;exact .sh (r.2 i d v q n)⟩
def pU.append(r:pU K Hf H u vs B)(s:pU K Hf H bs ws E):pU K Hf H (u++bs) (vs++ws) (B++E):=by
 obtain⟨x,z,I⟩:=r;refine⟨by simp[x,s.1],by simp[z,s.2.1],λi b w G l n t=>?_⟩
 by_cases hi:i<u.length
 .rw[gZq hi]at l;rw[gZq (x ▸ hi)]at n;rw[gZq (z ▸ hi)]at t;exact I i b w G l n t
 .rw[gYq ∅]at l
  rw[gYq ∅,←x]at n
  rw[gYq ∅,←z]at t
  exact s.2.2 _ b w G l n t
end
def qf(h:qO S i=some n):S[i]?=some (some (.ow n)):=by
 unfold qO at h;split at h
 .rename_i z e;cases h;exact ql e
 .cases h
def Bd(h:xr S i=some kvs):S[i]?=some (some (.owd kvs)):=by
 unfold xr at h;split at h
 .rename_i z e;cases h;exact ql e
 .cases h
theorem qi.ow(R:qi K H₀ n Hf S σ H u)(h:S[i]?=some (some (.ow t))):∃p vs s,σ[i]?=some (some (.ref p))/\u[i]?=some (p::s.flatten)/\H p=some (.lst vs)/\Hf p=none/\pU K Hf H t vs s /\
  p∉s.flatten/\s.flatten.Nodup/\∀q∈p::s.flatten,H₀ q=none/\q∉(u.set i []).flatten:=by
 obtain⟨v,F,x,z,r,nd,o,_⟩:=R.move h;obtain⟨p,vs,s,rfl,rfl,B,E,G⟩:=r.ow_inv;exact⟨p,vs,s,x,z,B,E,G,(aq.mp nd).1,(aq.mp nd).2,o⟩
def Qv(hk:SK K te k):SS K (zA (OQ K "list" vP (wU i) (rN te vy))) (uD i k):=by
 intro H₀ G Hf S σ H Fs o R e D h;obtain⟨a0,X,e⟩:=oBq.mp e;obtain⟨x,Y,e⟩:=oBq.mp e;obtain⟨avs,e2,e⟩:=oBq.mp e;rcases pJ e with⟨hl,e⟩|e
 .cases e;obtain⟨p,vs,Gs,I,_,h1,_⟩:=R.ow (qf X);refine⟨.ref p,I,.inl ⟨rfl,vs,rF.of h1⟩,hk R Y _ λHf1 H1 Fs1 v F t1 P r1 s=>?_⟩
  obtain⟨p',J,Gs',t,n,L,M,u,B,O,E⟩:=P.ow (qf e2);rw[I]at t;cases t;have Q:=λm=>s.out p m (pP n ⋯)
  refine⟨p,J,v,rfl,rfl,L,by rw[←u.1];exact hl,h _ _ _ _ t1.sf (P.turn I n ⋯ (pZ.news oY M ((u.keepUpd B).snoc (r1.keepUpd Q))) ?_ λq U=>?_)⟩
  .rw[fAq,aQ];refine aq.mpr ⟨λm=>(mAq.mp m).elim B Q,nAq.mpr ⟨O,s.nd,λa ha b hb e=>s.out b hb (pP n (mCo _ (e ▸ ha)))⟩⟩
  .rw[fAq,aQ]at U;rcases aa.mp U with z|z
   .exact E q (by rw[z];simp)
   .rcases mAq.mp z with z|z
    .exact E q (mCo _ z)
    .exact⟨s.fr q z,λm=>s.out q z (qz m)⟩
 .cases e
def aae(hl:SL K te l):SS K (zA (OQ K "list" M6 (wU i) (rN te vy))) (QJ i l):=by
 intro H₀ u Hf S σ H Fs o R e D h;obtain⟨a0,U,e⟩:=oBq.mp e;obtain⟨x,X,e⟩:=oBq.mp e;obtain⟨Y,e2,e⟩:=oBq.mp e;rcases pJ e with⟨z,e⟩|e
 .cases e;obtain⟨p,vs,Gs,B,_,h1,_⟩:=R.ow (qf U);refine⟨.ref p,B,.inl ⟨rfl,vs,rF.of h1⟩,hl R X _ λHf1 H1 Fs1 b ws t1 O hb P=>?_⟩
  obtain⟨p',E,Gs',n,G,I,J,s,t,L,M⟩:=O.ow (qf e2);rw[B]at n;cases n;refine⟨p,b,E,ws,rfl,rfl,I,hb,by rw[←s.1,←P.1];exact z,h _ _ _ _ t1.sf (O.turn B G ⋯ (pZ.news oY J ((s.keepUpd t).append (Na P))) ?_ λq Q=>?_)⟩
  .rw[fAq,tS,aNq];exact aq.mpr ⟨t,L⟩
  .rw[fAq,tS,aNq]at Q;exact M q Q
 .cases e
theorem BC:∀{ds}{kvs}{key},uQ K H ds kvs->match getD ds key with
  |some d=>∃v,Co kvs key=some v/\rm K H d v
  |none=>Co kvs key=none
 | [],kvs,key,h=>by
  have:kvs=[]:=by
   have:=congrArg bJ h.1;simpa using this.symm
  subst this;rfl
 |d::ds,[],key,h=>by
  have:=congrArg bJ h.1;simp at this
 |d::ds,v::kvs,key,h=>by
  have n:d.1=v.1/\ds.map (·.1)=kvs.map (·.1):=by
   have:=h.1;simpa using this
  have s:rm K H d.2 v.2:=h.2 0 d v rfl rfl;have ht:uQ K H ds kvs:=⟨n.2,λi a b t u=>h.2 (i+1) a b (by simpa using t) (by simpa using u)⟩
  unfold getD Co
  by_cases c:d.1=key
  .rw[fo (by simp[c]),fo (by simp[←n.1,c])]
   exact⟨v.2,rfl,s⟩
  .rw[dZ (by simp[c]),dZ (by simp[←n.1,c])]
   exact BC ht
def yo(h:vp d=some key)(r:rm K H d v):v=kV key:=by
 cases r <;> simp only[vp]at h
 all_goals first|(simp at h;done)|skip
 all_goals (cases h;rfl)
def uQ.key(h:uQ K H ds kvs){i:Nat}(n:ds[i]?=some d)(s:kvs[i]?=some v):d.1=v.1:=by
 have:=congrArg (λl=>l[i]?) h.1
 simp only[gMq,n,s,cI]at this;exact aA.inj this
def uQ.len(h:uQ K H ds kvs):ds.length=kvs.length:=by
 have:=congrArg bJ h.1;simpa using this
def R9(h:uQ K H ds kvs)(r:rm K H d v):uQ K H (xC ds key d) (zV kvs key v):=by
 have ha:(ds.any λkv=>decide (kv.1=key))=kvs.any λkv=>decide (kv.1=key):=by
  have n:(ds.any λkv=>decide (kv.1=key))=(ds.map (·.1)).any λk=>decide (k=key):=by rw[jG];rfl
  have s:(kvs.any λkv=>decide (kv.1=key))=(kvs.map (·.1)).any λk=>decide (k=key):=by rw[jG];rfl
  rw[n,s,h.1]
 unfold xC zV;rw[ha];split
 .refine⟨?_,λi a b n s=>?_⟩
  .rw[mPq,mPq];have n:((λkv=>kv.1)∘λkv=>if kv.1=key then (kv.1,d)else kv)=λkv=>kv.1:=by
    funext kv;show(if kv.1=key then (kv.1,d)else kv).1=kv.1
    split <;> rfl
   have s:((λkv=>kv.1)∘λkv=>if kv.1=key then (kv.1,v)else kv)=λkv=>kv.1:=by
    funext kv;show(if kv.1=key then (kv.1,v)else kv).1=kv.1
    split <;> rfl
   rw[n,s];exact h.1
  .rw[gMq]at n s;obtain⟨u,x,rfl⟩:=oMq.mp n;obtain⟨B,z,rfl⟩:=oMq.mp s;have hk:=h.key x z
   by_cases c:u.1=key
   .rw[pO c,pO (hk ▸ c)];exact r
   .rw[pK c,pK (hk ▸ c)];exact h.2 i u B x z
 .refine⟨by rw[mBq,mBq,h.1];rfl,λi a b n s=>?_⟩
  by_cases hi:i<ds.length
  .rw[gZq hi]at n;rw[gZq (h.len ▸ hi)]at s;exact h.2 i a b n s
  .have t:i=ds.length:=by
    have:=(gSq.mp n).1;rw[lAq,lSq]at this;lia
   subst t;rw[gYq (af _),dA]at n;rw[h.len,gYq (af _),dA]at s;cases n;cases s;exact r
noncomputable def zu:MK:=λS=>some (.owd [],S)
def VS:SK K RU zu:=by
 intro H₀ n Hf S σ H x z B R e Q q;cases e;intro p s;obtain⟨t,R2,u,E,G⟩:=R.new s;exact q _ _ _ (.ref p) [p] t R2 (.owd oY u ⟨rfl,λi d v h=>by simp at h⟩) (xS.one R s)
theorem qi.owd(R:qi K H₀ n Hf S σ H s)(h:S[i]?=some (some (.owd ds))):∃p kvs,σ[i]?=some (some (.ref p))/\s[i]?=some [p]/\H p=some (.dK kvs)/\Hf p=none/\uQ K Hf ds kvs /\
  H₀ p=none/\p∉(s.set i []).flatten:=by
 obtain⟨v,F,t,u,r,nd,o,_⟩:=R.move h;obtain⟨p,kvs,rfl,rfl,x,z,B⟩:=r.owd_inv;exact⟨p,kvs,t,u,x,z,B,(o p ⋯).1,(o p ⋯).2⟩
def Vx(hk:SK K te k)(hb:SR K tb b):SS K (XB (wU i) tb te) (xg i b k):=by
 intro H₀ u Hf S σ H Fs o R e D h;obtain⟨x,M,e⟩:=oBq.mp e;obtain⟨a0,U,e⟩:=oBq.mp e;obtain⟨y,X,e⟩:=oBq.mp e;obtain⟨Y,e3,e⟩:=oBq.mp e;obtain⟨key,e4,e⟩:=oBq.mp e;rcases pJ e with⟨hl,e⟩|e
 .cases e;have z:SK K te (sr k):=SK.frz hk;refine z R M _ λHf1 H1 Fs1 v F t1 O P o1=>?_
  obtain⟨p',_,B,_⟩:=O.owd (Bd U);refine⟨_,B,hb O X _ λHf2 H2 Fs2 w Q R2 r2=>?_⟩
  obtain⟨q',kv,n,E,G,I,s,J,L⟩:=R2.owd (Bd e3);rw[B]at n;cases n;obtain⟨x1,t⟩:∃d,x.1 = .sh d:=by
   obtain⟨w,_,e⟩:=oMq.mp M;rw[←e];exact⟨_,rfl⟩
  rw[t]at P;have rv:=(P.sh_inv.2).mono Q.sf;have hw:=yo e4 r2;subst hw;refine⟨p',_,rfl,QI.k G (by rw[←s.len];exact hl),h _ _ _ _ (t1.sf.trans Q.sf) (R2.turn B E ⋯ (.owd oY I ?_) ⋯ λq hq=>by rw[mSq.mp hq];exact⟨J,L⟩)⟩
  rw[t];exact R9 s rv
 .cases e
def aeo(a b:ME):ME:=λS=>(a S).bind λx=>(b x.2).bind λy=>match y.1 with
 | .dict kvs=>(vp x.1).map λkey=>(.bl (getD kvs key).isSome,y.2)
 |_=>none
def qR(a b:ME):ME:=λS=>(a S).bind λx=>(b x.2).bind λy=>match y.1 with
 | .dict kvs=>(vp x.1).map λkey=>(.bl (!(getD kvs key).isSome),y.2)
 |_=>none
def ym(a b:ME):ME:=λS=>(a S).bind λx=>(b x.2).bind λy=>match x.1 with
 | .dict kvs=>(vp y.1).bind λkey=>(getD kvs key).map λd=>(d,y.2)
 |_=>none
def O6(r:rm K H (.dict kvs) x)(e:getD kvs key=some d):∃a v,x = .ref a/\E7 H a (kV key) (some v)/\rm K H d v:=by
 obtain⟨p,u,rfl,n,s⟩:=r.dict_inv;have g:=BC (key:=key) s;rw[e]at g;obtain⟨v,t,g2⟩:=g;exact⟨p,v,rfl,by rw[←t];exact E7.k n,g2⟩
def QV(r:rm K H (.dict kvs) x):∃a o,x = .ref a/\E7 H a (kV key) o/\o.isSome=(getD kvs key).isSome:=by
 obtain⟨p,u,rfl,n,s⟩:=r.dict_inv;have g:=BC (key:=key) s;refine⟨p,_,rfl,E7.k n,?_⟩;cases e:getD kvs key with
 |none=>rw[e]at g;rw[g];rfl
 |some d=>rw[e]at g;obtain⟨v,t,_⟩:=g;rw[t];rfl
def Oy(ha:SR K ta a)(hb:SR K tb b):SR K (HW ta tb) (qR a b):=by
 intro H₀ n Hf S σ H U d X R e Q q;obtain⟨x,t,e⟩:=oBq.mp e;obtain⟨y,u,e⟩:=oBq.mp e;refine ha R t _ λz Y Fs1 v1 B E G=>hb E u _ λI H2 Fs2 v2 J R2 s=>?_
 split at e
 .rename_i L M;rw[M]at s;obtain⟨key,O,e⟩:=oMq.mp e;cases e;obtain⟨p,o,rfl,P,g2⟩:=QV s;refine⟨p,o,rfl,by rw[yo O G];exact P,?_⟩
  rw[g2];exact q _ _ _ _ (B.trans J) R2 .bl
 .cases e
def W5(ha:SR K ta a)(hb:SR K tb b):SR K (Q4 ta tb) (ym a b):=by
 intro H₀ n Hf S σ H X d Y R e Q q;obtain⟨x,u,e⟩:=oBq.mp e;obtain⟨y,z,e⟩:=oBq.mp e;refine ha R u _ λB H1 Fs1 v1 E G s=>hb G z _ λI H2 Fs2 v2 t R2 J=>?_
 split at e
 .rename_i L M;rw[M]at s;obtain⟨key,O,e⟩:=oBq.mp e;obtain⟨d',P,e⟩:=oMq.mp e;cases e;obtain⟨p,v,rfl,U,g2⟩:=O6 (s.mono t.sh) P;exact⟨p,v,rfl,by rw[yo O J];exact U,q _ _ _ _ (E.trans t) R2 g2⟩
 .cases e
noncomputable def rZ(x:Nat)(body:MS):List D->AS->Option IC
 | [],S=>some (.nx S)
 |d::ds,S=>(body (S.set x (some (.sh d)))).bind λo=>match o with
  | .nx S'=>rZ x body ds S'
  | .ct S'=>rZ x body ds S'
  | .bk S'=>some (.nx S')
  | .rt a=>some (.rt a)
noncomputable def qL:D->Option (List D)
 | .list ds=>some ds
 | .scr ns=>some (ns.map .int)
 |_=>none
def xA(x:Nat)(k:MK)(body:MS):MS:=λS=>(sr k S).bind λy=>(qL (oN y.1)).bind λds=>rZ x body ds y.2
def qr(lo:Int)(n:Nat):List D:=(aF n).map λi:Nat=>.int (lo+i)
def CU:List D->Option (List D)
 | [.int j]=>vx (-(2 ^ 62)<=j/\j<2 ^ 62) (some (qr 0 j.toNat))
 |_=>none
def adk:List D->Option (List D)
 | [.int i,.int j]=>vx (-(2 ^ 62)<=i/\i<2 ^ 62/\-(2 ^ 62)<=j/\j<2 ^ 62) (some (qr i (j-i).toNat))
 |_=>none
def CH(x:Nat)(a:ML)(body:MS):MS:=λS=>(a S).bind λy=>(CU y.1).bind λds=>rZ x body ds y.2
def adh(x:Nat)(a:ML)(body:MS):MS:=λS=>(a S).bind λy=>(adk y.1).bind λds=>rZ x body ds y.2
noncomputable def Dg(x y:Nat)(body:MS):Nat->List D->AS->Option IC
 |_,[],S=>some (.nx S)
 |i,d::ds,S=>(body ((S.set x (some (.sh (.int i)))).set y (some (.sh d)))).bind λo=>match o with
  | .nx S'=>Dg x y body (i+1) ds S'
  | .ct S'=>Dg x y body (i+1) ds S'
  | .bk S'=>some (.nx S')
  | .rt a=>some (.rt a)
def NV(x y:Nat)(k:MK)(body:MS):MS:=λS=>(sr k S).bind λz=>(qL (oN z.1)).bind λds=>Dg x y body 0 ds z.2
noncomputable def CP(x y:Nat)(body:MS):List D->List D->AS->Option IC
 |d::ds,e::es,S=>(body ((S.set x (some (.sh d))).set y (some (.sh e)))).bind λo=>match o with
  | .nx S'=>CP x y body ds es S'
  | .ct S'=>CP x y body ds es S'
  | .bk S'=>some (.nx S')
  | .rt a=>some (.rt a)
 |_,_,S=>some (.nx S)
def S7(x y:Nat)(k l:MK)(body:MS):MS:=λS=>(sr k S).bind λz=>(sr l z.2).bind λw=>(qL (oN z.1)).bind λds=>(qL (oN w.1)).bind λn=>
 if ds.length=n.length then CP x y body ds n w.2 else none
noncomputable def rH(c:MT)(body:MS):Nat->MS
 |0,_=>none
 |n+1,S=>(c S).bind λx=>if x.1=true then (body x.2).bind λo=>match o with
   | .nx S'=>rH c body n S'
   | .ct S'=>rH c body n S'
   | .bk S'=>some (.nx S')
   | .rt a=>some (.rt a)
  else some (.nx x.2)
def tU(e:qL d=some ds)(r:rm K H d v):∃a vs,v = .ref a/\rF K H a vs/\qo K H ds vs:=by
 cases d with
 |list u=>
  cases e;obtain⟨p,vs,rfl,n,s⟩:=r.list_inv;exact⟨p,vs,rfl,rF.of n,s⟩
 |scr t=>
  cases e;cases r with
  |scr h=>exact⟨_,_,rfl,h,uc t⟩
 |_=>cases e
def ui{te:TE}(e:sr k S=some z):∃d,z.1 = .sh d:=by
 obtain⟨w,_,e⟩:=oMq.mp e;rw[←e];exact⟨_,rfl⟩
def qi.setD(R:qi K H₀ n Hf S σ H s)i(r:rm K Hf d v):qi K H₀ n Hf (S.set i (some (.sh d))) (σ.set i (some v)) H (s.set i []):=
 R.set i (.sh r) bb λq h=>(by cases h)
def TR(hk:SK K te k)(hb:SS K tb body):SS K (Ii (Gh K te) (rA x) tb) (xA x k body):=by
 intro H₀ E Hf S σ H Fs o R e D h;obtain⟨z,e1,e⟩:=oBq.mp e;obtain⟨ds,e2,e⟩:=oBq.mp e;have hk':SK K te (sr k):=SK.frz hk;refine hk' R e1 _ λI H1 Fs1 v F t1 R1 r1 o1=>?_
 obtain⟨d,hd⟩:=ui (te:=te) e1;rw[hd]at r1;rw[hd]at e2;obtain⟨a,vs,rfl,g1,g2⟩:=tU e2 r1.sh_inv.2;refine⟨a,rfl,⟨vs,R1.sub.seq g1⟩,EO (λi s U=>∃n J t,qi K H₀ E n J s U t/\qd I n/\rZ x body (ds.drop i) J=some o) ⟨I,z.2,Fs1,R1,.refl _,e⟩
  (λi s U _ ⟨n,J,t,L,B,_⟩=>L.sub.seq (B.seq g1)) ?_ ?_⟩
 .rintro i w s U hw ⟨n,J,t,L,B,G⟩;obtain⟨di,M,rw'⟩:=g2.get' hw;have hlt:=(gSq.mp M).1;rw[ax hlt]at G;have O:=(gSq.mp M).2;rw[O]at G;obtain⟨ob,e3,X⟩:=oBq.mp G;refine hb (L.setD x (rw'.mono B)) e3 _ ?_;cases ob with
  |nx Y=>exact λu P H2 Fs2 Q R2=>⟨u,Y,Fs2,R2,B.trans Q,X⟩
  |ct Y=>exact λu P H2 Fs2 Q R2=>⟨u,Y,Fs2,R2,B.trans Q,X⟩
  |bk Y=>cases X;exact λu P H2 Fs2 Q R2=>h _ _ _ _ ((t1.sf.trans B).trans Q) R2
  |rt a=>cases X;exact h
 .rintro s U ⟨n,J,t,L,B,G⟩;rw[←g2.1,cO]at G;cases G;exact h _ _ _ _ (t1.sf.trans B) L
def PP{D}(hb:SS K tb body)(R1:qi K H₀ s Hf1 R σ Y Fs1)(e:rZ x body (qr lo n) R=some o)(h:Ky K H₀ s Hf1 D o) :
  ∃W:Nat->Nat->St->Hp->Prop,(∃m,W 0 m σ Y)/\∀i m σ H,W i m σ H ->
   ((V2 lo n).stop i H/\D.nx σ H)∨((V2 lo n).go i H/\∃N:St->Hp->Prop,(∀t u,N t u->∃m',m'<m/\W (i+1) m' t u)/\∀v u,(V2 lo n).yld i H v u->rA x v σ u λz M=>tb { D with nx:=N,ct:=N,bk:=D.nx } z M):=by
 refine O2 (λi t u=>∃B O G,qi K H₀ s B O t u G/\qd Hf1 B/\rZ x body ((qr lo n).drop i) O=some o) ⟨Hf1,R,Fs1,R1,.refl _,e⟩ ?_ ?_
 .rintro i t u hi ⟨B,O,G,S,J,I⟩;have U:i<(qr lo n).length:=by unfold qr;rw[lMq,aB];exact hi
  rw[ax U]at I;have X:(qr lo n)[i] = .int (lo+i):=by simp[qr]
  rw[X]at I;obtain⟨ob,e3,P⟩:=oBq.mp I;refine hb (S.setD x .int) e3 _ ?_;cases ob with
  |nx Q=>exact λE z M Fs2 L R2=>⟨E,Q,Fs2,R2,J.trans L,P⟩
  |ct Q=>exact λE z M Fs2 L R2=>⟨E,Q,Fs2,R2,J.trans L,P⟩
  |bk Q=>cases P;exact λE z M Fs2 L R2=>h _ _ _ _ (J.trans L) R2
  |rt a=>cases P;exact h
 .rintro t u ⟨B,O,G,S,J,I⟩;have hl:(qr lo n).length=n:=by unfold qr;rw[lMq,aB]
  rw[bR (fJ hl)]at I;cases I;exact h _ _ _ _ J S
def UK(ha:UY K t a)(hb:SS K tb body):SS K (Ii (Sv t) (rA x) tb) (CH x a body):=by
 intro H₀ s Hf S σ H P o R e D h;obtain⟨z,E,e⟩:=oBq.mp e;obtain⟨Q,n,e⟩:=oBq.mp e;refine ha R E _ λG U Fs1 X I J u=>?_
 unfold CU at n;split at n
 .rename_i j L;rcases pJ n with⟨B,n⟩|n
  .cases n;rw[L]at u;obtain⟨v,Y,rfl,M,O⟩:=u.cons_inv;rw[O.nil_inv];cases M;exact⟨j,rfl,B.1,B.2,PP hb J e (h.mono I.sf)⟩
  .cases n
 .cases n
def U6(hk:SK K te k)(hb:SS K tb body):SS K (Ii (XJ K (rN te vy)) (Lb K 2 (ya (rA x) (ya (rA y) KH))) tb) (NV x y k body):=by
 intro H₀ E Hf S σ H Fs o R e D h;obtain⟨z,e1,e⟩:=oBq.mp e;obtain⟨ds,e2,e⟩:=oBq.mp e;have hk':SK K te (sr k):=SK.frz hk;refine hk' R e1 _ λI H1 Fs1 v F t1 R1 r1 o1=>?_
 obtain⟨d,hd⟩:=ui (te:=te) e1;rw[hd]at r1;rw[hd]at e2;obtain⟨a,vs,rfl,g1,g2⟩:=tU e2 r1.sh_inv.2;refine⟨a,rfl,⟨vs,R1.sub.seq g1⟩,QK (λi s U=>∃n J t,qi K H₀ E n J s U t/\qd I n/\Dg x y body i (ds.drop i) J=some o) ⟨I,z.2,Fs1,R1,.refl _,e⟩
  (λi s U _ ⟨n,J,t,L,B,_⟩=>L.sub.seq (B.seq g1)) ?_ ?_⟩
 .rintro i w s U T hw ⟨n,J,t,L,B,G⟩ hT;obtain⟨di,M,rw'⟩:=g2.get' hw;have hlt:=(gSq.mp M).1;rw[ax hlt]at G;have O:=(gSq.mp M).2;rw[O]at G;obtain⟨ob,e3,X⟩:=oBq.mp G;have R2:=(L.new (o:=.tup [.int i,w]) hT).2.1;refine hb ((R2.setD x .int).setD y (rw'.mono B)) e3 _ ?_;cases ob with
  |nx Y=>exact λu P H2 Fs2 Q R2=>⟨u,Y,Fs2,R2,B.trans Q,X⟩
  |ct Y=>exact λu P H2 Fs2 Q R2=>⟨u,Y,Fs2,R2,B.trans Q,X⟩
  |bk Y=>cases X;exact λu P H2 Fs2 Q R2=>h _ _ _ _ ((t1.sf.trans B).trans Q) R2
  |rt a=>cases X;exact h
 .rintro s U ⟨n,J,t,L,B,G⟩;rw[←g2.1,cO]at G;cases G;exact h _ _ _ _ (t1.sf.trans B) L
def Wk(hk:SK K te k)(hl:SK K tf l)(hb:SS K tb body):SS K (Ii (Yn K (rN te (rN tf vy))) (Lb K 2 (ya (rA x) (ya (rA y) KH))) tb) (S7 x y k l body):=by
 intro H₀ G Hf S σ H Fs o R e D h;obtain⟨z,e1,e⟩:=oBq.mp e;obtain⟨w,J,e⟩:=oBq.mp e;obtain⟨ds,e2,e⟩:=oBq.mp e;obtain⟨es,L,e⟩:=oBq.mp e;split at e
 .rename_i M;have hk':SK K te (sr k):=SK.frz hk;have hl':SK K tf (sr l):=SK.frz hl;refine hk' R e1 _ λHf1 H1 Fs1 v F t1 R1 r1 o1=>hl' R1 J _ λn H2 Fs2 v2 F2 t2 R2 r2 o2=>?_
  obtain⟨d,hd⟩:=ui (te:=te) e1;obtain⟨d2,O⟩:=ui (te:=te) J;rw[hd]at r1;rw[hd]at e2;rw[O]at r2;rw[O]at L;obtain⟨a,vs,rfl,g1,g2⟩:=tU e2 (r1.sh_inv.2.mono t2.sf);obtain⟨b,ws,rfl,g3,g4⟩:=tU L r2.sh_inv.2;refine⟨a,b,rfl,⟨vs,R2.sub.seq g1⟩,⟨ws,R2.sub.seq g3⟩,WE (λi B H'=>∃s P E,qi K H₀ G s P B H' E/\qd n s/\CP x y body (ds.drop i) (es.drop i) P=some o) ⟨n,w.2,Fs2,R2,.refl _,e⟩ (by rw[←g2.1,←g4.1,M])
   (λi B H' _ ⟨s,P,E,I,t,_⟩=>⟨I.sub.seq (t.seq g1),I.sub.seq (t.seq g3)⟩) ?_ ?_⟩
  .rintro i u u' B H' T hu hu' ⟨s,P,E,I,t,Q⟩ hT;obtain⟨di,U,rw'⟩:=g2.get' hu;obtain⟨ei,X,rw2⟩:=g4.get' hu';have hlt:=(gSq.mp U).1;have Y:=(gSq.mp X).1;rw[ax hlt,ax Y,(gSq.mp U).2,(gSq.mp X).2]at Q;obtain⟨ob,e3,e4⟩:=oBq.mp Q;have R3:=(I.new (o:=.tup [u,u']) hT).2.1;refine hb ((R3.setD x (rw'.mono t)).setD y (rw2.mono t)) e3 _ ?_;cases ob with
   |nx S2=>exact λn σ2 H2 Fs2 s2 R2=>⟨n,S2,Fs2,R2,t.trans s2,e4⟩
   |ct S2=>exact λn σ2 H2 Fs2 s2 R2=>⟨n,S2,Fs2,R2,t.trans s2,e4⟩
   |bk S2=>cases e4;exact λn σ2 H2 Fs2 s2 R2=>h _ _ _ _ (((t1.sf.trans t2.sf).trans t).trans s2) R2
   |rt a=>cases e4;exact h
  .rintro B H' ⟨s,P,E,I,t,Q⟩;have e0:ds.drop vs.length=[]:=by rw[←g2.1,cO]
   rw[e0]at Q;cases Q;exact h _ _ _ _ ((t1.sf.trans t2.sf).trans t) I
 .cases e
def Sx{c}n(hc:DE K c m)(hb:SS K tb body):SS K (LR c tb) (rH m body n):=by
 intro H₀ t Hf S σ H Fs o R e D h;refine⟨λn I Y=>∃s G B,qi K H₀ t s G I Y B/\qd Hf s/\rH m body n G=some o,⟨n,Hf,S,Fs,R,.refl _,e⟩,?_⟩
 rintro n I Y ⟨s,G,B,R',M,e'⟩;cases n with
 |zero=>cases e'
 |succ n=>
  obtain⟨z,e1,X⟩:=oBq.mp e';refine hc R' e1 _ λHf1 H1 Fs1 O R1=>?_
  split at X
  .rename_i P;rw[P];refine Ho ⟨λu J=>∃s G B,qi K H₀ t s G u J B/\qd Hf s/\rH m body n G=some o,λu J w=>⟨n,dC n,w⟩,?_⟩
   obtain⟨ob,e3,Q⟩:=oBq.mp X;refine hb R1 e3 _ ?_;cases ob with
   |nx U=>exact λE u J Fs2 L R2=>⟨E,U,Fs2,R2,(M.trans O.sf).trans L,Q⟩
   |ct U=>exact λE u J Fs2 L R2=>⟨E,U,Fs2,R2,(M.trans O.sf).trans L,Q⟩
   |bk U=>cases Q;exact λE u J Fs2 L R2=>h _ _ _ _ ((M.trans O.sf).trans L) R2
   |rt a=>cases Q;exact h
  .rename_i P;rw[dD]at P;rw[P];cases X;exact FI (h _ _ _ _ (M.trans O.sf) R1)
noncomputable def rG(l n:Nat)(m:MS):MF:=λds=>if ds.length=l then (m (ds.map (λd=>some (.sh d))++aV (n-ds.length) none)).bind λo=>match o with
  | .rt a=>some a
  | .nx _=>some (.sh .non)
  |_=>none
 else none
def O1{K}N(s:qd Hf H)(r:qo K Hf ds vs) :
  qi K H Hf Hf (ds.map (λd=>some (.sh d))++aV (N.length-ds.length) none) (L2.ux N vs) H (aV (ds.length+(N.length-ds.length)) []):=by
 have fl:=tS (ds.length+(N.length-ds.length));refine⟨by simp[L2.ux,r.1],by simp,λi B e=>?_,λi e=>?_,by rw[fl];exact bb,λp l=>(by rw[fl]at l;cases l),s,qd.refl _,λb h _=>h,qd.refl _⟩
 .by_cases hi:i<ds.length
  .rw[gZq (by simpa using hi),gMq]at e
   obtain⟨d,n,t⟩:=oMq.mp e;cases t;obtain⟨v,u,x⟩:=r.get n;refine⟨v,[],?_,?_,.sh x⟩
   .unfold L2.ux;rw[gZq (by simpa[←r.1]using hi),gMq,u]
    rfl
   .rw[bK,pO ∅]
  .rw[gYq (by simpa using hi)]at e
   have:=mGq e;have z:=eU this;cases z
 .rw[bK];have hi:=(gSq.mp e).1;rw[lAq,lMq,bU]at hi;rw[pO hi]
def Kz{K}N(h:SS K t m)(hs:sq K (rG G N.length m) vs H Q E):t { nx:=λ_ u=>Q .non u,rt:=Q } (L2.ux N vs) H:=by
 obtain⟨Hf,P,a,s,r,e,q⟩:=hs;unfold rG at e;split at e
 .obtain⟨o,I,x⟩:=oBq.mp e;refine h (O1 N s r) I _ ?_;cases o with
  |rt S=>
   cases x;exact λn u v F z J L l r nd fr=>q n u v F z J L l r nd fr
  |nx B=>
   cases x;exact λn M u O z R=>q n u .non [] R.sf R.fr R.sub R.lim (.sh .non) bb λq h=>(by cases h)
  |bk B=>cases x
  |ct B=>cases x
 .cases e
def SC(hs:sq K (rG l n m) vs H Q E):vs.length=l:=by
 obtain⟨Hf,t,a,s,r,e,q⟩:=hs;unfold rG at e;split at e
 .rename_i h;rw[←r.1,h]
 .cases e
noncomputable def fzAll:Θ->AS->Option AS
 | [],S=>some S
 |j::js,S=>(S[j]?.join).bind λa=>fzAll js (S.set j (some (.sh (oN a))))
noncomputable def Zz:Option AV->Option AV
 |some (.sh d)=>some (.sh d)
 |_=>none
def C9(S:AS):Θ->Option AS
 | []=>some []
 |j::js=>(Zz S[j]?.join).bind λa=>(C9 S js).map (some a :: ·)
noncomputable def rS(l:MT)(te:MK)(cap:AS):List D->Option (List AV)
 | []=>some []
 |d::ds=>(l (some (.sh d)::cap)).bind λb=>if b.1=true then (te b.2).bind λa=>(rS l te cap ds).map (a.1 :: ·)else rS l te cap ds
abbrev MI:=AS->Option (List D×AS)
def CL(k:MK):MI:=λS=>(sr k S).bind λy=>(qL (oN y.1)).map λds=>(ds,y.2)
def iR1(a:ML):MI:=λS=>(a S).bind λy=>(CU y.1).map λds=>(ds,y.2)
def vG(l:MI)(fr:Θ)(s:MT)(te:MK):MK:=λS=>(l S).bind λy=>(fzAll fr y.2).bind λS2=>(C9 S2 fr).bind λcap=>vx (y.1.length<=qM) ((rS s te cap y.1).map λn=>(.ow n,S2))
def uz:MT:=λS=>some (true,S)
def qi.fz(R:qi K H₀ Hf₀ Hf S σ H Fs)(e:S[j]?.join=some a):∃Hf' Fs',yv Hf H Fs Hf' H Fs'/\qi K H₀ Hf₀ Hf' (S.set j (some (.sh (oN a)))) σ H Fs':=by
 obtain⟨v,F,s,t,r,nd,o,u⟩:=R.move (ql e);have n:=λq l=>(r.owned q l).2
 have R2:=u.frz o n;have x:=r.frozen (tG n) λq l=>CW l
 have z:=R2.again (F:=F) s (.sh x) bb λq h=>(by cases h)
 refine⟨_,_,⟨tG n,.refl _,λp B=>qz B,λb h g=>?_⟩,z⟩
 by_cases m:b∈F
 .exact .inr (mFq.mpr ⟨F,mGq t,m⟩)
 .rw[vf m]at g;exact absurd h g
theorem qi.fzAll:∀{fr}{Hf}{S S'}{Fs},qi K H₀ Hf₀ Hf S σ H Fs->fzAll fr S=some S'->∃Hf' Fs',yv Hf H Fs Hf' H Fs'/\qi K H₀ Hf₀ Hf' S' σ H Fs'
 | [],Hf,S,S',Fs,R,e=>by
  cases e;exact⟨Hf,Fs,.refl,R⟩
 |j::js,Hf,S,S',Fs,R,e=>by
  obtain⟨a,n,s⟩:=oBq.mp e;obtain⟨t,Fs1,u,x⟩:=R.fz n;obtain⟨l,Fs2,z,R2⟩:=qi.fzAll x s;exact⟨l,Fs2,u.trans z,R2⟩
theorem EU(R:qi K H₀ Hf₀ Hf S σ H Fs):∀{fr}{cap},C9 S fr=some cap->cap.length=fr.length/\∀(k:Nat) a,cap[k]?=some (some a)->∃d v,a = .sh d/\(slots σ fr)[k]?=some (some v)/\rm K Hf d v
 | [],cap,e=>by
  cases e;exact⟨rfl,λk a h=>by simp at h⟩
 |j::js,cap,e=>by
  obtain⟨a,l,t⟩:=oBq.mp e;obtain⟨s,u,x⟩:=oMq.mp t;subst x;obtain⟨z,B⟩:=EU R u;refine⟨by simp[z],λk b hk=>?_⟩
  cases k with
  |zero=>
   cases hk;cases n:S[j]?.join with
   |none=>rw[n]at l;cases l
   |some c=>
    rw[n]at l;cases c with
    |sh d=>
     cases l;obtain⟨v,F,E,G,r⟩:=R.rep j _ (ql n);refine⟨d,v,rfl,?_,r.sh_inv.2⟩;show some ((σ[j]?).join)=_;rw[E];rfl
    |_=>cases l
  |succ k=>exact B k b (by simpa using hk)
def Qb(R:qi K H₀ Hf₀ Hf S σ H Fs)(e:C9 S fr=some cap)(s:rm K Hf d x) :
  qi K H₀ Hf₀ Hf (some (.sh d)::cap) (some x::slots σ fr) H (aV (cap.length+1) []):=by
 obtain⟨t,u⟩:=EU R e;have fl:=tS (cap.length+1);refine⟨by simp[slots,t],by simp,λi z l=>?_,λi l=>?_,by rw[fl];exact bb,λp n=>(by rw[fl]at n;cases n),R.sub,R.fr,R.lim,R.sf⟩
 .cases i with
  |zero=>
   cases l;exact⟨x,[],rfl,by simp,.sh s⟩
  |succ k=>
   have hk:=(gSq.mp (by simpa using l)).1
   obtain⟨E,v,rfl,B,r⟩:=u k z (by simpa using l)
   exact⟨v,[],by simpa using B,by rw[bK,pO ∅],.sh r⟩
 .rw[bK];have hi:=(gSq.mp l).1;rw[pO (by simpa using hi)]
def qi.updOut(R:qi K H₀ Hf₀ Hf S σ H Fs)(l:p∉Fs.flatten)(n:Hf p=none)(s:H₀ p=none):qi K H₀ Hf₀ Hf S σ (qE H p o) Fs where
 len:=R.len
 lenF:=R.lenF
 rep:=λi t e=>by
  obtain⟨v,F,s1,s2,r⟩:=R.rep i t e;exact⟨v,F,s1,s2,r.keepUpd λm=>l (pP s2 m)⟩
 emp:=R.emp
 nd:=R.nd
 fresh:=R.fresh
 sub:=λb u e=>by
  rw[pD λz=>by rw[z,n]at e;cases e]
  exact R.sub b u e
 fr:=λb u e=>by
  rw[pD λz=>by rw[z,s]at e;cases e]
  exact R.fr b u e
 lim:=R.lim
 sf:=R.sf
def qi.outer(R:qi K H₀ Hf₀ Hf S σ H Fs)(E:qi K H₀ Hf₀ l I u s n)(t:yv Hf H Fs2 l s n)(J:Fs2.flatten=[]):yv Hf H Fs l s Fs/\qi K H₀ Hf₀ l S σ s Fs:=by
 have g:=λb x B=>by
  by_cases e:l b=none
  .exact e
  .rcases t.gr b x e with z|z
   .exact absurd z B
   .rw[J]at z;cases z
 exact⟨⟨t.sf,t.sh,λ_ h=>h,λb x B=>.inl (by
  by_cases e:H b=none
  .exact e
  .exact absurd (g b x e) B)⟩,R.more t.sh t.sf E.sub (λq G=>g q (R.mem G).2 (R.mem G).1) E.lim⟩
def G5{sL}{N:Hp->Prop}(hf:DE K tf mf)(he:SK K te me)
  (R:qi K H₀ n Hf S1 σ H Fs1) (t:yv Hf1 Q Fs1 Hf H Fs1) (ha:H l=some (.lst vs)) (hfa:Hf l=none) (ra:pU K Hf H E vs S) (ow:xS H₀ Q Fs1 Fs1 (l::S.flatten)) (la:E.length<=i) (hlm:E.length<qM) (ea:U=E++sL)
  (Ri:qi K H₀ n Hf Si L H (aV nn [])) (er:((mf Si).bind λb=>if b.1=true then (me b.2).bind λa=>nx.map (a.1 :: ·)else nx)=some sL) (X:Q l=none) (n2:H₀ l=none) (n3:l∉Fs1.flatten)
  (hN:∀{Hf H}{E}{vs}{S}{sL},qi K H₀ n Hf S1 σ H Fs1->yv Hf1 Q Fs1 Hf H Fs1->H l=some (.lst vs)->Hf l=none->pU K Hf H E vs S->xS H₀ Q Fs1 Fs1 (l::S.flatten)->E.length<=i+1->nx=some sL->U=E++sL->N H) :
  tf L H λb H2=>if b=true then te L H2 λy H3=>∃ys,H3 l=some (.lst ys)/\ys.length<jY/\N (qE H3 l (.lst (ys++[y])))else N H2:=by
 obtain⟨b,e1,e2⟩:=oBq.mp er;have fl:=tS nn;refine hf Ri (b:=b.1) (S':=b.2) e1 _ λY H2 Fs2 t2 R2=>?_
 obtain⟨B,M⟩:=R.outer R2 t2 fl;have u:H2 l=some (.lst vs):=t2.sh _ _ ha;have G:Y l=none:=by
  by_cases z:Y l=none
  .exact z
  .rcases t2.gr l hfa z with z|z
   .rw[ha]at z;cases z
   .rw[fl]at z;cases z
 have O:=ra.stp (λq x=>ow.out q (mCo _ x)) B
 split at e2
 .rename_i hb;rw[hb];obtain⟨a,e3,e4⟩:=oBq.mp e2;obtain⟨rest',e5,e6⟩:=oMq.mp e4;subst e6;refine he R2 e3 _ λHf3 H3 Fs3 v F t3 R3 r3 o3=>?_
  have P:Fs2.flatten=[]:=by
   cases hz:Fs2.flatten with
   |nil=>rfl
   |cons z zs=>
    have:=t2.own z (by rw[hz];simp)
    rw[fl]at this;cases this
  obtain⟨t3',R3'⟩:=M.outer R3 t3 P;have ha3:=t3.sh _ _ u;have I:Hf3 l=none:=by
   by_cases z:Hf3 l=none
   .exact z
   .rcases t3.gr l G z with z|z
    .rw[u]at z;cases z
    .rw[P]at z;cases z
  have ra3:=O.stp (λq x=>ow.out q (mCo _ x)) t3'
  have s:=λq x=>(o3.new q x).elim id λz=>by rw[P]at z;cases z
  have J:l∉F:=λm=>by rw[s l m]at u;cases u
  have accG:=(aq.mp ow.nd).1;have tt:=(t.trans B).trans t3';refine⟨vs,ha3,?_,?_⟩
  .rw[Q5,←ra.1];lia
  .refine hN (R3'.updOut n3 I n2) ⟨tt.sf,λb o eb=>?_,λ_ h=>h,tt.gr⟩ oY I ((ra3.keepUpd accG).snoc (r3.keepUpd J)) ?_ (by rw[lAq,lSq];lia) e5 (by rw[ea];simp)
   .rw[pD λz=>by rw[z,X]at eb;cases eb]
    exact tt.sh b o eb
   .rw[fAq,aQ];have oF:xS H₀ Q Fs1 Fs1 F:=⟨o3.nd,o3.fr,λq x m=>(M.mem m).1 (s q x),λq x=>.inl ((t.trans B).sh.free (s q x))⟩
    refine(ow.app oF λq x m=>?_)
    rcases aa.mp x with z|z
    .rw[z]at m;exact J m
    .exact(O.owned q z).1 (s q m)
 .rename_i hb;rw[dD]at hb;rw[hb];exact FI (hN M (t.trans B) u G O ow ∅ e2 ea)
def Gq{J:It}{Q:VK}(hf:DE K tf mf)(he:SK K te me)
  (R1:qi K H₀ s Hf1 L σ E Fs1) (ec:C9 L fr=some cap) (hl:ds.length<=qM) (e:rS mf me cap ds=some z)
  (S:∀i H,qd Hf1 H->i<ds.length->J.go i H) (U:∀H,qd Hf1 H->J.stop ds.length H) (hy:∀i H x n,qd Hf1 H->i<ds.length->J.yld i H x n->n=H/\∃d,ds[i]?=some d/\rm K Hf1 d x)
  (q:∀G n v F,yv Hf1 E Fs1 G n Fs1->qi K H₀ s G L σ n Fs1->pZ K G n (.ow z) v F->xS H₀ E Fs1 Fs1 F->Q v n) :
  ∀l,E l=none->∃W:Nat->Nat->Hp->Prop,(∃m,W 0 m (qE E l (.lst [])))/\∀i m H,W i m H ->
   (J.stop i H/\Q (.ref l) H) ∨
   (J.go i H/\∃N:Hp->Prop,(∀n,N n->∃m',m'<m/\W (i+1) m' n)/\∀x n,J.yld i H x n->tf (some x::slots σ fr) n λb H2=>
    if b=true then te (some x::slots σ fr) H2 λy H3=>∃X,H3 l=some (.lst X)/\X.length<jY/\N (qE H3 l (.lst (X++[y])))else N H2):=by
 intro l u;obtain⟨t0,R0,n1,n2,n3⟩:=R1.new u
 let P:=λi H=>∃Hf M Y Gs sL,qi K H₀ s Hf L σ H Fs1/\yv Hf1 E Fs1 Hf H Fs1/\H l=some (.lst Y)/\Hf l=none/\pU K Hf H M Y Gs/\xS H₀ E Fs1 Fs1 (l::Gs.flatten)/\M.length<=i /\
  rS mf me cap (ds.drop i)=some sL/\z=M++sL
 refine⟨λi m H=>m=ds.length-i/\i<=ds.length/\P i H,⟨ds.length,by simp,aX _,Hf1,[],[],[],z,R0,t0,oY,n1,.nil,xS.one R1 u,aX _,e,rfl⟩,?_⟩
 rintro i m H ⟨rfl,hi,Hf,M,Y,Gs,sL,R,t,ha,I,ra,ow,la,O,ea⟩;have hs:=t.sf.trans R.sub
 by_cases B:i<ds.length
 .refine .inr ⟨S i H hs B,P (i+1),λn p=>⟨ds.length-(i+1),by lia,rfl,B,p⟩,λx n y=>?_⟩
  obtain⟨rfl,d,hd,rx⟩:=hy i H x n hs B y;rw[ax B,(gSq.mp hd).2]at O;exact G5 hf he R t ha I ra ow la ∅ ea (Qb R ec (rx.mono t.sf)) O u n2 n3 λa b c d e f g h i=>⟨_,_,_,_,_,a,b,c,d,e,f,g,h,i⟩
 .have e0:i=ds.length:=by lia
  subst e0;rw[cO]at O;cases O;rw[aNq]at ea;subst ea;exact .inl ⟨U H hs,q Hf H (.ref l) _ t R (pZ.news ha I ra) ow⟩
def IE(hk:SK K tl k)(O:DE K tf mf)(P:SK K te me):SK K (M4 (Gh K tl) fr tf te) (vG (CL k) fr mf me):=by
 intro H₀ B Hf S σ H Fs av S' R e Q q;obtain⟨y,l,e⟩:=oBq.mp e;obtain⟨z,I,l⟩:=oBq.mp l;obtain⟨ds,J,l⟩:=oMq.mp l;subst l;obtain⟨S2,U,e⟩:=oBq.mp e;obtain⟨X,Y,e⟩:=oBq.mp e;rcases pJ e with⟨hl,e⟩|e
 .obtain⟨avs,e5,e⟩:=oMq.mp e;cases e;have E:SK K tl (sr k):=SK.frz hk;refine E R I _ λHf1 H1 Fs1 v F L R1 M o1=>?_
  obtain⟨d,hd⟩:=ui (te:=tl) I;rw[hd]at M;rw[hd]at J;obtain⟨Hf2,Fs2,G,R2⟩:=R1.fzAll U;obtain⟨a,n,rfl,u,g2⟩:=tU J (M.sh_inv.2.mono G.sf);refine⟨a,rfl,⟨n,R2.sub.seq u⟩,Gq O P R2 Y hl e5 (λi H s hi=>⟨n,n[i]'(g2.1 ▸ hi),s.seq u,gEg (g2.1 ▸ hi)⟩) (λH s=>⟨n,s.seq u,fJ g2.1.symm⟩) (λi H x H' s hi y=>?_) λHf' H' v F t R' r o=>q _ _ _ v F ((L.trans G).trans t) R' r (o.back (L.trans G))⟩
  obtain⟨y1,y2⟩:=y;obtain⟨di,h1,h2⟩:=g2.get' (y2 n (s.seq u));exact⟨y1,di,h1,h2⟩
 .cases e
def wI(h:i<n):(qr lo n)[i]?=some (.int (lo+i)):=by
 unfold qr;rw[gMq,cj h];rfl
def qh(lo)n:(qr lo n).length=n:=by unfold qr;rw[lMq,aB]
def P9(ha:UY K B a)(L:DE K tf mf)(M:SK K te me):SK K (M4 (Sv B) fr tf te) (vG (iR1 a) fr mf me):=by
 intro H₀ u Hf S σ H Fs av S' R e Q q;obtain⟨y,n,e⟩:=oBq.mp e;obtain⟨z,O,n⟩:=oBq.mp n;obtain⟨ds,l,n⟩:=oMq.mp n;subst n;obtain⟨S2,P,e⟩:=oBq.mp e;obtain⟨U,X,e⟩:=oBq.mp e;rcases pJ e with⟨hl,e⟩|e
 .obtain⟨Y,e5,e⟩:=oMq.mp e;cases e;refine ha R O _ λHf1 H1 Fs1 vs E R1 G=>?_
  unfold CU at l;split at l
  .rename_i j hz;rcases pJ l with⟨I,l⟩|l
   .cases l;rw[hz]at G;obtain⟨v,ws,rfl,h1,h2⟩:=G.cons_inv;rw[h2.nil_inv];cases h1;obtain⟨Hf2,Fs2,J,R2⟩:=R1.fzAll P;refine⟨j,rfl,I.1,I.2,Gq L M R2 X hl e5 (λi H s hi=>(by rw[qh]at hi;exact hi)) (λH s=>(by rw[qh];exact af _)) (λi H x H' s hi y=>?_) λHf' H' v F t R' r o=>q _ _ _ v F ((E.trans J).trans t) R' r (o.back (E.trans J))⟩
    obtain⟨y1,y2⟩:=y;rw[qh]at hi;exact⟨y1,_,wI hi,by rw[y2];exact .int⟩
   .cases l
  .cases l
 .cases e
def RG:DE K abL uz:=by
 intro H₀ l Hf S σ H n b s R e Q q;cases e;exact q _ _ _ .refl R
mutual
def py:D->Option PyData
 | .non=>some .none
 | .bl b=>some (.bool b)
 | .int i=>some (.int i)
 | .str x=>some (.str x)
 | .list ds=>(UV ds).map .list
 | .tup ds=>(UV ds).map .tuple
 |_=>none
def UV:List D->Option (List PyData)
 | []=>some []
 |d::ds=>(py d).bind λx=>(UV ds).map (x :: ·)
end
noncomputable def R5(d e:D):Option D:=(py d).bind λa=>(py e).bind λb=>if SeqAt.shaped a=true/\SeqAt.shaped b=true/\SeqAt.noMix a b=true then some (.bl (PySem.Spec.same a b))else none
def aew(d e:D):Option D:=(R5 d e).bind Od
noncomputable abbrev dI(ns:Ϝ):D:=.list (ns.map .int)
abbrev dM(rs:Λ):D:=.list (rs.map dI)
def Sm(ns:Ϝ):UV (ns.map .int)=some (ns.map PyData.int):=by
 induction ns with
 |nil=>simp[UV]
 |cons n ns l=>simp[UV,py,l]
def Y5 ns:py (dI ns)=some (uG ns):=by
 simp only[py,Sm];rfl
def Uw(rs:Λ):UV (rs.map dI)=some (rs.map uG):=by
 induction rs with
 |nil=>simp[UV]
 |cons r rs l=>
  show UV (dI r::rs.map dI)=_;simp only[UV,Y5,l];rfl
def abN rs:py (dM rs)=some (E5 rs):=by
 simp only[py,Uw];rfl
def Fd r:SeqAt.shaped (uG r)=true:=by
 have n:=W.depthAll_ints r;have l:PyData.depth (uG r)<=64:=by simp only[uG,PyData.depth];lia
 show(PyData.canLay0 (uG r) && decide (PyData.depth (uG r)<=64))=true;rw[fL];exact⟨by exact W.canLayAll0_ints r,d0 l⟩
@[simp] theorem adw ns l:R5 (dI ns) (dI l)=some (.bl (decide (ns=l))):=by
 unfold R5;rw[Y5,Y5];show(if _ then _ else _)=_
 rw[pO ⟨Fd ns,Fd l,by exact W.noMix_ints ns l⟩]
 simp only[uG,PySem.Spec.same,W.same_ints]
@[simp] theorem ac4 rs l:R5 (dM rs) (dM l)=some (.bl (decide (rs=l))):=by
 unfold R5;rw[abN,abN];show(if _ then _ else _)=_
 rw[pO ⟨Dv rs,Dv l,by exact ER rs l⟩]
 simp only[E5,PySem.Spec.same,GX]
def Et(l:ML):MK:=λS=>(l S).map λx=>(.ow (x.1.map .sh),x.2)
def KU(l:ML):MK:=λS=>(l S).bind λx=>(rz x.1).map λns=>(.ow ((sk ns).map λn=>.sh (.int n)),x.2)
def yL:List D->Option Λ
 | []=>some []
 | .list ds::es=>(rz ds).bind λr=>(yL es).map (r :: ·)
 |_=>none
theorem CM:∀{ds}{rs},yL ds=some rs->ds=rs.map dI
 | [],rs,h=>by cases h;rfl
 |d::ds,rs,h=>by
  cases d with
  |list t=>
   obtain⟨r,l,h⟩:=oBq.mp (h);obtain⟨u,n,s⟩:=oMq.mp h;subst s;rw[CM n,uV l];rfl
  |_=>cases h
@[simp] theorem AZ rs:yL (rs.map dI)=some rs:=by
 induction rs with
 |nil=>rfl
 |cons r rs l=>
  show(rz (r.map .int)).bind (λr=>(yL (rs.map dI)).map (r :: ·))=_
  rw[rp,l];rfl
def Ha(l:ML):MK:=λS=>(l S).bind λx=>(yL x.1).map λrs=>(.ow ((srt rs).map λr=>.sh (dI r)),x.2)
def Wc(hl:SQ K te l):SK K (K2 (λE H Q=>∃p n,E=[.ref p]/\(rF K H p n∨DG K H p n)/\∀l,H l=none->Q (.ref l) (qE H l (.lst n))) (rN te vy)) (Et l):=by
 intro H₀ s Hf S σ H X Y S' R e Q q;obtain⟨x,G,e⟩:=oMq.mp e;cases e;refine hl R G _ λI H1 Fs1 J t u z L M=>⟨J,t,rfl,.inl L,λp B=>?_⟩
 obtain⟨O,P,U,n2,n3⟩:=z.new B;exact q _ _ _ (.ref p) [p] (u.trans O) P (pZ.new oY U M) ((xS.one z B).back u)
def xp(ns:Ϝ):(ns.map λn=>AV.sh (.int n))=(ns.map D.int).map .sh:=by rw[mPq];rfl
def J2(rs:Λ):(rs.map λr=>AV.sh (dI r))=(rs.map dI).map .sh:=by rw[mPq];rfl
def RB(hl:SQ K te l):SK K (K2 (λE H Q=>∃a ns,E=[.ref a]/\rF K H a (ns.map V.int)/\∀p,H p=none->Q (.ref p) (qE H p (.lst ((sk ns).map V.int)))) (rN te vy)) (KU l):=by
 intro H₀ n Hf S σ H X Y S' R e Q q;obtain⟨x,G,e⟩:=oBq.mp e;obtain⟨ns,I,e⟩:=oMq.mp e;cases e;refine hl R G _ λJ H1 Fs1 L M s t u z=>?_
 rw[uV I]at z;rw[rX z]at u;refine⟨L,ns,rfl,u,λp B=>?_⟩
 obtain⟨O,P,U,n2,n3⟩:=t.new B;rw[xp]at q;exact q _ _ _ (.ref p) [p] (s.trans O) P (pZ.new oY U (uc _)) ((xS.one t B).back s)
theorem xN:∀{rs}{vs},qo K H (rs.map dI) vs->∃ps,vs=ps.map V.ref/\qS H ps rs
 | [],vs,h=>⟨[],h.nil_inv,.nil⟩
 |r::rs,vs,h=>by
  obtain⟨v,z,rfl,s,t⟩:=qo.cons_inv h;obtain⟨p,B,rfl,n,u⟩:=s.list_inv;rw[rX u]at n;obtain⟨ps,rfl,x⟩:=xN t;exact⟨p::ps,rfl,qS.cons_iff.mpr ⟨n,x⟩⟩
theorem CO:∀{rs}{ps},qS H ps rs->qo K H (rs.map dI) (ps.map V.ref)
 | [],[],_=>.nil
 | [],_::_,h=>by have:=h.length;simp at this
 |_::_,[],h=>by have:=h.length;simp at this
 |r::rs,p::ps,h=>by
  obtain⟨n,s⟩:=qS.cons_iff.mp h;exact .cons (.mk_list n (uc r)) (CO s)
def Ts(hl:SQ K te l):SK K (K2 (λM H Q=>∃a ps rs,M=[.ref a]/\rF K H a (ps.map V.ref)/\qS H ps rs /\
  ∀p n,H p=none->n.Perm ps->qS (qE H p (.lst (n.map V.ref))) n (srt rs)->Q (.ref p) (qE H p (.lst (n.map V.ref)))) (rN te vy)) (Ha l):=by
 intro H₀ s Hf S σ H Fs av S' R e Q q;obtain⟨x,O,e⟩:=oBq.mp e;obtain⟨rs,P,e⟩:=oMq.mp e;cases e;refine hl R O _ λt H1 Fs1 U X E u Y G=>?_
 rw[CM P]at G;obtain⟨ps,rfl,I⟩:=xN G;refine⟨U,ps,rs,rfl,Y,I.same u.sub,λp n J hq z=>?_⟩
 obtain⟨t4,L,n1,n2,n3⟩:=u.new J;have B:qS t n (srt rs):=z.keep λb hb=>by
  obtain⟨r,_,hr⟩:=I.mem (hq.mem_iff.mp hb);rw[hr,L.sub b _ hr]
 rw[J2]at q;exact q _ _ _ (.ref p) [p] (E.trans t4) L (pZ.new oY n1 (CO B)) ((xS.one u J).back E)
noncomputable def tyD:String->D->Bool
 |T,.list _=>T == "list"
 |T,.scr _=>T == "list"
 |T,.str _=>T == "str"
 |_,_=>false
def rBM(T:String)(f:D->List D->Option D)(a:ME)(l:ML):ME:=λS=>(a S).bind λx=>if tyD T x.1=true then (l x.2).bind λy=>(f x.1 y.1).map λd=>(d,y.2)else none
def BmD(K:Ζ)(r:V->List V->Hp->VK->Prop)(f:D->List D->Option D):Prop:=∀{x}{vs}{H}{Q}{l}{ds}{d},rm K H l x->qo K H ds vs->f l ds=some d->(∀v,rm K H d v->Q v H)->r x vs H Q
def ZO(h:tyD T d=true)(s:rm K H d v):tyV K T v H:=by
 cases s <;> simp only[tyD]at h
 all_goals first|(simp at h;done)|skip
 .exact eq_of_beq h
 .rename_i p t u n l e;exact .inl ⟨eq_of_beq h,t,rF.of n⟩
 .rename_i p x n;exact .inl ⟨eq_of_beq h,_,n⟩
def abd(hr:BmD K r f)(ha:SR K te a)(hs:UY K ta as):SR K (OQ K T r te ta) (rBM T f a as):=by
 intro H₀ l Hf S σ H P d U R e Q q;obtain⟨x,t,e⟩:=oBq.mp e;split at e
 .rename_i u;obtain⟨y,B,e⟩:=oBq.mp e;obtain⟨z,E,e⟩:=oMq.mp e;cases e;refine ha R t _ λG X Fs1 v I J n=>⟨ZO u n,hs J B _ λL Y Fs2 vs s R2 M=>?_⟩
  exact hr (n.mono s.sh) M E λv O=>q _ _ _ v (I.trans s) R2 O
 .cases e
def xD:D->List D->Option D
 | .list ds,[.int k]=>(rz ds).bind λns=>if k∈ns then some (.int (ns.idxOf k:Nat))else none
 |_,_=>none
def Ua:BmD K (UJ K) xD:=by
 intro x G H Q I J d l s e q;unfold xD at e;split at e
 .rename_i L k;obtain⟨t,u,e⟩:=oBq.mp e;split at e
  .rename_i hk;cases e;obtain⟨v,M,rfl,z,B⟩:=s.cons_inv;rw[B.nil_inv];cases z;rw[uV u]at l;obtain⟨p,O,rfl,n,E⟩:=l.list_inv;rw[rX E]at n;exact⟨p,t,k,rfl,rfl,rF.of n,hk,q _ .int⟩
  .cases e
 .cases e
def ad1(a:ME):ME:=λS=>(a S).bind λx=>match x.1 with
 | .list ds=>(yL ds).map λrs=>(.int (rs.countP (·=([]:Ϝ)):Nat),x.2)
 |_=>none
noncomputable def AF:D->Option Bool
 | .non=>some false
 | .bl b=>some b
 | .int i=>some (i != 0)
 | .list ds=>some (!ds.isEmpty)
 | .tup ds=>some (!ds.isEmpty)
 | .dict ds=>some (!ds.isEmpty)
 |_=>none
def yz(a:ME):MT:=λS=>(a S).bind λx=>(AF x.1).map λb=>(b,x.2)
def xf{α β:Type}{l:List α}{n:List β}(h:l.length=n.length):(!l.isEmpty) = !n.isEmpty:=by
 cases l <;> cases n <;> simp at h ⊢
def Im(ha:SR K te a):DE K (λσ H Q=>te σ H λx B=>∃k,U4 K x B k/\Q k B) (yz a):=by
 intro H₀ z Hf S σ H M b O R e Q q;obtain⟨x,E,e⟩:=oBq.mp e;obtain⟨c,l,e⟩:=oMq.mp e;cases e;refine ha R E _ λG P Fs1 v I J n=>⟨_,?_,q _ _ _ I J⟩
 cases L:x.1 <;> rw[L]at l n <;> simp only[AF]at l
 all_goals first|(simp at l;done)|skip
 .cases n;cases l;rfl
 .cases n;cases l;rfl
 .cases n;cases l;rfl
 .obtain⟨p,s,rfl,t,u⟩:=n.list_inv;cases l;exact .inl ⟨s,rF.of t,xf u.1⟩
 .obtain⟨p,s,rfl,t,u⟩:=n.tup_inv;cases l;exact .inr (.inl ⟨s,DG.of t,xf u.1⟩)
 .obtain⟨p,s,rfl,t,u⟩:=n.dict_inv;cases l;exact .inr (.inr ⟨s,t,xf u.len⟩)
noncomputable def qH:AV->Θ->Option (List AV)
 | .ow l,[]=>some l
 | .ow l,j::js=>(l[j]?).bind λa=>qH a js
 |_,_=>none
noncomputable def putAt:AV->Θ->List AV->AV
 | .ow _,[],n=>.ow n
 | .ow l,j::s,n=>match l[j]? with
  |some a=>.ow (l.set j (putAt a s n))
  |none=>.ow l
 |a,_,_=>a
def Hs(H:Hp):V->Θ->V->Prop
 |v,[],w=>v=w
 |v,j::js,w=>∃p vs u,v = .ref p/\H p=some (.lst vs)/\vs[j]?=some u/\Hs H u js w
section
variable {S:AS}
theorem zw:∀{Fs:List Δ}{F G}i,Fs.flatten.Nodup->Fs[i]?=some G->F.Nodup->(∀p∈F,p∈G∨p∉Fs.flatten)->(Fs.set i F).flatten.Nodup
 | [],F,G,i,h,e,_,_=>by simp at e
 |E::Gs,F,G,0,h,e,hF,hd=>by
  simp at e;subst e;rw[eh,fCq,nAq];rw[fCq,nAq]at h;refine⟨hF,h.2.1,λa ha b hb e=>?_⟩
  subst e;rcases hd a ha with z|z
  .exact h.2.2 a z a hb rfl
  .exact z (by exact aj _ hb)
 |E::Gs,F,G,i+1,h,e,hF,hd=>by
  rw[fj,fCq,nAq];rw[fCq,nAq]at h;have l:=by simpa using e
  refine⟨h.1,zw i h.2.1 l hF λp n=>(hd p n).imp id λz m=>z (by exact aj _ m),λa ha b hb e=>?_⟩
  subst e;rcases rK hb with q|q
  .rcases hd a q with z|z
   .exact h.2.2 a ha a (mFq.mpr ⟨G,mGq l,z⟩) rfl
   .exact z (by exact ao _ ha)
  .exact h.2.2 a ha a q rfl
theorem Ey:∀{Fs:List Δ}{F G}{i j:Nat}{p},Fs.flatten.Nodup->Fs[i]?=some F->Fs[j]?=some G->i≠j->p∈F->p∉G
 | [],F,G,i,j,p,_,e,_,_,_,_=>by simp at e
 |E::Es,F,G,0,0,p,h,e,f,n,_,_=>n rfl
 |E::Es,F,G,0,j+1,p,h,e,f,n,hp,m=>by
  simp at e;subst e;rw[fCq,nAq]at h;exact h.2.2 p hp p (mFq.mpr ⟨G,mGq (by simpa using f),m⟩) rfl
 |E::Es,F,G,i+1,0,p,h,e,f,n,hp,m=>by
  simp at f;subst f;rw[fCq,nAq]at h;exact h.2.2 p m p (mFq.mpr ⟨F,mGq (by simpa using e),hp⟩) rfl
 |E::Es,F,G,i+1,j+1,p,h,e,f,n,hp,m=>by
  rw[fCq,nAq]at h;exact Ey h.2.1 (by simpa using e) (by simpa using f) (λz=>n (by rw[z])) hp m
theorem pZ.path:∀{path}{M}{v}{F}{Y},pZ K Hf H M v F->F.Nodup->qH M path=some Y->∃p vs J,Hs H v path (.ref p)/\H p=some (.lst vs)/\Hf p=none/\pU K Hf H Y vs J/\p∈F/\p∉J.flatten/\J.flatten.Nodup/\(∀q∈J.flatten,q∈F) /\
  ∀t s l,pU K Hf (qE H p (.lst s)) t s l->(p::l.flatten).Nodup->(∀q∈l.flatten,q∈J.flatten∨q∉F)->∃Q,pZ K Hf (qE H p (.lst s)) (putAt M path t) v Q/\Q.Nodup/\∀q∈Q,q∈F∨q∈l.flatten
 | [],M,v,F,Y,r,nd,e=>by
  cases M with
  |ow u=>
   cases e;obtain⟨p,vs,J,rfl,rfl,h1,h2,E⟩:=r.ow_inv;have n:=aq.mp nd;refine⟨p,vs,J,rfl,h1,h2,E,by simp,n.1,n.2,λq B=>mCo _ B,λt s l r' O _=>⟨p::l.flatten,pZ.news oY h2 r',O,λq B=>?_⟩⟩
   rcases aa.mp B with z|z
   .exact .inl (by rw[z];simp)
   .exact .inr z
  |_=>cases e
 |j::js,M,v,F,Y,r,nd,e=>by
  cases M with
  |ow u=>
   obtain⟨a,e1,e2⟩:=oBq.mp (show(u[j]?).bind (λa=>qH a js)=some Y from e)
   obtain⟨L,I,Gs0,rfl,rfl,h1,h2,E⟩:=r.ow_inv;have n:=aq.mp nd;have R:j<u.length:=(gSq.mp e1).1;have hv:I[j]?=some (I[j]'(E.1 ▸ R)):=gEg _;have U:Gs0[j]?=some (Gs0[j]'(E.2.1 ▸ R)):=gEg _;generalize I[j]'(E.1 ▸ R)=vj at hv;generalize Gs0[j]'(E.2.1 ▸ R)=Fj at U;have rj:=E.2.2 j a vj Fj e1 hv U;have ndj:Fj.Nodup:=bu.sublist (aT (mGq U)) n.2;have sub:∀q∈Fj,q∈Gs0.flatten:=λq B=>pP U B
   obtain⟨p,vs,J,g1,g2,g3,g4,g5,g6,g6',g7,g8⟩:=pZ.path rj ndj e2;have pne:L≠p:=λz=>n.1 (z ▸ sub p g5)
   refine⟨p,vs,J,⟨L,I,vj,rfl,h1,hv,g1⟩,g2,g3,g4,mCo _ (sub p g5),g6,g6',λq B=>mCo _ (sub q (g7 q B)),λt s l r' O hd=>?_⟩
   obtain⟨Q,k1,k2,k3⟩:=g8 t s l r' O λq B=>(hd q B).imp id λz m=>z (mCo _ (sub q m))
   have hF':∀q∈Q,q∈Fj∨q∉Gs0.flatten:=λq B=>by
    rcases k3 q B with z|z
    .exact .inl z
    .rcases hd q z with y|y
     .exact .inl (g7 q y)
     .exact .inr λm=>y (mCo _ m)
   refine⟨L::(Gs0.set j Q).flatten,?_,aq.mpr ⟨λm=>?_,zw j n.2 U k2 hF'⟩,λq B=>?_⟩
   .show pZ K Hf (qE H p (.lst s)) (match u[j]? with|some a=>.ow (u.set j (putAt a js t))|none=>.ow u) (.ref L) _
    rw[e1];refine .ow (vs:=I) (by rw[pD pne];exact h1) h2 (by rw[lZq];exact E.1) (by rw[lZq,lZq];exact E.2.1) λi b w G q1 q2 X=>?_
    rw[bN]at q1 X
    by_cases P:j=i
    .subst P;rw[pO rfl,pO R]at q1;rw[pO rfl,pO (E.2.1 ▸ R)]at X;rw[hv]at q2;cases q1;cases q2;cases X;exact k1
    .rw[pK P]at q1 X;exact(E.2.2 i b w G q1 q2 X).keepUpd λm=>Ey n.2 U X P g5 m
   .rcases rK m with z|z
    .rcases k3 L z with y|y
     .exact n.1 (sub L y)
     .rcases hd L y with x|x
      .exact n.1 (sub L (g7 L x))
      .exact x ⋯
    .exact n.1 z
   .rcases aa.mp B with z|z
    .exact .inl (by rw[z];simp)
    .rcases rK z with z|z
     .exact(k3 q z).imp (λy=>mCo _ (sub q y)) id
     .exact .inl (mCo _ z)
  |_=>cases e
def qi.turnAny(R:qi K H₀ Hf₀ Hf S σ H Fs)(s1:σ[i]?=some (some v))(s2:Fs[i]?=some F)(s:p∈F)(r:pZ K Hf (qE H p o) E v x)(nd:x.Nodup)
  (J:∀q∈x,H₀ q=none/\q∉(Fs.set i []).flatten):qi K H₀ Hf₀ Hf (S.set i (some E)) σ (qE H p o) (Fs.set i x):=by
 have t:=mFq.mpr ⟨F,mGq s2,s⟩;have pn:=(R.mem t).2;have L:=R.fresh p t;have out:=uL R.nd s2 s;have M:qi K H₀ Hf₀ Hf (S.set i none) σ (qE H p o) (Fs.set i []):=by
  refine⟨by simp[R.len],by simp[R.lenF],λj a n=>?_,λj n=>?_,sv i R.nd bb (λp s=>by cases s),λp s=>R.fresh p (qz s),λb u e=>?_,λb u e=>?_,R.lim,R.sf⟩
  .rw[bN]at n
   by_cases l:i=j
   .subst l;rw[pO rfl]at n;split at n <;> cases n
   .rw[pK l]at n;obtain⟨w,G,O,I,q⟩:=R.rep j a n;refine⟨w,G,O,by rw[aC l];exact I,q.keep (.refl _) (λc B=>pD λe=>out ?_) λc B=>(q.owned c B).2⟩
    subst e;exact mFq.mpr ⟨G,mGq (by rw[aC l];exact I),B⟩
  .rw[bN]at n
   by_cases l:i=j
   .subst l;rw[pO rfl]at n;split at n
    .rename_i hi;rw[aW (R.lenF.symm ▸ hi)]
    .cases n
   .rw[pK l]at n;rw[aC l];exact R.emp j n
  .rw[pD λz=>by rw[z,pn]at e;cases e]
   exact R.sub b u e
  .rw[pD λz=>by rw[z,L]at e;cases e]
   exact R.fr b u e
 exact M.again (F:=F) s1 r nd J
def qi.kill(R:qi K H₀ Hf₀ Hf S σ H Fs)x:qi K H₀ Hf₀ Hf (S.set x none) σ H (Fs.set x []):=by
 refine⟨by simp[R.len],by simp[R.lenF],λj a n=>?_,λj n=>?_,sv x R.nd bb (λp s=>by cases s),λp s=>R.fresh p (qz s),R.sub,R.fr,R.lim,R.sf⟩
 .rw[bN]at n
  by_cases l:x=j
  .subst l;rw[pO rfl]at n;split at n <;> cases n
  .rw[pK l]at n;obtain⟨w,G,t,u,q⟩:=R.rep j a n;exact⟨w,G,t,by rw[aC l];exact u,q⟩
 .rw[bN]at n
  by_cases l:x=j
  .subst l;rw[pO rfl]at n;split at n
   .rename_i hi;rw[aW (R.lenF.symm ▸ hi)]
   .cases n
  .rw[pK l]at n;rw[aC l];exact R.emp j n
def qi.any(R:qi K H₀ Hf₀ Hf (S.set x none) σ H Fs)v:qi K H₀ Hf₀ Hf (S.set x none) (σ.set x (some v)) H Fs where
 len:=by rw[R.len,lZq]
 lenF:=R.lenF
 rep:=λi n e=>by
  by_cases l:x=i
  .subst l;rw[bN]at e;rw[pO rfl]at e;split at e <;> cases e
  .obtain⟨w,G,s,t,q⟩:=R.rep i n e;exact⟨w,G,by rw[aC l];exact s,t,q⟩
 emp:=R.emp
 nd:=R.nd
 fresh:=R.fresh
 sub:=R.sub
 fr:=R.fr
 lim:=R.lim
 sf:=R.sf
end
noncomputable abbrev aI(ns:Ϝ):AV:=.ow (ns.map λn=>.sh (.int n))
noncomputable def G4:List AV->Option Ϝ
 | []=>some []
 | .sh (.int i)::r=>(G4 r).map (i :: ·)
 |_=>none
def Gp:List AV->Option Λ
 | []=>some []
 | .ow l::r=>(G4 l).bind λns=>(Gp r).map (ns :: ·)
 |_=>none
theorem II:∀{l}{ns},G4 l=some ns->l=ns.map λn=>.sh (.int n)
 | [],ns,h=>by cases h;rfl
 |a::l,ns,h=>by
  cases a with
  |sh d=>
   cases d with
   |int i=>
    obtain⟨u,s,t⟩:=oMq.mp (h);subst t;rw[II s];rfl
   |_=>cases h
  |_=>cases h
theorem Kt:∀{l}{rs},Gp l=some rs->l=rs.map aI
 | [],rs,h=>by cases h;rfl
 |a::l,rs,h=>by
  cases a with
  |ow u=>
   obtain⟨r,n,h⟩:=oBq.mp (h);obtain⟨x,s,t⟩:=oMq.mp h;subst t;rw[Kt s,II n];rfl
  |_=>cases h
@[simp] theorem PK ns:G4 (ns.map λn=>.sh (.int n))=some ns:=by
 induction ns with
 |nil=>rfl
 |cons n ns l=>show(G4 (ns.map λn=>.sh (.int n))).map (n :: ·)=_;rw[l];rfl
@[simp] theorem PR rs:Gp (rs.map aI)=some rs:=by
 induction rs with
 |nil=>rfl
 |cons r rs l=>show(G4 (r.map λn=>.sh (.int n))).bind (λs=>(Gp (rs.map aI)).map (s :: ·))=_;rw[PK,l];rfl
def DM(k:MK):MK:=λS=>(k S).bind λx=>match x.1 with
 | .ow l=>(Gp l).map λrs=>(.ow ((srt rs).map aI),x.2)
 |_=>none
def Mj(h:pZ K Hf H (aI ns) v F):∃p,v = .ref p/\F=[p]/\H p=some (.lst (ns.map V.int))/\Hf p=none:=by
 obtain⟨p,l,s,rfl,rfl,t,u,x⟩:=h.ow_inv;have e:∀{ns:Ϝ}{l:List V}{s:List Δ},pU K Hf H (ns.map λn=>AV.sh (.int n)) l s->l=ns.map V.int/\s.flatten=[]:=by
  intro ns
  induction ns with
  |nil=>
   intro l s h;obtain⟨a,b⟩:=h.nil_inv;exact⟨a,by rw[b];rfl⟩
  |cons n ns z=>
   intro l s h;obtain⟨v,P,F,B,rfl,rfl,E,G⟩:=pU.cons_inv h;obtain⟨I,J⟩:=E.sh_inv;subst I;cases J;obtain⟨L,g2⟩:=z G;rw[L];exact⟨rfl,by rw[fCq,g2];rfl⟩
 obtain⟨M,O⟩:=e x;rw[O];subst M;exact⟨p,rfl,rfl,t,u⟩
def Z8(l:H p=some (.lst (ns.map V.int)))(n:Hf p=none):pZ K Hf H (aI ns) (.ref p) [p]:=by
 have:=pZ.new (K:=K) l n (uc ns);rw[←xp]at this;exact this
theorem zK:∀{rs}{vs}{l},pU K Hf H (rs.map aI) vs l->∃ps,vs=ps.map V.ref/\l=ps.map (λp=>[p])/\qS H ps rs/\∀p∈ps,Hf p=none
 | [],vs,l,h=>by
  obtain⟨a,b⟩:=h.nil_inv;exact⟨[],a,b,.nil,λp n=>by cases n⟩
 |r::rs,vs,l,h=>by
  obtain⟨v,I,F,s,rfl,rfl,t,u⟩:=pU.cons_inv h;obtain⟨p,rfl,rfl,x,z⟩:=Mj t;obtain⟨ps,rfl,rfl,B,E⟩:=zK u;exact⟨p::ps,rfl,rfl,qS.cons_iff.mpr ⟨x,B⟩,λq G=>(aa.mp G).elim (λe=>e ▸ z) (E q)⟩
theorem ES:∀{rs}{ps},qS H ps rs->(∀p∈ps,Hf p=none)->pU K Hf H (rs.map aI) (ps.map V.ref) (ps.map λp=>[p])
 | [],[],_,_=>.nil
 | [],_::_,h,_=>by have:=h.length;simp at this
 |_::_,[],h,_=>by have:=h.length;simp at this
 |r::rs,p::ps,h,n=>by
  obtain⟨l,s⟩:=qS.cons_iff.mp h;exact .cons (Z8 l (n p ⋯)) (ES s λq t=>n q (mCo _ t))
def JX(ps:Δ):(ps.map λp=>[p]).flatten=ps:=by
 induction ps with
 |nil=>rfl
 |cons p ps l=>rw[aw,fCq,l];rfl
def Ol(hk:SK K te k):SK K (K2 (λO H Q=>∃a ps rs,O=[.ref a]/\rF K H a (ps.map V.ref)/\qS H ps rs /\
  ∀p n,H p=none->n.Perm ps->qS (qE H p (.lst (n.map V.ref))) n (srt rs)->Q (.ref p) (qE H p (.lst (n.map V.ref)))) (rN te vy)) (DM k):=by
 intro H₀ u Hf S σ H Fs av S' R e Q q;obtain⟨x,P,e⟩:=oBq.mp e;refine hk R P _ λU X Fs1 v F I Y J s=>?_
 split at e
 .rename_i avs hx;obtain⟨rs,e2,e⟩:=oMq.mp e;cases e;rw[hx,Kt e2]at J;obtain⟨L,vs,Gs,rfl,rfl,h1,h2,h3⟩:=J.ow_inv;obtain⟨ps,rfl,rfl,M,hn⟩:=zK h3;rw[JX]at s;refine⟨L,ps,rs,rfl,rF.of h1,M,λp n B t E=>?_⟩
  obtain⟨t4,R4,n1,n2,n3⟩:=Y.new B;have pq:=λm=>M.free (H:=X) B (t.mem_iff.mp m)
  have G:∀z∈n,z∈L::ps:=λz l=>mCo _ (t.mem_iff.mp l)
  refine q _ _ _ (.ref p) (p::(n.map λp=>[p]).flatten) (I.trans t4) R4 (pZ.news oY n1 (ES E λz l=>hn z (t.mem_iff.mp l))) ?_
  rw[JX];refine⟨aq.mpr ⟨pq,t.nodup_iff.mpr (aq.mp s.nd).2⟩,λz l=>?_,λz l=>?_,λz l=>?_⟩
  .rcases aa.mp l with y|y
   .rw[y];exact n2
   .exact s.fr z (G z y)
  .rcases aa.mp l with y|y
   .rw[y];exact n3
   .exact s.out z (G z y)
  .rcases aa.mp l with y|y
   .rw[y];exact .inl (I.sh.free B)
   .exact s.new z (G z y)
 .cases e
def Ob:AV->Option D
 | .sh d=>if d.scal=true then some d else none
 |_=>none
def ti(f:MF)(a:ML):ME:=λS=>(a S).bind λx=>(f x.1).bind λr=>(Ob r).map λd=>(d,x.2)
def MU(ha:UY K u a):SR K (GW (sq K f) [] E0 u) (ti f a):=by
 intro H₀ t Hf S σ H Y d S' R e Q q;obtain⟨x,G,e⟩:=oBq.mp e;obtain⟨r,I,e⟩:=oBq.mp e;obtain⟨z,n,e⟩:=oMq.mp e;cases e;refine ha R G _ λs B Fs1 vs J L M=>?_
 rw[aNq];refine⟨B,x.1,r,.refl _,M,I,λO P v F s1 E s3 l U nd fr=>?_⟩
 have X:yv s B Fs1 s P Fs1:=⟨.refl _,E,λ_ h=>h,λb h g=>absurd h g⟩
 cases r with
 |sh d'=>
  simp only[Ob]at n;split at n
  .rename_i hs;cases n;exact q _ _ _ v (J.trans X) (L.laid E) (U.sh_inv.2.scal hs)
  .cases n
 |_=>cases n
section
variable (S:AS)
@[simp] theorem abE i:oH i S=(S[i]?.join).map λa=>(oN a,S):=rfl
@[simp] theorem abe i:oW i S=(S[i]?.join).map λa=>(.sh (oN a),S.set i (some (.sh (oN a)))):=rfl
@[simp] theorem aaL i:AG i S=(S[i]?.join).map λa=>(a,S.set i none):=rfl
@[simp] theorem adK k:rOf k S=(k S).map λx=>(oN x.1,x.2):=rfl
@[simp] theorem adb m:kSc m S=(m S).bind λx=>if x.1.scal then some (.sh x.1,x.2)else none:=rfl
@[simp] theorem ace k:sr k S=(k S).map λx=>(.sh (oN x.1),x.2):=rfl
@[simp] theorem rC_ d:rC d S=if d.scal then some (d,S)else none:=rfl
@[simp] theorem ac1 f a b:qe f a b S=(a S).bind λx=>(b x.2).bind λy=>(f x.1 y.1).map λd=>(d,y.2):=rfl
@[simp] theorem ac9 f a:GN f a S=(a S).bind λx=>(f x.1).map λd=>(d,x.2):=rfl
@[simp] theorem aaR a:aay a S=(a S).bind λx=>(Od x.1).map λd=>(d,x.2):=rfl
@[simp] theorem ZV a b:B2 a b S=(a S).bind λx=>if x.1=true then b x.2 else some (false,x.2):=rfl
@[simp] theorem abF a b:ON a b S=(a S).bind λx=>if x.1=true then some (true,x.2)else b x.2:=rfl
@[simp] theorem aap a:BP a S=(a S).map λx=>(!x.1,x.2):=rfl
noncomputable def YS:D->Option Bool
 | .bl b=>some b
 |_=>none
@[simp] theorem adE a:tN a S=(a S).bind λx=>(YS x.1).map λb=>(b,x.2):=by
 show(a S).bind _=_;congr 1;funext x;obtain⟨d,l⟩:=x;cases d <;> rfl
@[simp] theorem abo a b:SY a b S=(a S).bind λx=>(YS x.1).bind λc=>if c=true then b x.2 else some (.bl false,x.2):=by
 show(a S).bind _=_;congr 1;funext x;obtain⟨d,l⟩:=x;cases d <;> try rfl
 rename_i c;cases c <;> rfl
@[simp] theorem Wt b:YS (.bl b)=some b:=rfl
@[simp] theorem abb:pH S=some ([],S):=rfl
@[simp] theorem Zn k r:oO k r S=(k S).bind λx=>(r x.2).map λy=>(x.1::y.1,y.2):=rfl
@[simp] theorem YT:oS S=some ([],S):=rfl
@[simp] theorem VW k r:oI k r S=(k S).bind λx=>(r x.2).map λy=>(x.1::y.1,y.2):=rfl
@[simp] theorem abR a:sm a S=(a S).bind λx=>vx (x.1.length<=qM) (some (.ow x.1,x.2)):=rfl
@[simp] theorem abg a:K6 a S=(a S).bind λx=>vx (x.1.length<=qM) (some (.sh (.tup (x.1.map oN)),x.2)):=rfl
@[simp] theorem ab7 a b:PU a b S=(a S).bind λx=>(b x.2).bind λy=>vx (x.1.length+y.1.length<=qM) (some (.ow ((x.1++y.1).map .sh),y.2)):=rfl
@[simp] theorem Yb:yr S=some (none,S):=rfl
@[simp] theorem Y9 m:wA m S=(m S).bind λx=>(intOf x.1).map λi=>(some i,x.2):=by
 show(m S).bind _=_;congr 1;funext x;obtain⟨d,l⟩:=x;cases d <;> rfl
@[simp] theorem PQ i:intOf (.int i)=some i:=rfl
@[simp] theorem acT l lo hi:MW l lo hi S=(l S).bind λx=>(lo x.2).bind λy=>(hi y.2).map λz=>(.ow ((zf x.1 y.1 z.1).map .sh),z.2):=rfl
@[simp] theorem adI l b:kIx l b S=(l S).bind λx=>(b x.2).bind λy=>(intOf y.1).bind λi=>(atI x.1 i).map λd=>(.sh d,y.2):=by
 show(l S).bind _=_;congr 1;funext x;congr 1;funext y;obtain⟨d,n⟩:=y;cases d <;> rfl
@[simp] theorem acZ f a:uR f a S=(a S).bind λx=>(f x.1).map λd=>(d,x.2):=rfl
@[simp] theorem YF f a:qb f a S=(a S).bind λx=>(f (x.1.map oN)).map λr=>(r,x.2):=rfl
@[simp] theorem Yz f a:ti f a S=(a S).bind λx=>(f x.1).bind λr=>(Ob r).map λd=>(d,x.2):=rfl
@[simp] theorem YC:qK S=some (.nx S):=rfl
@[simp] theorem Vs:K5 S=none:=rfl
noncomputable def T4(o:Option IC)(b:MS):Option IC:=o.bind λo=>match o with
 | .nx S'=>b S'
 |o=>some o
@[simp] theorem Sf b:T4 (some (.nx S)) b=b S:=rfl
@[simp] theorem RS a b:T4 (some (.rt a)) b=some (.rt a):=rfl
@[simp] theorem aaV a b:oM a b S=T4 (a S) b:=rfl
@[simp] theorem ab8 i k:oX i k S=(k S).map λx=>.nx (x.2.set i (some x.1)):=rfl
@[simp] theorem Yw k:RY k S=(k S).map λx=>.nx x.2:=rfl
@[simp] theorem acj k:qT k S=(k S).map λx=>.rt x.1:=rfl
@[simp] theorem ac5 c a b:zC c a b S=(c S).bind λx=>if x.1=true then a x.2 else b x.2:=rfl
@[simp] theorem aaN i k:uD i k S=(qO S i).bind λ_=>(k S).bind λx=>(qO x.2 i).bind λl=>vx (l.length<qM) (some (.nx (x.2.set i (some (.ow (l++[x.1])))))):=rfl
@[simp] theorem aaY i l:QJ i l S=(qO S i).bind λ_=>(l S).bind λx=>(qO x.2 i).bind λn=>vx (n.length+x.1.length<=qM) (some (.nx (x.2.set i (some (.ow (n++x.1.map .sh)))))):=rfl
@[simp] theorem aam i b k:xg i b k S=(sr k S).bind λx=>(xr x.2 i).bind λ_=>(b x.2).bind λy=>(xr y.2 i).bind λkvs=>(vp y.1).bind λkey=>
 vx (kvs.length<qM) (some (.nx (y.2.set i (some (.owd (xC kvs key (oN x.1))))))):=rfl
noncomputable def dictOf:D->Option (List (pQ×D))
 | .dict kvs=>some kvs
 |_=>none
@[simp] theorem JS kvs:dictOf (.dict kvs)=some kvs:=rfl
@[simp] theorem OO i:vp (.int i)=some (.inl i):=rfl
@[simp] theorem Ss a b:qR a b S=(a S).bind λx=>(b x.2).bind λy=>(dictOf y.1).bind λkvs=>(vp x.1).map λkey=>(.bl (!(getD kvs key).isSome),y.2):=by
 show(a S).bind _=_;congr 1;funext x;congr 1;funext y;obtain⟨d,l⟩:=y;cases d <;> rfl
@[simp] theorem Zx a b:ym a b S=(a S).bind λx=>(b x.2).bind λy=>(dictOf x.1).bind λkvs=>(vp y.1).bind λkey=>(getD kvs key).map λd=>(d,y.2):=by
 show(a S).bind _=_;congr 1;funext x;obtain⟨d,l⟩:=x;cases d <;> rfl
@[simp] theorem Z3:zu S=some (.owd [],S):=rfl
@[simp] theorem ack x k body:xA x k body S=(sr k S).bind λy=>(qL (oN y.1)).bind λds=>rZ x body ds y.2:=rfl
@[simp] theorem Xm x a body:CH x a body S=(a S).bind λy=>(CU y.1).bind λds=>rZ x body ds y.2:=rfl
@[simp] theorem Yp x y k body:NV x y k body S=(sr k S).bind λz=>(qL (oN z.1)).bind λds=>Dg x y body 0 ds z.2:=rfl
@[simp] theorem YJ x y k l body:S7 x y k l body S=(sr k S).bind λz=>(sr l z.2).bind λw=>(qL (oN z.1)).bind λds=>(qL (oN w.1)).bind λn=>
 if ds.length=n.length then CP x y body ds n w.2 else none:=rfl
@[simp] theorem Y6 l fr s te:vG l fr s te S=(l S).bind λy=>(fzAll fr y.2).bind λS2=>(C9 S2 fr).bind λcap=>vx (y.1.length<=qM) ((rS s te cap y.1).map λn=>(.ow n,S2)):=rfl
@[simp] theorem aaX k:CL k S=(sr k S).bind λy=>(qL (oN y.1)).map λds=>(ds,y.2):=rfl
@[simp] theorem ado a:iR1 a S=(a S).bind λy=>(CU y.1).map λds=>(ds,y.2):=rfl
@[simp] theorem Oe:fzAll [] S=some S:=rfl
@[simp] theorem MM j(l:Θ):fzAll (j::l) S=(S[j]?.join).bind λa=>fzAll l (S.set j (some (.sh (oN a)))):=rfl
@[simp] theorem S9:C9 S []=some []:=rfl
@[simp] theorem Oq j(l:Θ):C9 S (j::l)=(Zz S[j]?.join).bind λa=>(C9 S l).map (some a :: ·):=rfl
@[simp] theorem Yh l:Et l S=(l S).map λx=>(.ow (x.1.map .sh),x.2):=rfl
@[simp] theorem U7 l:KU l S=(l S).bind λx=>(rz x.1).map λns=>(.ow ((sk ns).map λn=>.sh (.int n)),x.2):=rfl
@[simp] theorem Vo l:Ha l S=(l S).bind λx=>(yL x.1).map λrs=>(.ow ((srt rs).map λr=>.sh (dI r)),x.2):=rfl
noncomputable def Z1:AV->Option (List AV)
 | .ow l=>some l
 |_=>none
@[simp] theorem Xf l:Z1 (.ow l)=some l:=rfl
@[simp] theorem Ui k:DM k S=(k S).bind λx=>(Z1 x.1).bind λl=>(Gp l).map λrs=>(.ow ((srt rs).map aI),x.2):=by
 show(k S).bind _=_;congr 1;funext x;obtain⟨d,n⟩:=x;cases d <;> rfl
@[simp] theorem adG T f a l:rBM T f a l S=(a S).bind λx=>if tyD T x.1=true then (l x.2).bind λy=>(f x.1 y.1).map λd=>(d,y.2)else none:=rfl
noncomputable def adO:D->Option (List D)
 | .list ds=>some ds
 |_=>none
@[simp] theorem abk a:yz a S=(a S).bind λx=>(AF x.1).map λb=>(b,x.2):=rfl
def lsA:AV->Option (List D)
 | .sh (.list ds)=>some ds
 | .ow l=>some (l.map oN)
 |_=>none
@[simp] theorem YV ds:lsA (.sh (.list ds))=some ds:=rfl
@[simp] theorem X6 l:lsA (.ow l)=some (l.map oN):=rfl
@[simp] theorem adx k:lOf k S=(k S).bind λx=>(lsA x.1).map λds=>(ds,x.2):=by
 show(k S).bind _=_;congr 1;funext x;obtain⟨a,l⟩:=x;cases a with
 |sh d=>cases d <;> rfl
 |_=>rfl
end
def hlf:AV->AV
 | .ow l=>.ow ((l.map oN).map .sh)
 |a=>a
@[simp] theorem XY d:hlf (.sh d) = .sh d:=rfl
@[simp] theorem X5 l:hlf (.ow l) = .ow ((l.map oN).map .sh):=rfl
def FD{S:AS}(h:S[i]?=some (some a)):S.set i (some a)=S:=by
 obtain⟨hk,l⟩:=gSq.mp h;rw[←l];exact gE hk
@[simp] theorem abA S i:IQ i S=(S[i]?.join).bind λa=>(lsA a).map λds=>(ds,S.set i (some (hlf a))):=by
 unfold IQ;cases e:S[i]?.join with
 |none=>rfl
 |some a=>
  cases a with
  |sh d=>
   cases d with
   |list ds=>
    show some (ds,S)=some (ds,S.set i (i3 ds));rw[FD (ql e)]
   |_=>rfl
  |ow n=>rfl
  |owd l=>rfl
  |owl l=>rfl
def lsQ:AV->Option (List D)
 | .sh (.scr ns)=>some (ns.map .int)
 |a=>lsA a
@[simp] theorem W9 ns:lsQ (.sh (.scr ns))=some (ns.map .int):=rfl
@[simp] theorem Zc ds:lsQ (.sh (.list ds))=some ds:=rfl
@[simp] theorem aai l:lsQ (.ow l)=some (l.map oN):=rfl
@[simp] theorem abQ S i:va i S=(S[i]?.join).bind λa=>(lsQ a).map λds=>(ds,S.set i (some (hlf a))):=by
 unfold va;cases e:S[i]?.join with
 |none=>rfl
 |some a=>
  cases a with
  |sh d=>
   cases d with
   |list ds=>
    show some (ds,S)=some (ds,S.set i (i3 ds));rw[FD (ql e)]
   |scr l=>
    show some (l.map D.int,S)=some (l.map D.int,S.set i (some (.sh (.scr l))));rw[FD (ql e)]
   |_=>rfl
  |ow s=>rfl
  |owd n=>rfl
  |owl n=>rfl
@[simp] theorem Tj i:(D.int i).scal=true:=rfl
@[simp] theorem V7 i:(D.bl i).scal=true:=rfl
@[simp] theorem Qt i:(D.str i).scal=true:=rfl
@[simp] theorem RE:D.non.scal=true:=rfl
@[simp] theorem Va i:(D.ty i).scal=true:=rfl
@[simp] theorem UT i:Ob (.sh (.int i))=some (.int i):=rfl
@[simp] theorem U1 i:Ob (.sh (.bl i))=some (.bl i):=rfl
@[simp] theorem QM:Ob (.sh .non)=some .non:=rfl
@[simp] theorem HI i j:FP (.int i) (.int j)=some (.bl (decide (i=j))):=rfl
@[simp] theorem VG i j:FP (.str i) (.str j)=some (.bl (decide (i=j))):=rfl
@[simp] theorem VP b:Od (.bl b)=some (.bl (!b)):=rfl
@[simp] theorem DT i j:KC (.int i) (.int j)=some (.bl (!decide (i=j))):=rfl
@[simp] theorem PB ds:rE [.list ds]=some (.int ds.length):=rfl
@[simp] theorem Uj ns:rE [.scr ns]=some (.int ns.length):=rfl
@[simp] theorem Um i:W3 [.int i]=some (.int (if i<0 then -i else i)):=rfl
@[simp] theorem Hg ds:qL (.list ds)=some ds:=rfl
@[simp] theorem R6 ds i:FG (.list ds) (.int i)=atI ds i:=rfl
@[simp] theorem Ws ns i:FG (.scr ns) (.int i)=(atI ns i).map .int:=rfl
@[simp] theorem Xd d:Zz (some (.sh d))=some (.sh d):=rfl
@[simp] theorem Tc ds:tyD "list" (.list ds)=true:=rfl
def U5(S)i:qO S i=(S[i]?.join).bind Z1:=by
 unfold qO;cases S[i]?.join with
 |none=>rfl
 |some a=>cases a <;> rfl
noncomputable def XA:AV->Option (List (pQ×D))
 | .owd kvs=>some kvs
 |_=>none
@[simp] theorem PN kvs:XA (.owd kvs)=some kvs:=rfl
def Rl(S)i:xr S i=(S[i]?.join).bind XA:=by
 unfold xr;cases S[i]?.join with
 |none=>rfl
 |some a=>cases a <;> rfl
theorem Jv(P:Nat->AS->Prop):∀{ds}{S}{k},P k S->(∀i d S,ds[i]?=some d->P (k+i) S->∃S',(body (S.set x (some (.sh d)))=some (.nx S')∨body (S.set x (some (.sh d)))=some (.ct S'))/\P (k+i+1) S')->∃S',rZ x body ds S=some (.nx S')/\P (k+ds.length) S'
 | [],S,k,l,_=>⟨S,rfl,l⟩
 |d::ds,S,k,l,hs=>by
  obtain⟨S',e,s⟩:=hs 0 d S rfl l;have n:=λi d S h p=>by
   have:=hs (i+1) d S (by simpa using h) (by rw[show k+(i+1)=k+1+i by lia];exact p)
   rw[show k+(i+1)=k+1+i by lia]at this
   exact this
  obtain⟨t,u,z⟩:=Jv P s n;refine⟨t,?_,by rw[lCq,show k+(ds.length+1)=k+1+ds.length by lia];exact z⟩
  show(body _).bind _=_;rcases e with e|e <;> (rw[e];exact u)
def tO(P:Nat->AS->Prop)(l:P 0 S)(hs:∀i d S,ds[i]?=some d->P i S->∃S',body (S.set x (some (.sh d)))=some (.nx S')/\P (i+1) S'):∃S',rZ x body ds S=some (.nx S')/\P ds.length S':=by
 have:=Jv P l λi d S h p=>by
  rw[cH]at p ⊢;obtain⟨S',e,q⟩:=hs i d S h p;exact⟨S',.inl e,q⟩
 rw[cH]at this;exact this
theorem Sr(P:Nat->AS->Prop):∀{ds}{S}{k},P k S->(∀i d S,ds[i]?=some d->P (k+i) S->∃S',body ((S.set x (i0 (k+i:Nat))).set y (some (.sh d)))=some (.nx S')/\P (k+i+1) S')->∃S',Dg x y body k ds S=some (.nx S')/\P (k+ds.length) S'
 | [],S,k,l,_=>⟨S,rfl,l⟩
 |d::ds,S,k,l,hs=>by
  obtain⟨S',e,s⟩:=hs 0 d S rfl l;have n:=λi d S h p=>by
   have:=hs (i+1) d S (by simpa using h) (by rw[show k+(i+1)=k+1+i by lia];exact p)
   rw[show k+(i+1)=k+1+i by lia]at this
   exact this
  obtain⟨t,u,z⟩:=Sr P s n;refine⟨t,?_,by rw[lCq,show k+(ds.length+1)=k+1+ds.length by lia];exact z⟩
  show(body ((S.set x (i0 (k))).set y (some (.sh d)))).bind _=_;rw[jg]at e;rw[e];exact u
theorem Xz(P:Nat->AS->Prop):∀{ds l}{S}{k},ds.length=l.length->P k S->(∀i d e S,ds[i]?=some d->l[i]?=some e->P (k+i) S->∃S',body ((S.set x (some (.sh d))).set y (some (.sh e)))=some (.nx S')/\P (k+i+1) S')->∃S',CP x y body ds l S=some (.nx S')/\P (k+ds.length) S'
 | [],[],S,k,_,n,_=>⟨S,rfl,n⟩
 | [],_::_,S,k,hl,_,_=>by simp at hl
 |_::_,[],S,k,hl,_,_=>by simp at hl
 |d::ds,b::l,S,k,hl,n,hs=>by
  obtain⟨S',e,t⟩:=hs 0 d b S rfl rfl n;have s:=λi d e S h u p=>by
   have:=hs (i+1) d e S (by simpa using h) (by simpa using u) (by rw[show k+(i+1)=k+1+i by lia];exact p)
   rw[show k+(i+1)=k+1+i by lia]at this
   exact this
  obtain⟨z,B,E⟩:=Xz P (by simpa using hl) t s
  refine⟨z,?_,by rw[lCq,show k+(ds.length+1)=k+1+ds.length by lia];exact E⟩
  show(body _).bind _=_;rw[e];exact B
theorem uj{cap:AS}g:∀{ds},(∀d∈ds,∃S',te (some (.sh d)::cap)=some (g d,S'))->rS uz te cap ds=some (ds.map g)
 | [],_=>rfl
 |d::ds,h=>by
  obtain⟨S',e⟩:=h d ⋯
  show(te (some (.sh d)::cap)).bind (λa=>(rS uz te cap ds).map (a.1 :: ·))=_
  rw[e,uj g λx l=>h x (mCo _ l)]
  rfl
theorem vk{cap:AS}p g:∀{ds},(∀d∈ds,∃n,l (some (.sh d)::cap)=some (p d,n)/\(p d=true->∃S',te n=some (g d,S')))->rS l te cap ds=some ((ds.filter p).map g)
 | [],_=>rfl
 |d::ds,h=>by
  obtain⟨n,t,u⟩:=h d ⋯
  have s:=vk p g λx z=>h x (mCo _ z)
  show(l (some (.sh d)::cap)).bind _=_;rw[t];show(if p d=true then _ else _)=_
  by_cases c:p d=true
  .obtain⟨S',B⟩:=u c;rw[pO c,B,bW c];rw[s];rfl
  .rw[pK c,de c,s]
def tE(f:α->β)l lo hi:zf (l.map f) lo hi=(zf l lo hi).map f:=by
 unfold zf;rw[lMq,ie,jC]
def ye(l:List α)i(h:i<=l.length):zf l (some (i:Int)) none=l.drop i:=by
 unfold zf;rw[HT.DP,fm h,cf (by rw[aJ];exact af _)]
def Am(l:List α)i(h:i<=l.length):zf l none (some (i:Int))=l.take i:=by
 unfold zf;rw[HT.DP,HT.Qu,fm h,gX,Nat.sub_zero]
def Ut(l:List α)(i j:Nat):zf l (some (i:Int)) (some (j:Int))=(l.drop i).take (j-i):=by
 unfold zf;rw[HT.DP,HT.DP]
 by_cases h:i<=l.length
 .rw[fm h]
  by_cases n:j<=l.length
  .rw[fm n]
  .rw[jn ∅,cf (by rw[aJ];exact af _),cf (by rw[aJ];lia)]
 .have e:min i l.length=l.length:=jn ∅
  rw[e,gn (af l.length),gn ∅]
  simp
def N0{l:List α}(n:0<=i):atI l i=l[i.toNat]?:=by
 unfold atI KF;rw[pO n]
 by_cases h:i<l.length
 .rw[pO h];rfl
 .rw[pK h,aO ∅]
  rfl
def WR(f:α->β)l i:atI (l.map f) i=(atI l i).map f:=by
 unfold atI;rw[lMq];cases KF l.length i with
 |none=>rfl
 |some j=>show(l.map f)[j]?=_;rw[gMq];rfl
def Nv(h:i<n):KF n (i:Int)=some i:=by
 unfold KF;rw[pO ∅,pO ∅]
 simp
def Ca(ns:Ϝ):(ns.map D.int).map AV.sh=ns.map λn=>AV.sh (.int n):=by rw[mPq];rfl
def Iv(ns:Ϝ):(ns.map λn=>AV.sh (.int n)).map oN=ns.map D.int:=by rw[mPq];exact mCq λn _=>by simp
def Vm(rs:Λ):(rs.map aI).map oN=rs.map dI:=by
 rw[mPq];refine mCq λr _=>?_
 show oN (.ow (r.map λn=>AV.sh (.int n)))=_
 rw[rM,Iv]
def Vk(rs:Λ):(rs.map dI).map AV.sh=rs.map λr=>AV.sh (dI r):=by rw[mPq];rfl
def Vv(rs:Λ):(rs.map λr=>AV.sh (dI r)).map oN=rs.map dI:=by rw[mPq];exact mCq λn _=>by simp
def pd ns:oN (aI ns)=dI ns:=by
 rw[rM,Iv]
def W4 i j:vC (.int i) (.int j)=some (.int (i+j)):=wL _
def Vi i j:AY (.int i) (.int j)=some (.int (i-j)):=wL _
def Ym i j:FQ (.int i) (.int j)=some (.bl (decide (i<j))):=wL _
def aat i j:Ml (.int i) (.int j)=some (.bl (decide (j<i))):=wL _
def Zy i:vS (.int i)=some (.int (-i)):=rfl
def p60:J9 (.int 10) (.int 60)=some (.int (10 ^ 60)):=vh ⟨by decide,by decide,by decide⟩ _
def p59:J9 (.int 10) (.int 59)=some (.int (10 ^ 59)):=vh ⟨by decide,by decide,by decide⟩ _
def p57:J9 (.int 10) (.int 57)=some (.int (10 ^ 57)):=vh ⟨by decide,by decide,by decide⟩ _
def Kn(l:-(2 ^ 64)<i)(n:i<2 ^ 64):wW (.int i) (.int j)=some (.int (i*j)):=vh (.inl ⟨l,n⟩) _
def XU(l:-(2 ^ 64)<j)(n:j<2 ^ 64):wW (.int i) (.int j)=some (.int (i*j)):=vh (.inr ⟨l,n⟩) _
def sJ(h:0<j):tP (.int i) (.int j)=some (.int (i % j)):=vh h _
def za(h:0<j)(l:j<1073741824):A3 (.int i) (.int j)=some (.int (i / j)):=vh ⟨h,l⟩ _
def ab9:(0:Nat)<=qM:=by decide
def aa0:(1:Nat)<=qM:=by decide
def abG:(2:Nat)<=qM:=by decide
def ab0:(3:Nat)<=qM:=by decide
def ach:(5:Nat)<=qM:=by decide
def uS(h:n<=16777216):n<=qM:=h
def aag(h:n<16777216):n<qM:=h
def yD{n:Nat}(h:n<1000000):CU [.int (n:Int)]=some (qr 0 n):=by
 have e:CU [.int (n)]=some (qr 0 (n:Int).toNat):=vh ⟨by lia,by lia⟩ _
 rw[e,bF]
def Dy n:qr 0 n=(aF n).map λi:Nat=>D.int i:=by
 exact mCq λi _=>by rw[gR]
def abC(l n)m ds:rG l n m ds=if ds.length=l then (m (ds.map (λd=>some (.sh d))++aV (n-ds.length) none)).bind λo=>match o with
  | .rt a=>some a
  | .nx _=>some (.sh .non)
  |_=>none
 else none:=rfl
def gt1{α:Type}{a b:α}{l}:(a::b::l)[1]?=some b:=rfl
def st1{α:Type}{a b v:α}{l}:(a::b::l).set 1 v=a::v::l:=rfl
def gt2{α:Type}{a b c:α}{l}:(a::b::c::l)[2]?=some c:=rfl
def EZ{α:Type}{a b c v:α}{l}:(a::b::c::l).set 2 v=a::b::v::l:=rfl
def gt3{α:Type}{a b c d:α}{l}:(a::b::c::d::l)[3]?=some d:=rfl
def st3{α:Type}{a b c d v:α}{l}:(a::b::c::d::l).set 3 v=a::b::c::v::l:=rfl
def gt4{α:Type}{a b c d:α}{l}:(a::b::c::d::l)[n+4]?=l[n]?:=rfl
def st4{α:Type}{a b c d v:α}{l}:(a::b::c::d::l).set (n+4) v=a::b::c::d::l.set n v:=rfl
def VL(h:∀ns:Ϝ,ns.length<=63->f [.scr ns]=i4 true):∀vs H Q E,NW K vs H Q E->sq K f vs H Q E:=by
 rintro vs H Q E ⟨a,ns,rfl,l,hl,q⟩;refine⟨H,[.scr ns],_,.refl _,.cons (.scr l) .nil,h ns hl,λn s v F _ _ _ _ r _ _=>?_⟩
 cases r.sh_inv.2;exact q s
end Z
namespace Mr
open PySem PySem.Spec PyProof.Rows L2
def FW{α:Type}(P:α->Prop):List α->Prop
 | []=>True
 |a::l=>P a/\FW P l
theorem FW.mem{P:α->Prop}:∀{l},FW P l->∀a∈l,P a
 | [],_,a,h=>by cases h
 |b::l,hp,a,h=>(aa.mp h).elim (λe=>e ▸ hp.1) (FW.mem hp.2 a)
def wQ.of(n:N.Nodup)(s:N[0]?=some x)(t:N.length=fr.length+1)
  (u:FW (λp=>X.env.cells.lookup p.1=some p.2) cl) (l:FW (λp=>(p.2 = .cell∨p.2 = .free)->∃c,cl.lookup p.1=some c) (kJ scope X.env).names)
  (z:FW (λp=>X.N[p.1]?=some p.2/\X.env.scope.names.lookup p.2=some .cell/\(kJ scope X.env).names.lookup p.2=some .cell) (fr.zip (N.drop 1))):wQ X scope cl x N fr where
 names:=n
 own:=s
 len:=t
 sub:=λy c e=>u.mem (y,c) (PySem.mem_of_lookup e)
 has:=λy e=>by
  rcases e with e|e
  .exact l.mem _ (PySem.mem_of_lookup e) (.inl rfl)
  .exact l.mem _ (PySem.mem_of_lookup e) (.inr rfl)
 get:=λk j y B E=>by
  have G:(j,y)∈fr.zip (N.drop 1):=by
   refine mGq (i:=k) ?_;rw[eO];exact⟨B,by rw[cV,gc];exact E⟩
  exact z.mem _ G
end Mr
namespace Z
open PySem L2 Mr
def iRv(k:MK):MI:=λS=>(sr k S).bind λy=>(qL (oN y.1)).map λds=>(ds.reverse,y.2)
def acS(a b:ME):ME:=λS=>(a S).bind λx=>(b x.2).bind λy=>(dictOf x.1).bind λkvs=>(vp y.1).map λkey=>((getD kvs key).getD .non,y.2)
def Ye ds:J5 [.dict ds]=some (.int ds.length):=rfl
end Z
namespace Mr
open PySem PySem.W PySem.Spec PyProof.Rows L2
structure En (X:Cx)(scope:kW)(cl:List (Str×Addr))(x x2:Str)(N:List Str)(fr:Θ):Prop where
 names:N.Nodup
 own:N[0]?=some x
 own2:N[1]?=some x2
 len:N.length=fr.length+2
 sub:∀y c,cl.lookup y=some c->X.env.cells.lookup y=some c
 has:∀y,((kJ scope X.env).names.lookup y=some .cell∨(kJ scope X.env).names.lookup y=some .free)->∃c,cl.lookup y=some c
 get:∀(k j:Nat) (y:Str),fr[k]?=some j->N[k+2]?=some y->X.N[j]?=some y/\X.env.scope.names.lookup y=some .cell/\(kJ scope X.env).names.lookup y=some .cell
def En.of(t:N.Nodup)(u:N[0]?=some x)(l:N[1]?=some n)(z:N.length=fr.length+2)
  (B:FW (λp=>X.env.cells.lookup p.1=some p.2) cl) (s:FW (λp=>(p.2 = .cell∨p.2 = .free)->∃c,cl.lookup p.1=some c) (kJ scope X.env).names)
  (E:FW (λp=>X.N[p.1]?=some p.2/\X.env.scope.names.lookup p.2=some .cell/\(kJ scope X.env).names.lookup p.2=some .cell) (fr.zip (N.drop 2))):En X scope cl x n N fr where
 names:=t
 own:=u
 own2:=l
 len:=z
 sub:=λy c e=>B.mem (y,c) (PySem.mem_of_lookup e)
 has:=λy e=>by
  rcases e with e|e
  .exact s.mem _ (PySem.mem_of_lookup e) (.inl rfl)
  .exact s.mem _ (PySem.mem_of_lookup e) (.inr rfl)
 get:=λk j y G H=>by
  have I:(j,y)∈fr.zip (N.drop 2):=by
   refine mGq (i:=k) ?_;rw[eO];exact⟨G,by rw[cV,gc];exact H⟩
  exact E.mem _ I
abbrev g2(K:Ζ):TG:=Lb K 2 (ya (rA 0) (ya (rA 1) KH))
def S5(K:Ζ)(G:TI)(fr:Θ)(I:TT)(te:TE):TE:=λσ H Q=>G σ H λJ t=>∀l,t l=none->∃W:Nat->Nat->Hp->Prop,(∃m,W 0 m (qE t l (.lst [])))/\∀i m H,W i m H ->
 (J.stop i H/\Q (.ref l) H) ∨
 (J.go i H/\∃N:Hp->Prop,(∀s,N s->∃z,z<m/\W (i+1) z s)/\∀x s,J.yld i H x s->∀v0 v1,g2 K x (v0::v1::slots σ fr) s λn t=>(∃a b,n=a::b::slots σ fr)/\I n t λb B=>
  if b=true then te n B λy E=>∃u,E l=some (.lst u)/\u.length<jY/\N (qE E l (.lst (u++[y])))else N B)
def Kg{σ:St}{E:Ψ}{RR:Value->Addr->ni->Shared->Prop}{Q:VK}
  (hc:X.calm=true) (z:∀y∈scope.names,y.2 ≠ .cell) (B:scope.kind = .function) (hx:scope.names.lookup x=some .local) (hy:scope.names.lookup x2=some .local) (t:En X scope cl x x2 N fr)
  (hf:∀C s H fp,PF (rQ X scope cl N C s H fp) ifs tf) (he:∀C s H fp,PE (rQ X scope cl N C s H fp) elt te)
  (I:Inv X O σ H s) (T:Hm X.prog X.w X.K (.Tuple [.Name x px,.Name x2 px2] tk tp) J fp U Y) (st:Y 0 s.heap) (P:∀b∈fp,AH X O H b)
  (h:∀l,H l=none->∃W:Nat->Nat->Hp->Prop,(∃m,W 0 m (qE H l (.lst [])))/\∀i m H,W i m H ->
   (J.stop i H/\Q (.ref l) H) ∨
   (J.go i H/\∃N:Hp->Prop,(∀G,N G->∃m',m'<m/\W (i+1) m' G)/\∀x G,J.yld i H x G->∀v0 v1,g2 X.K x (v0::v1::slots σ fr) G λn H1=>(∃a b,n=a::b::slots σ fr)/\tf n H1 λb H2=>
    if b=true then te n H2 λy H3=>∃R,H3 l=some (.lst R)/\R.length<jY/\N (qE H3 l (.lst (R++[y])))else N H2))
  (fin:∀l C S Hf m,Inv X O σ Hf S->S.heap.Ns C m->AH X O Hf C->Q (.ref l) Hf->RR (.ref l) C (.ok .next) S) :
  jW (jU X.prog X.w) X.A (newList []) (λl L=>jW (jU X.prog X.w) X.A (nJ scope X.env.globals cl [] X.env.qual none .none (some X.env)) (λu M=>
   kZ (jU X.prog X.w) X.A (.compStart (.ListComp elt [⟨.Tuple [.Name x px,.Name x2 px2] tk tp,iter,ifs,0⟩] scope pos) 0 (.ref U) l { u with scope:=kJ scope X.env }) (RR l u.locals) M) E L) E s:=by
 refine Dw (gq:=g2 X.K) (own:=λn=>∃a b,n=a::b::slots σ fr) hc z B ⟨t.len,t.sub,t.has,t.get⟩ (λC s H fp=>Se hc (Ff (Cz t.names t.own (.inl (kK hx)) (.inr (kK hx))) (Ff (Cz t.names t.own2 (.inl (kK hy)) (.inr (kK hy))) NK))) (λn e=>?_) hf he I T st P (λl ha=>?_) fin
 .obtain⟨a,b,rfl⟩:=e;exact⟨[a,b],rfl,rfl⟩
 .obtain⟨W,w0,turn⟩:=h l ha;refine⟨W,w0,λi m H w=>(turn i m H w).imp id λ⟨go,N,hN,stp⟩=>⟨go,N,hN,λx G y vs lv=>?_⟩⟩
  match vs,lv with
  | [v0,v1],_=>exact stp x G y v0 v1
def Qs(G:X.calm=true)(t:closureFor scope X.env=pure cl)(u:∀y∈scope.names,y.2 ≠ .cell)(l:scope.kind = .function)(n:∀y∈scope.names,y.2 = .local->scope.names.lookup y.1=some .local)
  (L:scope.names.lookup x=some .local) (M:scope.names.lookup x2=some .local) (O:En X scope cl x x2 N fr) (hi:PI X (.Tuple [.Name x px,.Name x2 px2] tk tp) iter E) (P:∀C s H fp,PF (rQ X scope cl N C s H fp) ifs tf) (R:∀C s H fp,PE (rQ X scope cl N C s H fp) elt te)
  (hs:∀x,mw iter X.env x=pure x:=by intro _;rfl):PE X (.ListComp elt [⟨.Tuple [.Name x px,.Name x2 px2] tk tp,iter,ifs,0⟩] scope pos) (S5 X.K E fr tf te):=by
 intro S s σ H Q I h;refine mh rfl hs t l n (thn (hi S s σ H _ I h) λv s1 U=>thn U λY s2 h2=>?_)
 obtain⟨it,fp,tn,J,H2,e,I2,T,EZ,f2,q2⟩:=h2;subst e;refine Kg G u l L M O P R I2 T EZ f2 q2 ?_;intro B C s' Hf m I' hm z q;refine⟨m,hm,λh' sb=>⟨.ref B,Hf,?_,rfl,q⟩⟩
 exact I'.turned (λb o hb e=>(sb.2 b hb).trans e) z.1 z.2.1 z.2.2.2.1 z.2.2.2.2.1 z.2.2.2.2.2
end Mr
namespace Xe
open PySem PySem.Spec PySem.W PyProof.Rows L2 Mr
noncomputable def Itk(o:Obj)(d:Addr)(kvs:List (pQ×V)):It:=
  ⟨λi H=>H d=some (.frz o (.dK kvs))/\∃p,kvs[i]?=some p,
   λi H x l=>l=H/\∃p,kvs[i]?=some p/\x=kV p.1,
   λi H=>H d=some (.frz o (.dK kvs))/\kvs.length<=i⟩
def Pa{K:Frag}o d n kvs vs ep(hne:d≠n)
  (ho:∀h:Heap,h.get? d=some o->h.DictAt (qQ P w) d vs ep) (kv:KV kvs vs):Hm P w K tg (Itk o d kvs) [n] n (λi h=>h.IsKeyIter n d i vs.length ep) where
 mem:=by simp
 obj:=λi h st b hb=>by
  have e:b=n:=by simpa using hb
  subst e;obtain⟨G,e,c,dd⟩:=st;exact⟨G,e,λv z=>by rw[dd]at z;cases z⟩
 keep:=λi h h' st k=>by
  obtain⟨G,e,c,dd⟩:=st;exact⟨G,k n ⋯ _ e,c,dd⟩
 item:=by
  intro X L hw M hc i oE s σ H E I J st O;subst L hw M;obtain⟨hd,p,hp⟩:=O;have Q:s.heap.get? d=some o:=(show rq X.prog X.w H s.heap d (.frz o (.dK kvs))from I.hok d _ hd).1
  obtain⟨u,hx,ru⟩:=YK kv hp;obtain⟨R,S,f2,U,Y,f5⟩:=J n ⋯
  refine wpAny_pyNext_dict_item st (ho _ Q) hx λkey h' x B sb=>?_
  have I1:L2.Inv X oE σ H { s with heap:=h' }:=I.turned (t':=s.toks) (λb o hb e=>(sb.2 b hb).trans e) R S U Y f5
  have rk:qI (kV p.1) key:=by
   rcases qN x with⟨j,t,e,rfl⟩|⟨z,t,e,rfl⟩
   .rw[e];exact⟨t,rfl⟩
   .rw[e];exact⟨t,rfl⟩
  obtain⟨G,e,c,dd⟩:=id B;exact⟨key,rfl,QP (s:={ s with heap:=h' }) e c dd ⋯ ⟨_,H,I1,rk,⟨rfl,p,hp,rfl⟩,B,λb hb=>(J b hb).1⟩⟩
 done:=by
  intro X L hw M hc i oE s σ H E I J st O;subst L hw M;obtain⟨hd,hl⟩:=O;have Q:s.heap.get? d=some o:=(show rq X.prog X.w H s.heap d (.frz o (.dK kvs))from I.hok d _ hd).1
  have l:=Paired.length kv;obtain⟨R,S,f2,U,Y,f5⟩:=J n ⋯
  exact wpAny_pyNext_dict_end (I.ok.hd hc) st (ho _ Q) (aO ∅) λh' eb=>⟨rfl,I.turned (t':=s.toks) (λb o hb e=>eb b o hb e) R S U Y f5⟩
 self:=λ_ _ _ _ _ st h=>wpAny_pyIter_keyiter st h
def XN(te:TE):TI:=λσ H R=>te σ H λx l=>∃d kvs,x = .ref d/\l d=some (.dK kvs)/\∀o,R (Itk o d kvs) (qE l d (.frz o (.dK kvs)))
def WG(S:PE X o te):PI X Q o (XN te):=by
 intro O s σ H R I h;refine thn (S O s σ H _ I h) λv l L=>?_
 obtain⟨x,P,G,U,d,t,ex,ha,q⟩:=L;subst ex;obtain rfl:=(show v=bM d from U)
 obtain⟨Y,sa,B,kv,dd⟩:=(show rq X.prog X.w P l.heap d (.dK t)from G.hok d _ ha)
 obtain⟨J,z,es,n,sL⟩:=dd.dictAt;have M:∀h:Heap,h.get? d=some z->h.DictAt (qQ X.prog X.w) d B J:=λh e=>⟨z,es,e,sL⟩
 have E:d<l.heap.objs.size:=ak n;refine wpAny_pyIter_dict sa (M _ n) ?_;have kp:∀b u,l.heap.get? b=some u->(l.heap.push { cls:=.type "dict_keyiterator", data:=.fields #[.ref d,.int 0 0,.int B.length 0,.int J 0] }).get? b=some u:=λb u e=>ai _ e
 have I2:L2.Inv X O σ (qE P d (.frz z (.dK t))) { l with heap:=l.heap.push { cls:=.type "dict_keyiterator", data:=.fields #[.ref d,.int 0 0,.int B.length 0,.int J 0] } }:=
  (G.kept (t':=l.toks) kp).write (x:=d) (e:=d) (o:=.frz z (.dK t)) (t':=l.toks) (by rw[ha];trivial) (.inl rfl) (λb u _ e=>e) ⟨_,kp _ _ n⟩ ⟨kp _ _ n,Y,sa,B,kv,(M _ (kp _ _ n)).dictOf⟩
 refine⟨l.heap.objs.size,[l.heap.objs.size],_,_,_,rfl,I2,Pa z d _ t B J (az E) M kv,?_,λb hb=>?_,q z⟩
 .exact⟨_,aD _ rfl,rfl,rfl⟩
 .have e:b=l.heap.objs.size:=by simpa using hb
  subst e;exact G.fpOk (af _) (by rw[pD (du E)];exact G.hok.fresh (af _))
end Xe
namespace Z
open PySem L2 Mr
def WK(c)body n S:rH c body (n+1) S=(c S).bind λx=>if x.1=true then (body x.2).bind λo=>match o with
   | .nx l=>rH c body n l
   | .ct l=>rH c body n l
   | .bk l=>some (.nx l)
   | .rt a=>some (.rt a)
  else some (.nx x.2):=rfl
end Z
namespace Z
open PySem L2 Mr Xe
inductive Res where
 |ok (a:AV)|ex (c:Str) (fs:List (Str×Int))
abbrev MFx:=List D->Option Res
inductive X9 where
 |ok (o:IC)|ex (c:Str) (fs:List (Str×Int))
abbrev MX:=AS->Option X9
noncomputable def kD:pQ->D
 | .inl i=>.int i
 | .inr x=>.str x
def U0{K}k:rm K H (kD k) (kV k):=by
 cases k with
 |inl i=>exact .int
 |inr x=>exact .str
def qi.fix(R:qi K H₀ l Hf S σ H B)(J:p∉B.flatten)(L:Hf p=none)(E:H₀ p=none):qi K H₀ l (qE Hf p o) S σ (qE H p o) B:=by
 have s:qd Hf (qE Hf p o):=uE L;refine⟨R.len,R.lenF,λi M e=>?_,R.emp,R.nd,R.fresh,λb u z=>?_,λb u z=>?_,λb O G=>?_,R.sf.trans s⟩
 .obtain⟨v,F,P,I,r⟩:=R.rep i M e;have t:∀q∈F,q≠p:=λq n z=>J (by rw[←z];exact mFq.mpr ⟨F,mGq I,n⟩)
  exact⟨v,F,P,I,r.keep s (λq n=>pD (t q n)) λq n=>by rw[pD (t q n)];exact(r.owned q n).2⟩
 .by_cases hb:b=p
  .subst hb;rw[oY]at z ⊢;exact z
  .rw[pD hb]at z ⊢;exact R.sub b u z
 .have hb:b≠p:=λq=>by rw[q,E]at z;cases z
  rw[pD hb];exact R.fr b u z
 .have hb:b≠p:=λq=>G (by rw[q];exact E)
  rw[pD hb];exact R.lim b O G
noncomputable def abm(f:AV->Option X9):Res->Option X9
 | .ok r=>f r
 | .ex c fs=>some (.ex c fs)
noncomputable def WO(x y:D):Option D:=match y with
 | .non=>(match x with|.non=>some (.bl true)|.int _=>some (.bl false)|.str _=>some (.bl false)|.bl _=>some (.bl false)|.list _=>some (.bl false)|.tup _=>some (.bl false)|_=>none)
 |_=>none
def YQ:EJ K (λx y H Q=>y = .non/\Q (.bl (decide (x = .non))) H) WO:=by
 intro x y H Q s t d l n e q;cases n <;> first|(cases e;)|skip
 cases l <;> first|(cases e;done)|(cases e;exact⟨rfl,q _ (by simpa using rm.bl)⟩)
abbrev Qw:=LI Rg λi j=>.int (i / j)
def SM(K:Ζ)(te:TE)(m:ME):Prop:=∀{H₀ l Hf}{S}{σ}{H}{u}{d}{S'},qi K H₀ l Hf S σ H u->m S=some (d,S')->∀Q:VK,
 (∀n t s v,qd Hf n->qi K H₀ l n S' σ t s->rm K n d v->Q v t)->te σ H Q
noncomputable def XQ:AV->Option D
 | .sh d=>some d
 |_=>none
def UL(h:XQ a=some d):a = .sh d:=by
 unfold XQ at h;split at h <;> cases h
 rfl
def Ay(i:Nat)(b:ME):ME:=λS=>(qO S i).bind λ_=>(b S).bind λy=>(intOf y.1).bind λz=>(qO y.2 i).bind λl=>vx (0<=z/\z<l.length/\l.length<=qM) ((l[z.toNat]?.bind XQ).map λd=>(d,y.2.set i (some (.ow (l.eraseIdx z.toNat)))))
def xX(i:Nat):ME:=λS=>(qO S i).bind λl=>(l[l.length-1]?.bind XQ).map λd=>(d,S.set i (some (.ow l.dropLast)))
noncomputable def abw(kvs:List (pQ×D))(k:pQ):List (pQ×D):=kvs.filter λkv=>decide (kv.1≠k)
def aed(i:Nat)(b:ME):ME:=λS=>(xr S i).bind λ_=>(b S).bind λy=>(vp y.1).bind λkey=>(xr y.2 i).bind λkvs=>(getD kvs key).map λd=>(d,y.2.set i (some (.owd (abw kvs key))))
def VM:EJ K (rI Rg λi j=>.int (i / j)) Qw:=JJ λ_ _ _=>.int
def pU.erase(r:pU K Hf H t vs u)k:pU K Hf H (t.eraseIdx k) (vs.eraseIdx k) (u.eraseIdx k):=by
 obtain⟨z,B,x⟩:=r;refine⟨by rw[dN,dN,z],by rw[dN,dN,B],λi b w G s l n=>?_⟩
 rw[List.getElem?_eraseIdx]at s l n;split at s
 .rename_i q;rw[pO q]at l n;exact x i b w G s l n
 .rename_i q;rw[pK q]at l n;exact x (i+1) b w G s l n
def Lv{l:List Δ}(h:l[k]?=some []):(l.eraseIdx k).flatten=l.flatten:=by
 induction l generalizing k with
 |nil=>cases h
 |cons g r n=>
  cases k with
  |zero=>
   simp at h;subst h;rfl
  |succ k=>
   rw[dS,fCq,fCq,n (by simpa using h)]
def qi.lose(R:qi K H₀ l Hf S σ H u)(h:S[i]?=some (some (.ow n)))(hk:n[k]?=some (.sh d)) :
  ∃p vs y L,σ[i]?=some (some (.ref p))/\H p=some (.lst vs)/\n.length=vs.length/\vs[k]?=some y/\rm K Hf d y/\qi K H₀ l Hf (S.set i (some (.ow (n.eraseIdx k)))) σ (qE H p (.lst (vs.eraseIdx k))) (u.set i L):=by
 obtain⟨p,vs,x,z,M,O,P,s,B,Q,U⟩:=R.ow h;have lk:=(gSq.mp hk).1;obtain⟨y,E⟩:∃y,vs[k]?=some y:=⟨_,gEg (by rw[←s.1];exact lk)⟩
 obtain⟨G,I⟩:∃G,x[k]?=some G:=⟨_,gEg (by rw[←s.2.1];exact lk)⟩
 obtain⟨t,X⟩:=(s.2.2 k _ _ _ hk E I).sh_inv;subst t;have J:=Lv I;refine⟨p,vs,y,p::(x.eraseIdx k).flatten,z,O,s.1,E,X,R.turn z M ⋯ (pZ.news oY P ((s.keepUpd B).erase k)) ?_ ?_⟩
 .rw[J];exact aq.mpr ⟨B,Q⟩
 .rw[J];exact U
def JO(hb:SR K G b):SM K (OQ K "list" Ue (wU i) (rN G vy)) (Ay i b):=by
 intro H₀ s Hf S σ H Fs d S' R e Q q;obtain⟨a0,L,e⟩:=oBq.mp e;obtain⟨y,M,e⟩:=oBq.mp e;obtain⟨z,t,e⟩:=oBq.mp e;obtain⟨l,O,e⟩:=oBq.mp e;rcases pJ e with⟨⟨P,U,X⟩,e⟩|e
 .obtain⟨d',u,e⟩:=oMq.mp e;cases e;obtain⟨a,u,x⟩:=oBq.mp u;have x:=UL x;subst x;obtain⟨p,Y,Gs,I,_,h1,_⟩:=R.ow (qf L);refine⟨.ref p,I,.inl ⟨rfl,Y,rF.of h1⟩,hb R (d:=y.1) (S':=y.2) M _ λHf1 H1 Fs1 v t1 R1 J=>?_⟩
  obtain⟨p',B,w,F',n,hp,hl,hw,E,R2⟩:=R1.lose (qf O) u;rw[I]at n;cases n;have hv:v = .int z:=by
   have:y.1 = .int z:=by
    revert t
    unfold intOf;split <;> intro t <;> cases t
    assumption
   rw[this]at J;cases J;rfl
  subst hv;have hz:(l.length:Int)<=16777216:=by
   have:l.length<=16777216:=X;lia
  refine⟨p,B,z,z.toNat,w,rfl,rfl,hp,by lia,by lia,?_,hw,q _ _ _ _ t1.sf R2 E⟩
  rw[←hl];unfold oj;have n1:¬ z<0:=by lia
  have n2:(decide (0<=z) && decide (z<(l.length:Int)))=true:=by
   rw[d0 P,d0 U];rfl
  simp only[n1,if_false];exact pO n2
 .cases e
def YI:SM K (OQ K "list" aao (wU i) vy) (xX i):=by
 intro H₀ l Hf S σ H G d I R e Q q;obtain⟨z,B,e⟩:=oBq.mp e;obtain⟨J,n,e⟩:=oMq.mp e;cases e;obtain⟨a,n,s⟩:=oBq.mp n;have s:=UL s;subst s;obtain⟨p,u,w,L,E,x,hl,hw,t,R2⟩:=R.lose (qf B) n;refine⟨.ref p,E,.inl ⟨rfl,u,rF.of x⟩,p,u,w,rfl,rfl,x,by rw[←hl];exact hw,?_⟩
 rw[Bm,hl,Bm]at R2;exact q _ _ _ _ (.refl _) R2 t
noncomputable def Dk(i:Nat)(m:ME):MS:=λS=>(m S).map λx=>.nx (x.2.set i (some (.sh x.1)))
def Vb(h:SM K te m):SS K (FU te (rA i)) (Dk i m):=by
 intro H₀ l Hf S σ H B o R e D hd;obtain⟨x,n,e⟩:=oMq.mp e;cases e;refine h R n _ λs E Fs1 v t u z=>?_
 exact hd _ _ _ _ t (u.setD i z)
def QB(i:Nat)(m:ME):MS:=λS=>(qO S i).bind λ_=>(m S).bind λx=>(qO x.2 i).bind λl=>vx (l.length<qM) (some (.nx (x.2.set i (some (.ow (l++[.sh x.1]))))))
def Vl(hk:SM K te m):SS K (zA (OQ K "list" vP (wU i) (rN te vy))) (QB i m):=by
 intro H₀ t Hf S σ H Fs o R e D h;obtain⟨a0,O,e⟩:=oBq.mp e;obtain⟨x,P,e⟩:=oBq.mp e;obtain⟨Q,U,e⟩:=oBq.mp e;rcases pJ e with⟨hl,e⟩|e
 .cases e;obtain⟨p,X,Gs,u,_,Y,_⟩:=R.ow (qf O);refine⟨.ref p,u,.inl ⟨rfl,X,rF.of Y⟩,hk R P _ λHf1 H1 Fs1 v t1 L r1=>?_⟩
  obtain⟨p',z,Gs',l,B,E,G,n,s,I,J⟩:=L.ow (qf U);rw[u]at l;cases l;refine⟨p,z,v,rfl,rfl,E,by rw[←n.1];exact hl,h _ _ _ _ t1 (L.turn u B ⋯ (pZ.news oY G ((n.keepUpd s).snoc (.sh r1))) ?_ λq M=>?_)⟩
  .rw[fAq,aQ,aNq];exact aq.mpr ⟨s,I⟩
  .rw[fAq,aQ,aNq]at M;exact J q M
 .cases e
def adH(i:Nat)(b:ME)(m:ME):MS:=λS=>(m S).bind λx=>(xr x.2 i).bind λ_=>(b x.2).bind λy=>(xr y.2 i).bind λkvs=>(vp y.1).bind λkey=>
 vx (kvs.length<qM) (some (.nx (y.2.set i (some (.owd (xC kvs key x.1))))))
def Zs d:XQ (.sh d)=some d:=rfl
def Rm(S)i b:Ay i b S=(qO S i).bind λ_=>(b S).bind λy=>(intOf y.1).bind λz=>(qO y.2 i).bind λl=>vx (0<=z/\z<l.length/\l.length<=qM) ((l[z.toNat]?.bind XQ).map λd=>(d,y.2.set i (some (.ow (l.eraseIdx z.toNat))))):=rfl
def Yv(S)i:xX i S=(qO S i).bind λl=>(l[l.length-1]?.bind XQ).map λd=>(d,S.set i (some (.ow l.dropLast))):=rfl
def YX(S)i m:Dk i m S=(m S).map λx=>.nx (x.2.set i (some (.sh x.1))):=rfl
def aaz(S)i m:QB i m S=(qO S i).bind λ_=>(m S).bind λx=>(qO x.2 i).bind λl=>vx (l.length<qM) (some (.nx (x.2.set i (some (.ow (l++[.sh x.1])))))):=rfl
noncomputable def isN:D->String->Option D
 | .int _,T=>if T = "list" ∨ T = "tuple" ∨ T = "str" then some (.bl false)else none
 | .str _,T=>if T = "list" ∨ T = "tuple" then some (.bl false)else none
 | .non,T=>if T = "list" ∨ T = "tuple" then some (.bl false)else none
 | .list _,T=>if T = "tuple" then some (.bl false)else none
 | .tup _,T=>if T = "list" then some (.bl false)else none
 |_,_=>none
def QC:List D->Option D
 | [x,.ty T]=>isN x T
 |_=>none
def JR(ds:List D):Option D:=match TK ds with
 |some d=>some d
 |none=>QC ds
def Z2:Ry K (λl H Q=>∃x T,l=[x,.ty T]/\Yk K x H T/\Q (.bl false) H) QC:=by
 intro E H Q G d r e q;unfold QC at e;split at e
 rotate_left
 .cases e
 rename_i x T;obtain⟨v,I,rfl,n,t⟩:=r.cons_inv;obtain⟨u,J,rfl,z,B⟩:=t.cons_inv;rw[B.nil_inv];cases z;unfold isN at e;cases x <;> first|(cases e;)|dsimp only at e
 all_goals
  split at e
  rotate_left
  .cases e
  rename_i s;cases e
 .cases n;exact⟨_,_,rfl,s,q _ .bl⟩
 .cases n;exact⟨_,_,rfl,s,q _ .bl⟩
 .cases n;exact⟨_,_,rfl,s,q _ .bl⟩
 .obtain⟨p,l,rfl,h,_⟩:=n.list_inv;exact⟨_,_,rfl,.inl ⟨s,l,rF.of h⟩,q _ .bl⟩
 .obtain⟨p,l,rfl,h,_⟩:=n.tup_inv;exact⟨_,_,rfl,.inr ⟨s,l,DG.of h⟩,q _ .bl⟩
def aad:Ry K (λl H Q=>(∃x T b,l=[x,.ty T]/\Z6 K x H T b/\Q (.bl b) H)∨∃x T,l=[x,.ty T]/\Yk K x H T/\Q (.bl false) H) JR:=by
 intro s H Q t d r e q;unfold JR at e;split at e
 .rename_i n;cases e;exact .inl (Zq r n q)
 .exact .inr (Z2 r e q)
def YR i:JR [.int i,.ty "int"]=some (.bl true):=by simp[JR,TK,QC,isT,isN]
def YE i:JR [.int i,.ty "bool"]=some (.bl false):=by simp[JR,TK,QC,isT,isN]
def qi.poke(R:qi K H₀ Hf₀ Hf S σ H Fs)(pn:Hf p=none)(s:H₀ p=none)(t:p∉Fs.flatten):qi K H₀ Hf₀ Hf S σ (qE H p o) Fs:=by
 refine⟨R.len,R.lenF,λj a x=>?_,R.emp,R.nd,R.fresh,λb u e=>?_,λb u e=>?_,R.lim,R.sf⟩
 .obtain⟨w,G,B,n,q⟩:=R.rep j a x;refine⟨w,G,B,n,q.keep (.refl _) (λc l=>pD λe=>t ?_) λc l=>(q.owned c l).2⟩
  subst e;exact pP n l
 .rw[pD λz=>by rw[z,pn]at e;cases e]
  exact R.sub b u e
 .rw[pD λz=>by rw[z,s]at e;cases e]
  exact R.fr b u e
def yv.stays(t:yv Hf H Fs l u n)(pn:Hf p=none)(x:H p≠none)(s:p∉Fs.flatten):l p=none/\p∉n.flatten:=by
 refine⟨?_,λm=>s (t.own p m)⟩
 by_cases h:l p=none
 .exact h
 .exact((t.gr p pn h).elim (λe=>absurd e x) λm=>absurd m s)
def HJ(b:ME)(k:MK):MK:=λS=>(b S).bind λy=>(sr k y.2).bind λx=>(vp y.1).map λkey=>(.owd [(key,oN x.1)],x.2)
def RV(hb:SR K tb b)(hk:SK K te k):SK K (XS [(tb,te)]) (HJ b k):=by
 intro H₀ Hf₀ Hf S σ H Fs av S' R e Q q;obtain⟨y,X,e⟩:=oBq.mp e;obtain⟨x,L,e⟩:=oBq.mp e;obtain⟨key,Y,e⟩:=oMq.mp e;cases e;have t:SK K te (sr k):=SK.frz hk;intro p B;obtain⟨t0,R0,n1,M,n3⟩:=R.new B;refine hb R0 X _ λHf1 H1 Fs1 w E R1 r1=>?_
 have O:qE H p (HO.dK []) p=some (.dK []):=oY;have P:=E.sh p _ O;obtain⟨a1,a2⟩:=E.stays n1 (by rw[O];simp) n3
 refine t R1 L _ λG H2 Fs2 v F I R2 U o2=>?_
 have p2:=I.sh p _ P;obtain⟨b1,b2⟩:=I.stays a1 (by rw[P];simp) a2
 obtain⟨x1,n⟩:∃d,x.1 = .sh d:=by
  obtain⟨w,_,e⟩:=oMq.mp L;rw[←e];exact⟨_,rfl⟩
 rw[n]at U;have rv:=U.sh_inv.2;have hw:=yo Y r1;subst hw;refine⟨p2,[(key,v)],rfl,by simp,?_⟩
 have l:=(t0.trans E).trans I;have hs:qd H (qE H2 p (HO.dK (C1 [] [(key,v)]))):=λc u e=>by
  rw[pD λz=>by rw[z,B]at e;cases e]
  exact l.sh c u e
 refine q G _ Fs2 (.ref p) [p] ⟨l.sf,hs,l.own,l.gr⟩ (R2.poke b1 M b2) (.owd oY b1 ⟨rfl,λi d u s J=>?_⟩) ⟨by simp,λc h=>by rw[mSq.mp h];exact M,λc h=>by rw[mSq.mp h];exact b2,λc h=>by rw[mSq.mp h];exact .inl B⟩
 match i,s,J with
 |0,s,J=>
  cases s;cases J;rw[n];exact rv
 |i+1,s,_=>simp at s
def Ec:SM K (abx K "list" aao (wU i)) (xX i):=YI
noncomputable def Dn:List (pQ×D)->Option Ϝ
 | []=>some []
 | (.inl i,_)::r=>(Dn r).map (i :: ·)
 |_=>none
theorem Js:∀{kvs}{ns},Dn kvs=some ns->kvs.map (·.1)=ns.map aN
 | [],ns,h=>by cases h;rfl
 | (.inl i,d)::r,ns,h=>by
  obtain⟨s,l,n⟩:=oMq.mp (h);subst n;rw[aw,aw,Js l]
 | (.inr _,_)::_,_,h=>by cases h
def Hw(a:ME):MK:=λS=>(a S).bind λx=>match x.1 with
 | .dict kvs=>(Dn kvs).map λns=>(.ow ((sk ns).map λn=>.sh (.int n)),x.2)
 |_=>none
def RM(hb:SR K te b):SK K (K2 (λt H Q=>∃(a:Addr) (kvs:List (pQ×V)) (ns:Ϝ),t=[.ref a]/\H a=some (.dK kvs)/\kvs.map (·.1)=ns.map aN/\∀p,H p=none->Q (.ref p) (qE H p (.lst ((sk ns).map V.int)))) (rN te vy)) (Hw b):=by
 intro H₀ Hf₀ Hf S σ H Fs X Y R e Q q;obtain⟨x,u,e⟩:=oBq.mp e;obtain⟨z,x2⟩:=x;cases z with
 |dict kvs=>
  obtain⟨ns,B,e⟩:=oMq.mp (e);cases e;refine hb R u _ λE H1 Fs1 w l n G=>?_
  obtain⟨I,J,rfl,L,M⟩:=G.dict_inv;refine⟨I,J,ns,rfl,L,by rw[←M.1];exact Js B,λp s=>?_⟩
  obtain⟨O,P,U,n2,n3⟩:=n.new s;rw[xp]at q;exact q _ _ _ (.ref p) [p] (l.trans O) P (pZ.new oY U (uc _)) ((xS.one n s).back l)
 |_=>cases e
def Vr(S)b k:HJ b k S=(b S).bind λy=>(sr k y.2).bind λx=>(vp y.1).map λkey=>(.owd [(key,oN x.1)],x.2):=rfl
def Xn:D->AS->Option (AV×AS)
 | .dict kvs,S=>(Dn kvs).map λns=>(.ow ((sk ns).map λn=>.sh (.int n)),S)
 |_,_=>none
def UZ(S)a:Hw a S=(a S).bind λx=>Xn x.1 x.2:=by
 unfold Hw;congr 1;funext x;obtain⟨l,n⟩:=x;cases l <;> rfl
def Zu(kvs)S:Xn (.dict kvs) S=(Dn kvs).map λns=>(.ow ((sk ns).map λn=>.sh (.int n)),S):=rfl
theorem GU{α:Type}f(g:α->D):∀l:List α,Dn (l.map λx=>(aN (f x),g x))=some (l.map f)
 | []=>rfl
 |x::l=>by
  show(Dn (l.map λx=>(aN (f x),g x))).map (f x :: ·)=_
  rw[GU f g l];rfl
noncomputable def SB:D->Option V
 | .non=>some .non
 | .bl b=>some (.bl b)
 | .int i=>some (.int i)
 | .str s=>some (.str s)
 |_=>none
def C0:List D->Option (List V)
 | []=>some []
 |d::ds=>(SB d).bind λv=>(C0 ds).map (v :: ·)
noncomputable def YW:D->Option (List D)
 | .list ds=>some ds
 | .tup ds=>some ds
 |_=>none
def YB(neg:Bool)(x y:D):Option D:=(SB x).bind λv=>(YW y).bind λds=>(C0 ds).map λvs=>.bl (if neg then !inV v vs else inV v vs)
def GP(e:SB d=some v)(r:rm K H d w):w=v/\AO v=true:=by
 cases d <;> first|(cases e;cases r;exact⟨rfl,rfl⟩)|cases e
theorem zE:∀{ds}{vs ws},C0 ds=some vs->qo K H ds ws->ws=vs/\vs.all AO=true
 | [],vs,ws,e,r=>by
  cases e;exact⟨r.nil_inv,rfl⟩
 |d::ds,vs,ws,e,r=>by
  obtain⟨v,l,e⟩:=oBq.mp e;obtain⟨B,n,rfl⟩:=oMq.mp e;obtain⟨w,s,rfl,t,u⟩:=r.cons_inv;obtain⟨rfl,x⟩:=GP l t;obtain⟨rfl,z⟩:=zE n u;exact⟨rfl,by rw[iX,x,z];rfl⟩
def YZ neg:EJ K (rIn K neg) (YB neg):=by
 intro x y H Q M G d I z e q;obtain⟨v,J,e⟩:=oBq.mp e;obtain⟨O,l,e⟩:=oBq.mp e;obtain⟨P,B,e⟩:=oMq.mp e;subst e;obtain⟨rfl,E⟩:=GP J I;cases G with
 |list L=>
  cases l;obtain⟨p,n,rfl,s,t⟩:=z.list_inv;obtain⟨rfl,u⟩:=zE B t;exact⟨p,n,rfl,.inl (rF.of s),E,u,q _ .bl⟩
 |tup L=>
  cases l;obtain⟨p,n,rfl,s,t⟩:=z.tup_inv;obtain⟨rfl,u⟩:=zE B t;exact⟨p,n,rfl,.inr (DG.of s),E,u,q _ .bl⟩
 |_=>cases l
def Ji(ns:Ϝ):C0 (ns.map D.int)=some (ns.map V.int):=by
 induction ns with
 |nil=>rfl
 |cons n ns l=>rw[aw,C0,l];rfl
def QO i(ns:Ϝ):inV (.int i) (ns.map V.int)=decide (i∈ns):=by
 unfold inV
 induction ns with
 |nil=>rfl
 |cons n ns l=>
  rw[aw,dW,l];show(n == i || decide (i∈ns))=_
  by_cases h:i=n
  .subst h;simp
  .have s:¬ n=i:=λz=>h z.symm
   simp[h,s]
def ZY(neg)i(ns:Ϝ):YB neg (.int i) (.list (ns.map D.int))=some (.bl (if neg then !decide (i∈ns)else decide (i∈ns))):=by
 show(C0 (ns.map D.int)).map _=_;rw[Ji,cI,QO]
noncomputable def vI(l:MT)(te:MK)(cap:AS):List (D×D)->Option (List AV)
 | []=>some []
 |d::ds=>(l (some (.sh d.1)::some (.sh d.2)::cap)).bind λb=>if b.1=true then (te b.2).bind λa=>(vI l te cap ds).map (a.1 :: ·)else vI l te cap ds
def Mw(R:qi K H₀ Hf₀ Hf S σ H Fs)(e:C9 S fr=some cap)(z:rm K Hf d x)(s:rm K Hf t n) :
  qi K H₀ Hf₀ Hf (some (.sh d)::some (.sh t)::cap) (some x::some n::slots σ fr) H (aV (cap.length+2) []):=by
 obtain⟨B,E⟩:=EU R e;have fl:=tS (cap.length+2);refine⟨by simp[slots,B],by simp,λi G l=>?_,λi l=>?_,by rw[fl];exact bb,λp u=>(by rw[fl]at u;cases u),R.sub,R.fr,R.lim,R.sf⟩
 .match i,l with
  |0,l=>
   cases l;exact⟨x,[],rfl,by simp,.sh z⟩
  |1,l=>
   cases l;exact⟨n,[],rfl,by simp,.sh s⟩
  |k+2,l=>
   have hk:=(gSq.mp (by simpa using l)).1
   obtain⟨J,v,rfl,I,r⟩:=E k G (by simpa using l)
   exact⟨v,[],by simpa using I,by rw[bK,pO ∅],.sh r⟩
 .rw[bK];have hi:=(gSq.mp l).1;rw[pO (by simpa using hi)]
def Lj{J:It}{Q:VK}(hf:DE K tf mf)(he:SK K te me)
  (R1:qi K H₀ s Hf1 L σ z Fs1) (ec:C9 L fr=some cap) (hl:ds.length<=qM) (e:vI mf me cap ds=some B)
  (hgo:∀i H,qd Hf1 H->i<ds.length->J.go i H) (hst:∀H,qd Hf1 H->J.stop ds.length H) (hy:∀i H x n,qd Hf1 H->i<ds.length->J.yld i H x n->∃a v1 v2 d,x = .ref a/\DG K n a [v1,v2]/\ds[i]?=some d/\rm K Hf1 d.1 v1/\rm K Hf1 d.2 v2/\(n=H∨∃o,H a=none/\n=qE H a o))
  (q:∀G n v F,yv Hf1 z Fs1 G n Fs1->qi K H₀ s G L σ n Fs1->pZ K G n (.ow B) v F->xS H₀ z Fs1 Fs1 F->Q v n) :
  ∀l,z l=none->∃W:Nat->Nat->Hp->Prop,(∃m,W 0 m (qE z l (.lst [])))/\∀i m H,W i m H ->
   (J.stop i H/\Q (.ref l) H) ∨
   (J.go i H/\∃N:Hp->Prop,(∀n,N n->∃m',m'<m/\W (i+1) m' n)/\∀x n,J.yld i H x n->∀v0 v1,g2 K x (v0::v1::slots σ fr) n λI z=>(∃a b,I=a::b::slots σ fr)/\tf I z λb H2=>
    if b=true then te I H2 λy H3=>∃ys,H3 l=some (.lst ys)/\ys.length<jY/\N (qE H3 l (.lst (ys++[y])))else N H2):=by
 intro l u;obtain⟨t0,R0,n1,n2,n3⟩:=R1.new u
 let P:=λi H=>∃Hf M O X sL,qi K H₀ s Hf L σ H Fs1/\yv Hf1 z Fs1 Hf H Fs1/\H l=some (.lst O)/\Hf l=none/\pU K Hf H M O X/\xS H₀ z Fs1 Fs1 (l::X.flatten)/\M.length<=i /\
  vI mf me cap (ds.drop i)=some sL/\B=M++sL
 refine⟨λi m H=>m=ds.length-i/\i<=ds.length/\P i H,⟨ds.length,by simp,aX _,Hf1,[],[],[],B,R0,t0,oY,n1,.nil,xS.one R1 u,aX _,e,rfl⟩,?_⟩
 rintro i m H ⟨rfl,hi,Hf,M,O,X,sL,R,t,ha,S,U,ow,la,Y,ea⟩;have hs:=t.sf.trans R.sub
 by_cases E:i<ds.length
 .refine .inr ⟨hgo i H hs E,P (i+1),λn p=>⟨ds.length-(i+1),by lia,rfl,E,p⟩,λx n y=>?_⟩
  intro w0 w1;obtain⟨a0,u1,u2,d,rfl,hT,hd,rx1,rx2,hH⟩:=hy i H x n hs E y;rw[ax E,(gSq.mp hd).2]at Y;refine⟨a0,[u1,u2],rfl,hT,rfl,u1,[u2],rfl,u2,[],rfl,rfl,⟨some u1,some u2,rfl⟩,?_⟩;obtain⟨R,t,ha,U⟩:qi K H₀ s Hf L σ n Fs1/\yv Hf1 z Fs1 Hf n Fs1/\n l=some (.lst O)/\pU K Hf n M O X:=by
   rcases hH with rfl|⟨o,hn,rfl⟩
   .exact⟨R,t,ha,U⟩
   .obtain⟨tn,Rn,m1,m2,m3⟩:=R.new hn;exact⟨Rn,t.trans tn,tn.sh _ _ ha,U.stp (λq hq=>ow.out q (mCo _ hq)) tn⟩
  exact G5 hf he R t ha S U ow la ∅ ea (Mw R ec (rx1.mono t.sf) (rx2.mono t.sf)) Y u n2 n3 λa b c d e f g h i=>⟨_,_,_,_,_,a,b,c,d,e,f,g,h,i⟩
 .have e0:i=ds.length:=by lia
  subst e0;rw[cO]at Y;cases Y;rw[aNq]at ea;subst ea;exact .inl ⟨hst H hs,q Hf H (.ref l) _ t R (pZ.news ha S U) ow⟩
noncomputable def IT:D->D->Option D
 | .non,.non=>some (.bl false)
 | .int _,.non=>some (.bl true)
 | .str _,.non=>some (.bl true)
 | .bl _,.non=>some (.bl true)
 | .list _,.non=>some (.bl true)
 | .tup _,.non=>some (.bl true)
 | .dict _,.non=>some (.bl true)
 |_,_=>none
def WQ:EJ K (λx y H Q=>y = .non/\Q (.bl (!decide (x = .non))) H) IT:=by
 intro x y H Q t u d l n e q;unfold IT at e;split at e
 all_goals first|(cases e;done)|skip
 .cases e;cases l;cases n;exact⟨rfl,q _ (by simpa using rm.bl)⟩
 .cases e;cases l;cases n;exact⟨rfl,q _ (by simpa using rm.bl)⟩
 .cases e;cases l;cases n;exact⟨rfl,q _ (by simpa using rm.bl)⟩
 .cases e;cases l;cases n;exact⟨rfl,q _ (by simpa using rm.bl)⟩
 .cases e;cases n;obtain⟨p,s,rfl,_⟩:=l.list_inv;exact⟨rfl,q _ (by simpa using rm.bl)⟩
 .cases e;cases n;obtain⟨p,s,rfl,_⟩:=l.tup_inv;exact⟨rfl,q _ (by simpa using rm.bl)⟩
 .cases e;cases n;obtain⟨p,s,rfl,_⟩:=l.dict_inv;exact⟨rfl,q _ (by simpa using rm.bl)⟩
theorem Hs.same(s:qd H H'):∀{path}{v w},Hs H v path w->Hs H' v path w
 | [],v,w,h=>h
 |j::js,v,w,⟨p,vs,u,h1,h2,h3,h4⟩=>⟨p,vs,u,h1,s _ _ h2,h3,Hs.same s h4⟩
theorem Hs.one:∀{path}{v w l},Hs H v path w->Hs H v path l->w=l
 | [],v,w,l,h,t=>h.symm.trans t
 |j::js,v,w,l,hz,hy=>by
  obtain⟨p,J,u,x,z,B,E⟩:=hz;obtain⟨L,G,M,n,g2,s,I⟩:=hy;rw[x]at n;cases n;rw[z]at g2;cases g2;rw[B]at s;cases s;exact E.one I
theorem Hs.snoc:∀{path}{v}{p}{vs}{n}{u},Hs H v path (.ref p)->H p=some (.lst vs)->vs[n]?=some u->Hs H v (path++[n]) u
 | [],v,p,vs,n,u,h,l,s=>⟨p,vs,u,h,l,s,rfl⟩
 |j::js,v,p,vs,n,u,⟨p',vs',u',g1,g2,g3,g4⟩,l,s=>⟨p',vs',u',g1,g2,g3,g4.snoc l s⟩
theorem Hs.kept:∀{path}{l}{v w}{F}{n},pZ K Hf H l v F->qH l path=some n->Hs H v path w->(∀q∈F,H' q=H q)->Hs H' v path w
 | [],l,v,w,F,n,_,_,h,_=>h
 |j::js,l,v,w,F,n,r,e,hz,hk=>by
  obtain⟨p,L,u,s,t,x,M⟩:=hz;cases l with
  |ow O=>
   obtain⟨X,P,Y,z,B,E,e4,G⟩:=r.ow_inv;rw[s]at z;cases z;rw[t]at E;cases E;obtain⟨a,I,e⟩:=oBq.mp (e);have Q:=(gSq.mp I).1;have J:=gEg (G.2.1 ▸ Q);have R:=G.2.2 j a u _ I x J;refine⟨p,L,u,s,by rw[hk p (by rw[B];simp)];exact t,x,M.kept R e λq U=>hk q ?_⟩
   rw[B];exact mCo _ (pP J U)
  |_=>cases e
noncomputable def frm(H₀ H:Hp)(F:Δ):Hp:=λb=>if b∈F then H b else H₀ b
def Ik(h:b∈F):frm H₀ H F b=H b:=pO h
def Av(h:b∉F):frm H₀ H F b=H₀ b:=pK h
def qi.frame(R:qi K H₀ Hf₀ Hf S σ H Fs)(s2:Fs[i]?=some F):qi K (frm H₀ H F) Hf₀ Hf (S.set i none) σ H (Fs.set i []):=by
 have l:=R.kill i;have t:∀q∈F,q∈Fs.flatten:=λq x=>pP s2 x
 refine⟨l.len,l.lenF,l.rep,l.emp,l.nd,λp n=>?_,l.sub,λb u e=>?_,λb B s=>?_,l.sf⟩
 .have hn:=λz=>uL R.nd s2 z n
  rw[Av hn];exact l.fresh p n
 .by_cases hb:b∈F
  .rw[Ik hb]at e;exact e
  .rw[Av hb]at e;exact R.fr b u e
 .by_cases hb:b∈F
  .exact(R.mem (t b hb)).2
  .rw[Av hb]at s;exact R.lim b B s
def C7{α:Type}{l:List α}{a}(h:l[i]?=some a):l.set i a=l:=by
 obtain⟨hk,n⟩:=gSq.mp h;rw[←n];exact gE hk
def qi.unframe(R:qi K H₀ Hf₀ Hf S σ H Fs)(s2:Fs[i]?=some F)(r:pZ K Hf H t v F)(nd:F.Nodup)(s:∀q∈F,H₀ q=none)
  (l:qi K (frm H₀ H F) Hf₀ Hf' S' σ' H' Fs') (x:S'[i]?=some none) (s1:σ'[i]?=some (some v)) (sf:qd Hf Hf') :
  (∀q∈F,H' q=H q)/\pZ K Hf' H' t v F/\qi K H₀ Hf₀ Hf' (S'.set i (some t)) σ' H' (Fs'.set i F):=by
 have hk:∀q∈F,H' q=H q:=λq n=>by
  have hn:=(R.mem (pP s2 n)).1;cases E:H q with
  |none=>exact absurd E hn
  |some u=>exact l.fr q u (by rw[Ik n];exact E)
 have J:∀q∈F,Hf' q=none:=λq n=>by
  have B:=R.mem (pP s2 n);refine l.lim q ?_ (by rw[Ik n];exact B.1)
  cases L:Hf₀ q with
  |none=>rfl
  |some u=>rw[R.sf q u L]at B;exact absurd B.2 ⋯
 have G:=r.keep sf hk J;refine⟨hk,G,?_⟩;have M:qi K H₀ Hf₀ Hf' (S'.set i none) σ' H' (Fs'.set i []):=by
  rw[C7 x,C7 (l.emp i x)];refine⟨l.len,l.lenF,l.rep,l.emp,l.nd,λp O=>?_,l.sub,λb u e=>?_,λb P I=>?_,l.sf⟩
  .have:=l.fresh p O
   by_cases hb:p∈F
   .exact s p hb
   .rwa [Av hb]at this
  .refine l.fr b u ?_;rw[Av λz=>by rw[s b z]at e;cases e]
   exact e
  .refine l.lim b P ?_;rw[Av λz=>I (s b z)]
   exact I
 refine M.again (F:=F) s1 G nd λq n=>⟨s q n,λm=>?_⟩
 rw[C7 (l.emp i x)]at m;have:=l.fresh q m;rw[Ik n]at this;exact(R.mem (pP s2 n)).1 this
abbrev MP:=AS->Option (List Nat×AS)
def Mf(i:Nat):MP:=λS=>(qO S i).map λ_=>([],S)
def ZF(i:Nat)(s:MP)(b:ME):MP:=λS=>(s S).bind λx=>(b x.2).bind λy=>(intOf y.1).bind λj=>(qO y.2 i).bind λl=>(qH (.ow l) x.1).bind λt=>(KF t.length j).map λn=>(x.1++[n],y.2)
def SPh(K:Ζ)(i:Nat)(te:TE)(x:MP):Prop:=∀{H₀ l Hf}{S}{σ}{H}{u}{path:Θ}{S'},qi K H₀ l Hf S σ H u->x S=some (path,S')->∀Q:VK,
 (∀n t s v w,yv Hf H u n t s->qi K H₀ l n S' σ t s->σ[i]?=some (some v)->Hs t v path w->Q w t)->te σ H Q
def N1 i:SPh K i (wU i) (Mf i):=by
 intro H₀ l Hf S σ H u path x R e Q q;obtain⟨s,t,e⟩:=oMq.mp e;cases e;obtain⟨p,z,B,n,_⟩:=R.ow (qf t);exact⟨_,n,q _ _ _ _ _ .refl R n rfl⟩
def Cj{i:Nat}(R:qi K H₀ l Hf S σ H u)(e:S[i]?=some (some (.ow n)))(s1:σ[i]?=some (some v))(x:qH (.ow n) path=some s)(h:Hs H v path w) :
  ∃p vs,w = .ref p/\H p=some (.lst vs)/\vs.length=s.length:=by
 obtain⟨E,F,t,G,r,nd,_⟩:=R.move e;rw[s1]at t;cases t;obtain⟨p,vs,I,z,g2,J,B,_⟩:=r.path nd x;exact⟨p,vs,h.one z,g2,B.1.symm⟩
def Sy(X:SPh K i te E)(hb:SR K B b):SPh K i (Xb (VU K) te B) (ZF i E b):=by
 intro H₀ l Hf S σ H Fs path S' R e Q q;obtain⟨x,Y,e⟩:=oBq.mp e;obtain⟨y,e2,e⟩:=oBq.mp e;obtain⟨j,s,e⟩:=oBq.mp e;obtain⟨avs,e4,e⟩:=oBq.mp e;obtain⟨as,e5,e⟩:=oBq.mp e;obtain⟨n,G,e⟩:=oMq.mp e;cases e;refine X R Y _ λHf1 H1 Fs1 v w t1 R1 I a1=>hb R1 e2 _ λHf2 H2 Fs2 u J R2 L=>?_
 have hy:y.1 = .int j:=by
  cases hx:y.1 <;> rw[hx]at s <;> first|(cases s;rfl)|cases s
 rw[hy]at L;cases L;have M:=a1.same J.sh;obtain⟨p,t,rfl,O,P⟩:=Cj R2 (qf e4) I e5 M;obtain⟨_,hn,_⟩:=Ni G;have z:n<t.length:=by rw[P];exact hn
 obtain⟨u,U⟩:∃u,t[n]?=some u:=⟨_,gEg z⟩;refine⟨p,t,j,u,rfl,rfl,rF.of O,?_,q _ _ _ v _ (t1.trans J) R2 I (M.snoc O U)⟩;unfold atI;rw[P,G];exact U
def qi.grow(R:qi K H₀ l Hf S σ H M)(e:S[i]?=some (some (.ow n)))(s1:σ[i]?=some (some v))(en:qH (.ow n) path=some x)(h:Hs H v path (.ref p)) :
  ∃vs,H p=some (.lst vs)/\x.length=vs.length/\∀bs ws s,pU K Hf H bs ws s->s.flatten.Nodup->(∀q∈s.flatten,H₀ q=none/\q∉M.flatten) ->
   ∃G,qi K H₀ l Hf (S.set i (some (putAt (.ow n) path (x++bs)))) σ (qE H p (.lst (vs++ws))) G:=by
 obtain⟨v',F,O,B,r,nd,P,_⟩:=R.move e;rw[s1]at O;cases O;obtain⟨p',vs,I,g1,g2,g3,Q,U,X,J,Y,g8⟩:=r.path nd en;have L:=h.one g1;cases L;refine⟨vs,g2,Q.1,λbs ws s rb nG u=>?_⟩
 have pG:=λm=>(u p m).2 (pP B U)
 have t:(I++s).flatten=I.flatten++s.flatten:=fAq;obtain⟨F',k1,k2,k3⟩:=g8 (x++bs) (vs++ws) (I++s) ((Q.keepUpd X).append (rb.keepUpd pG)) (by
  rw[t];refine aq.mpr ⟨λm=>(mAq.mp m).elim X pG,nAq.mpr ⟨J,nG,λa ha b hb z=>(u b hb).2 (pP B (Y b (z ▸ ha)))⟩⟩) (λq E=>by
  rw[t]at E;exact(mAq.mp E).imp id λm z=>(u q m).2 (pP B z))
 refine⟨_,R.turnAny s1 B U k1 k2 λq E=>?_⟩
 rcases k3 q E with z|z
 .exact P q z
 .rw[t]at z;rcases mAq.mp z with z|z
  .exact P q (Y q z)
  .exact⟨(u q z).1,λm=>(u q z).2 (qz m)⟩
def ad8(i:Nat)(s:MP)(k:MK):MS:=λS=>(s S).bind λx=>(qO x.2 i).bind λt=>(qH (.ow t) x.1).bind λ_=>(k x.2).bind λy=>(qO y.2 i).bind λl=>(qH (.ow l) x.1).bind λn=>vx (n.length<qM) (some (.nx (y.2.set i (some (putAt (.ow l) x.1 (n++[y.1]))))))
def ad2(i:Nat)(t:MP)(l:ML):MS:=λS=>(t S).bind λx=>(qO x.2 i).bind λu=>(qH (.ow u) x.1).bind λ_=>(l x.2).bind λy=>(qO y.2 i).bind λn=>(qH (.ow n) x.1).bind λs=>vx (s.length+y.1.length<=qM) (some (.nx (y.2.set i (some (putAt (.ow n) x.1 (s++y.1.map .sh))))))
def Als(x i:Nat)(path:Θ)(S:AS)(σ:St)(H:Hp):Prop:=∃v p l n,S[i]?=some (some (.ow l))/\qH (.ow l) path=some n/\σ[x]?=some (some (.ref p))/\σ[i]?=some (some v)/\Hs H v path (.ref p)
def QD(x i:Nat)(n:MP)(m:Θ->MS):MS:=λS=>(n S).bind λy=>(qO y.2 i).bind λl=>(qH (.ow l) y.1).bind λ_=>vx (x≠i/\x<y.2.length) (m y.1 (y.2.set x none))
def E3(i:Nat)(c:MT)(a b:Θ->MS):Θ->MS:=λpath S=>(c S).bind λy=>(qO y.2 i).bind λl=>(qH (.ow l) path).bind λ_=>if y.1=true then a path y.2 else b path y.2
def JG(i:Nat)(k:MK):Θ->MS:=λpath S=>(k S).bind λy=>(qO y.2 i).bind λl=>(qH (.ow l) path).bind λn=>vx (n.length<qM) (some (.nx (y.2.set i (some (putAt (.ow l) path (n++[y.1]))))))
def ad4(i:Nat)(l:ML):Θ->MS:=λpath S=>(l S).bind λy=>(qO y.2 i).bind λn=>(qH (.ow n) path).bind λs=>vx (s.length+y.1.length<=qM) (some (.nx (y.2.set i (some (putAt (.ow n) path (s++y.1.map .sh))))))
def Fz(i:Nat)(s:ME):Θ->MS:=λpath S=>(qO S i).bind λl=>(qH (.ow l) path).bind λn=>(s (S.set i none)).bind λy=>vx (y.2[i]?=some none/\n.length<qM) (some (.nx (y.2.set i (some (putAt (.ow l) path (n++[.sh y.1]))))))
def AD(K:Ζ)(J:Θ)(t:TS)(m:MS):Prop:=∀{H₀ l Hf}{S}{σ}{H}{z}{S'},qi K H₀ l Hf S σ H z->m S=some (.nx S')->∀D:AI,(∀s n x u,qd Hf s->qi K H₀ l s S' n x u->(∀j∈J,n[j]?=σ[j]?)->D.nx n x)->t D σ H
def Jy(h:∀D σ H,D.nx σ H->t D σ H):AD K J t qK:=by
 intro H₀ l Hf S σ H n s R e D q;cases e;exact h _ _ _ (q _ _ _ _ (.refl _) R λ_ _=>rfl)
def Ic(hk:SK K te k)(t:y∉J):AD K J (FU te (rA y)) (oX y k):=by
 intro H₀ l Hf S σ H M O R e D q;obtain⟨x,u,e⟩:=oMq.mp e;cases e;refine hk R u _ λB P Fs1 v F E G I n=>?_
 exact q _ _ _ _ E.sf (G.set y I n.nd λq s=>⟨n.fr q s,n.out q s⟩) λj L=>aC (λz=>t (by rw[z];exact L))
def Rx(hk:SM K te m)(n:y∉J):AD K J (FU te (rA y)) (Dk y m):=by
 intro H₀ l Hf S σ H I L R e D q;obtain⟨x,s,e⟩:=oMq.mp e;cases e;refine hk R s _ λt M Fs1 v u B E=>?_
 exact q _ _ _ _ u (B.setD y E) λj G=>aC (λz=>n (by rw[z];exact G))
def R7(M:DE K c m)(ha:AD K J t a)(hb:AD K J u b):AD K J (Sq c t u) (zC m a b):=by
 intro H₀ n Hf S σ H U X R e D q;obtain⟨x,O,e⟩:=oBq.mp e;refine M R O _ λP Y Fs1 I L=>?_
 split at e
 .rename_i l;rw[l];exact Ho (ha L e D λz B Q E s G j=>q _ _ _ _ (I.sf.trans s) G j)
 .rename_i l;rw[dD]at l;rw[l];exact FI (hb L e D λz B Q E s G j=>q _ _ _ _ (I.sf.trans s) G j)
def Fl(i:Nat)(a:MS)(m:Θ->MS):Θ->MS:=λpath S=>(qO S i).bind λl=>(a (S.set i none)).bind λo=>match o with
 | .nx n=>vx (n[i]?=some none) (m path (n.set i (some (.ow l))))
 |_=>none
def abf(S)i:Mf i S=(qO S i).map λ_=>([],S):=rfl
def acY(S)i s b:ZF i s b S=(s S).bind λx=>(b x.2).bind λy=>(intOf y.1).bind λj=>(qO y.2 i).bind λl=>(qH (.ow l) x.1).bind λt=>(KF t.length j).map λn=>(x.1++[n],y.2):=rfl
def abU(S)x i n m:QD x i n m S=(n S).bind λy=>(qO y.2 i).bind λl=>(qH (.ow l) y.1).bind λ_=>vx (x≠i/\x<y.2.length) (m y.1 (y.2.set x none)):=rfl
def ab6(S)i c a b path:E3 i c a b path S=(c S).bind λy=>(qO y.2 i).bind λl=>(qH (.ow l) path).bind λ_=>if y.1=true then a path y.2 else b path y.2:=rfl
def ZM(S)i k path:JG i k path S=(k S).bind λy=>(qO y.2 i).bind λl=>(qH (.ow l) path).bind λn=>vx (n.length<qM) (some (.nx (y.2.set i (some (putAt (.ow l) path (n++[y.1])))))):=rfl
def VY(S)i n path:Fz i n path S=(qO S i).bind λl=>(qH (.ow l) path).bind λs=>(n (S.set i none)).bind λy=>vx (y.2[i]?=some none/\s.length<qM) (some (.nx (y.2.set i (some (putAt (.ow l) path (s++[.sh y.1])))))):=rfl
def abV(i:Nat)(l:List AV)(m:Θ->MS)(path:Θ):IC->Option IC
 | .nx n=>vx (n[i]?=some none) (m path (n.set i (some (.ow l))))
 |_=>none
def aaS(S)i a m path:Fl i a m path S=(qO S i).bind λl=>(a (S.set i none)).bind (abV i l m path):=by
 congr 1
def V6(i)l m path n:abV i l m path (.nx n)=vx (n[i]?=some none) (m path (n.set i (some (.ow l)))):=rfl
def Md l:qH (.ow l) []=some l:=rfl
def Jq(l)j(n:Θ):qH (.ow l) (j::n)=(l[j]?).bind λa=>qH a n:=rfl
def LU{n:Θ}(h:l[j]?=some a):putAt (.ow l) (j::n) s = .ow (l.set j (putAt a n s)):=by
 show(match l[j]? with|some a=>_|none=>_)=_
 rw[h]
noncomputable def E9(m:ME):MS:=λS=>(m S).map λx=>.nx x.2
def aeq(i:Nat):MS:=λS=>(qO S i).map λl=>.nx (S.set i (some (.ow l.reverse)))
def Vy(S)m:E9 m S=(m S).map λx=>.nx x.2:=rfl
def rm.fd_inv(h:rm K H (.fd ds) v):∃p o kvs,v = .ref p/\H p=some (.frz o (.dK kvs))/\uQ K H ds kvs:=by
 cases h with
 |fd h l e=>exact⟨_,_,_,rfl,h,l,e⟩
noncomputable def WU:D->Option (List (pQ×D))
 | .fd kvs=>some kvs
 |_=>none
def VI(h:WU d=some kvs):d = .fd kvs:=by
 cases d <;> first|(cases h;rfl)|cases h
def Eg(a b:ME):ME:=λS=>(a S).bind λx=>(b x.2).bind λy=>(WU x.1).bind λkvs=>(vp y.1).bind λkey=>(getD kvs key).map λd=>(d,y.2)
def SG(ha:SR K n a)(hb:SR K s b):SR K (Q4 n s) (Eg a b):=by
 intro H₀ l Hf S σ H Fs d S' R e Q q;obtain⟨x,z,e⟩:=oBq.mp e;obtain⟨y,B,e⟩:=oBq.mp e;obtain⟨E,G,e⟩:=oBq.mp e;obtain⟨key,I,e⟩:=oBq.mp e;obtain⟨d',J,e⟩:=oMq.mp e;cases e;refine ha R z _ λL H1 Fs1 v1 M O t=>hb O B _ λP H2 Fs2 v2 u R2 U=>?_
 rw[VI G]at t;obtain⟨p,o,X,rfl,Y,h2⟩:=(t.mono u.sh).fd_inv;have g:=BC (key:=key) h2;rw[J]at g;obtain⟨v,g1,g2⟩:=g;exact⟨p,v,rfl,by rw[yo I U,←g1];exact .inl ⟨X,key,.inr ⟨o,Y⟩,rfl,rfl⟩,q _ _ _ _ (M.trans u) R2 g2⟩
def T3{E:TS}{D:AI}(l:Nat->St->Hp->Prop)(I:l 0 σ H)(hl:∀i σ H,l i σ H->H d=some (.frz u (.dK kvs)))
  (hs:∀i p σ H,kvs[i]?=some p->l i σ H->E { D with nx:=l (i+1),ct:=l (i+1),bk:=D.nx } (σ.set B (some (kV p.1))) H) (hd:∀σ H,l kvs.length σ H->D.nx σ H) :
  ∃W:Nat->Nat->St->Hp->Prop,(∃m,W 0 m σ H)/\∀i m σ H,W i m σ H ->
   ((Itk u d kvs).stop i H/\D.nx σ H)∨((Itk u d kvs).go i H/\∃N:St->Hp->Prop,(∀s n,N s n->∃G,G<m/\W (i+1) G s n)/\∀x n,(Itk u d kvs).yld i H x n->rA B x σ n λz J=>E { D with nx:=N,ct:=N,bk:=D.nx } z J):=by
 refine⟨λi m σ H=>m=kvs.length-i/\i<=kvs.length/\l i σ H,⟨kvs.length,by simp,aX _,I⟩,?_⟩
 rintro i m σ H ⟨rfl,hi,p⟩;have q:=hl i σ H p
 by_cases t:i<kvs.length
 .refine .inr ⟨⟨q,kvs[i],by simp[t]⟩,l (i+1),λs n L=>⟨kvs.length-(i+1),by lia,rfl,t,L⟩,λv n y=>?_⟩
  obtain⟨rfl,x,M,rfl⟩:=y;exact hs i x σ n M p
 .have e:i=kvs.length:=by lia
  subst e;exact .inl ⟨⟨q,af _⟩,hd σ H p⟩
def Kv(x i:Nat)(body:MS):MS:=λS=>(xr S i).bind λkvs=>vx (x≠i) (rZ x body (kvs.map λp=>kD p.1) (S.set i (some (.sh (.fd kvs)))))
def VQ(hb:SS K tb body):SS K (Ii (XN (wU i)) (rA x) tb) (Kv x i body):=by
 intro H₀ t Hf S σ H Fs o R e D h;obtain⟨z,e1,e⟩:=oBq.mp e;rcases pJ e with⟨hne,e⟩|e
 .have M:=Bd e1;obtain⟨p,s,s1,s2,h1,h2,h3,h4,h5⟩:=R.owd M;refine⟨_,s1,p,s,rfl,h1,λL=>?_⟩
  obtain⟨v,F,t1,t2,r,nd,oo,R1⟩:=R.move M;rw[s2]at t2;cases t2;have R2:=qi.fix R1 (p:=p) (o:=.frz L (.dK s)) h5 h2 h4;have s3:qd Hf (qE Hf p (.frz L (.dK s))):=uE h2;have O:uQ K (qE Hf p (.frz L (.dK s))) z s:=⟨h3.1,λi d v a b=>(h3.2 i d v a b).mono s3⟩
  have R3:qi K H₀ t (qE Hf p (.frz L (.dK s))) (S.set i (some (.sh (.fd z)))) σ (qE H p (.frz L (.dK s))) (Fs.set i []):=
   R2.again (F:=[]) s1 (.sh (.fd oY O.1 O.2)) bb λq hq=>by cases hq
  have I:z.length=s.length:=by have:=congrArg bJ h3.1;simpa using this
  refine T3 (λn B H'=>∃u P E,qi K H₀ t u P B H' E/\qd (qE Hf p (.frz L (.dK s))) u/\rZ x body ((z.map λp=>kD p.1).drop n) P=some o) ⟨_,_,_,R3,.refl _,e⟩
   (λn B H' ⟨u,P,E,Q,J,_⟩=>Q.sub _ _ (J _ _ oY)) ?_ ?_
  .rintro n w B H' hw ⟨u,P,E,Q,J,U⟩;have hn:n<z.length:=by rw[I];exact(gSq.mp hw).1
   have hk:(z.map λp=>kD p.1)[n]?=some (kD w.1):=by
    have:=congrArg (λl=>l[n]?) h3.1
    simp only[gMq,hw,cI]at this;rw[gMq];cases hd:z[n]? with
    |none=>rw[hd]at this;cases this
    |some dd=>
     rw[hd]at this;rw[cI,show dd.1=w.1 from aA.inj this]
   have hlt:n<(z.map λp=>kD p.1).length:=by rw[lMq];exact hn
   rw[ax hlt,(gSq.mp hk).2]at U;obtain⟨o2,e3,e4⟩:=oBq.mp U;refine hb (Q.setD x (U0 w.1)) e3 _ ?_;cases o2 with
   |nx S2=>exact λG X H2 Fs2 Y R4=>⟨G,S2,Fs2,R4,J.trans Y,e4⟩
   |ct S2=>exact λG X H2 Fs2 Y R4=>⟨G,S2,Fs2,R4,J.trans Y,e4⟩
   |bk S2=>cases e4;exact λG X H2 Fs2 Y R4=>h _ _ _ _ ((s3.trans J).trans Y) R4
   |rt a=>cases e4;exact h
  .rintro B H' ⟨u,P,E,Q,J,U⟩;rw[←I,show z.length=(z.map λp=>kD p.1).length from (lMq _).symm,cO]at U
   cases U;exact h _ _ _ _ (s3.trans J) Q
 .cases e
def Ww kvs:WU (.fd kvs)=some kvs:=rfl
def WH(S)a b:Eg a b S=(a S).bind λx=>(b x.2).bind λy=>(WU x.1).bind λkvs=>(vp y.1).bind λkey=>(getD kvs key).map λd=>(d,y.2):=rfl
def aar(S)x i body:Kv x i body S=(xr S i).bind λkvs=>vx (x≠i) (rZ x body (kvs.map λp=>kD p.1) (S.set i (some (.sh (.fd kvs))))):=rfl
end Z
namespace Mr
open PySem PySem.Spec PyProof.Rows L2
def PM:mS (.type "list_reverseiterator") "__len__" = pure none:=by kernel_rfl
def Tu:mS (.type "list_reverseiterator") "__length_hint__" = pure (some (.builtin "list_reverseiterator.__length_hint__")):=by kernel_rfl
section
variable {E:Ψ}
def Ur(l:s.TypeIs (.ref r) "list_reverseiterator")(h:Q false s):jW (jU prog w) A (Builtin.List.listLengthHint (.ref r)) Q E s:=by
 refine jR (mH l PM ?_);refine jR (mH l Tu ?_);generalize n:("list_reverseiterator.__length_hint__")=id0;subst n;refine jR (mE (b:=true) l (by kernel_rfl) ?_)
 exact jT h
def RvP(items:Ω)(i:Nat)(v:Value):Prop:=items[items.size-1-i]?=some v
def Vg{items:Ω}(hh:A.handled=none)(J:l≠I)(u:s.heap.IsRevIter I l ((items.size:Int)-1))(hl:s.heap.IsList l items)S(G:S≠I)(L:S≠l)res x(Q:s.heap.get? S=some { cls:=.type "list", data:=.seq #[] x })
  (U:∀h' X n B,(∀b o,b≠S->b≠I->s.heap.get? b=some o->h'.get? b=some o)->h'.get? S=some { cls:=.type "list", dict:=none,data:=.seq n B,slots:=#[] }->ItemsOf (RvP items) n items.size->R (.ok (.ret res)) { s with heap:=h',toks:=X }) (hn:items.size<=jY) :
  jW (jU prog w) A.in1 (Builtin.List.listExtendWith (.ref S) (.ref I) res)
   (λfin z=>match fin with|.done f=>R (.ok f) z|.again B=>B.quiet=true/\kZ (jU prog w) A B R z) (λe z=>R (.error e) z) s:=by
 have M:S∉[I,l]:=by simp only[aa,bL,or_false,not_or];exact⟨G,L⟩
 have W:=Walks.listRev (prog:=prog) (w:=w) (A:=A.in1) hh I l J items;have st:(0)<=items.size/\s.heap.IsRevIter I l ((items.size)-1-((0:Nat)))/\s.heap.IsList l items:=⟨aX _,by rw[show(items.size:Int)-1-((0:Nat))=(items.size)-1 by lia];exact u,hl⟩
 refine jR (mL u.typeIs ?_);have Y:Builtin.List.listSameRef (.ref S) (.ref I)=false:=by simp[Builtin.List.listSameRef,G]
 have h2:(cX "list_reverseiterator" == cX "list")=false:=by decide
 have h3:(cX "list_reverseiterator" == cX "tuple")=false:=by decide
 simp only[Y,h2,h3,jD,cK,if_false];refine jR (PySem.wpAny_pyIter_revIter u ?_);refine jR (kM (Ur u.typeIs ?_));refine jT ⟨kN fO _,?_⟩;refine nV W.toS hn S M res items.size 0 _ #[] x rfl (aX _) st Q (ItemsOf.nil _) λz n B P O H=>?_
 rw[Moved.eq_with P];refine U z.heap z.toks n B (λb o hb hI e=>P.heap b o (λt=>?_) e) O H
 rcases aa.mp t with e'|t
 .exact hb e'
 .exact hI (mSq.mp t)
def O0{Q:Ψ}{items:Ω}(hh:A.handled=none)(J:l≠I)(z:s.heap.IsRevIter I l ((items.size:Int)-1))(hl:s.heap.IsList l items)(hn:items.size<=jY)
  (X:∀h' L n M,(∀b o,b≠I->s.heap.get? b=some o->h'.get? b=some o)->h'.get? s.heap.objs.size=some { cls:=.type "list", dict:=none,data:=.seq n M,slots:=#[] }->ItemsOf (RvP items) n items.size->Q (.ref s.heap.objs.size) { s with heap:=h',toks:=L }) :
  jW (jU prog w) A (call (.type "list") [.ref I]) Q E s:=by
 refine callType_codes (Q₁:=λobj t=>obj = .ref s.heap.objs.size/\t={ s with heap:=s.heap.push { cls:=.type "list", data:=.seq #[] } }) PySem.F.called_list (PySem.F.typeCall_list_1 _) PySem.F.entry_list_init
  (code_list_new _ ⟨rfl,rfl⟩) λobj t B=>?_
 obtain⟨rfl,rfl⟩:=B;have H:(s.heap.push { cls:=.type "list", data:=.seq #[] }).get? s.heap.objs.size=some { cls:=.type "list", data:=.seq #[] }:=aD _ rfl;have S:I<s.heap.objs.size:=let ⟨_,O,_⟩:=z;ak O
 have U:l<s.heap.objs.size:=let ⟨_,O,_⟩:=hl;ak O
 refine⟨⟨_,H,rfl⟩,PySem.F.args_list_init_2 _ _,?_⟩;show jW _ _ (do let P ←Builtin.List.listItems (.ref s.heap.objs.size);Builtin.List.listUpdate (.ref s.heap.objs.size) (λ_=>#[]);letGo P.toList.reverse;Builtin.List.listExtendWith (.ref s.heap.objs.size) (.ref I) .none) _ _ _
 refine jR ?_;unfold Builtin.List.listItems;refine jR (nE H rfl (jT ?_));show jW _ _ (updateSeq s.heap.objs.size (λ_=>#[]) >>= λ_=>letGo (#[]:Ω).toList.reverse >>= λ_=>Builtin.List.listExtendWith (.ref s.heap.objs.size) (.ref I) .none) _ _ _
 refine jR (nj H rfl ?_);have u:=fA (Obj.mapSeq (λ_=>(#[]:Ω))) H rfl
 have x:∀b o,b≠s.heap.objs.size->s.heap.get? b=some o->((s.heap.push { cls:=.type "list", data:=.seq #[] }).update s.heap.objs.size (Obj.mapSeq (λ_=>(#[]:Ω)))).get? b=some o:=
  λb o hb e=>(df _ _ (Ne.symm hb)).trans (ai _ e)
 refine jR (wpAny_letGo ?_);refine Vg (A:=A.in1) hh J (z.at λo e=>x I o (az S) e) (hl.at λo e=>x l o (az U) e) s.heap.objs.size (du S) (du U) .none _ u (λh' L n M hk R G=>?_) hn
 exact⟨rfl,X h' L n M (λb o hb e=>hk b o (az (ak e)) hb (x b o (az (ak e)) e)) R G⟩
end
def XH(K:Ζ)(s:List V)(H:Hp)(Q:VK):Prop:=∃a n,s=[.ref a]/\rF K H a n/\∀l,H l=none->Q (.ref l) (qE H l (.lst n.reverse))
def U3(hc:X.calm=true)(gl:Gl X "list")(ml:X.mg "list" = none)(hg:Gl X "reversed")(hm:X.mg "reversed" = none)(ha:PA X [e] R)
  (S:kf [.Call (.Name "reversed" p) [e] [] pos] X.env=(false,eval (.Call (.Name "reversed" p) [e] [] pos) X.env)::kf [] X.env:=by rfl) (hs:kf [e] X.env=[(false,eval e X.env)]:=by rfl) :
  PE X (.Call (.Name "list" p0) [.Call (.Name "reversed" p) [e] [] pos] [] z) (K2 (XH X.K) R):=by
 intro oE s σ H Q I h;refine kS (vA I gl ml boot_list ?_ ⋯ ⋯)
 refine bD ?_ S (by rfl)
 rw[S];show jW _ _ (spliced ((false,eval (.Call (.Name "reversed" p) [e] [] pos) X.env)::lu z (kf [] X.env))) _ _ s;refine Calls.spliced_cons ?_;refine Call_ (vA I hg hm boot_reversed (bD (thn (ha pos oE s σ H _ I h) λus x E=>?_) hs rfl))
 obtain⟨vs,H1,B,r1,q1⟩:=E;obtain⟨a,xs,e1,hq,q⟩:=q1;subst e1;obtain⟨u,rfl,ru⟩:=vH r1;cases ru;obtain⟨l,U,G,hz⟩:=B.list hq;have Y:=U.length;have J:Heap.IsRevIter (x.heap.push (PySem.revObj a ((l.toArray.size:Int)-1))) x.heap.objs.size a ((l.toArray.size:Int)-1):=⟨_,aD _ rfl,rfl,rfl⟩;have L:a<x.heap.objs.size:=let ⟨_,ho,_⟩:=G.isList;ak ho
 refine PySem.call_reversed_list G.isList (Calls.spliced_nil ?_);refine O0 (s:={ x with heap:=x.heap.push (PySem.revObj a ((l.toArray.size:Int)-1)) }) (B.ok.hd hc) (az L) J (G.isList.at λo e=>ai _ e) (by simp only[aH];lia) λh' tk n c hk hS t=>?_
 have M:(x.heap.push (PySem.revObj a ((l.toArray.size:Int)-1))).objs.size=x.heap.objs.size+1:=by first|rfl|simp[Heap.push]
 have O:n.toList=l.reverse:=by
  refine cS λj=>?_
  by_cases hj:j<l.length
  .have P:n.size=l.length:=by rw[t.1];simp
   have h1:n[j]?=some n[j]:=ag ∅
   have h2:=t.2 j _ h1;unfold RvP at h2;rw[fB hj,au,h1,←h2];simp
  .have P:n.size=l.length:=by rw[t.1];simp
   rw[aO (by rw[ar];lia),aO (by rw[cm];lia)]
 refine⟨.ref (x.heap.objs.size+1),qE H1 (x.heap.objs.size+1) (.lst xs.reverse),B.laid (λb o e=>hk b o (az (ak e)) (ai _ e)) (bP _) (⟨by rw[cm];exact hz,n.toList,c,by rw[O];exact U.reverse,by simpa using hS⟩),by rw[M];rfl,q _ (B.hok.fresh (bP _))⟩
end Mr
namespace Z
open PySem L2 Mr
def M3(l:ML):MK:=λS=>(l S).map λx=>(.ow (x.1.reverse.map .sh),x.2)
def Vn(hl:SQ K te l):SK K (K2 (XH K) (rN te vy)) (M3 l):=by
 intro H₀ n Hf S σ H P U X R e Q q;obtain⟨x,B,e⟩:=oMq.mp e;cases e;refine hl R B _ λE Y Fs1 G s t u I J=>⟨G,s,rfl,I,λp z=>?_⟩
 obtain⟨L,M,O,n2,n3⟩:=u.new z;exact q _ _ _ (.ref p) [p] (t.trans L) M (pZ.new oY O J.reverse) ((xS.one u z).back t)
def ZN(l)S:M3 l S=(l S).map λx=>(.ow (x.1.reverse.map .sh),x.2):=rfl
end Z
namespace HT
open PySem PyProof.Rows
open PySem.SeqAt
open PySem.AutoSeq1 (wpAny_loadPart')
open PySem.MeetsSeq PySem.MeetsSeq2 PySem.MeetsSeq3
def xF:Λ->Λ->Bool
 |_,[]=>false
 | [],_::_=>true
 |x::l,y::n=>if x=y then xF l n else sH x y
def C8(h:Heap)(ps:Δ)(rs:Λ):Prop:=∀(i:Nat) p (r:Ϝ),ps[i]?=some p->rs[i]?=some r->∃vs:Ξ,nR h p vs.toArray/\kx vs r
def Uk r t:PyData.eqv (Mr.uG r) (Mr.uG t)=decide (r=t):=by
 rw[←same_eq_eqv _ _ (by simp[Mr.uG,SeqAt.noMix,W.noMix_ints r t])]
 simp[Mr.uG,PySem.Spec.same,W.same_ints r t]
def row_at(hr:C8 h ps rs){items:Ω}(hi:items.toList=ps.map bM)(hl:ps.length=rs.length)(t:i<items.size):∃p r vs,items[i]?=some (.ref p)/\rs.drop i=r::rs.drop (i+1)/\nR h p vs.toArray/\kx vs r:=by
 have z:ps.length=items.size:=by
  have:=congrArg bJ hi;rw[lMq]at this;exact this.symm
 obtain⟨p,s⟩:∃p,ps[i]?=some p:=⟨_,gEg ∅⟩
 obtain⟨r,l⟩:∃r,rs[i]?=some r:=⟨_,gEg ∅⟩
 obtain⟨vs,a,b⟩:=hr i p r s l;refine⟨p,r,vs,?_,?_,a,b⟩
 .rw[←au,hi,gMq,s];rfl
 .obtain⟨n,e⟩:=gSq.mp l;rw[ax n,e]
def FM l b(items t:Ω)n n2 dd X(sl Y:Array Υ)ps qs rs B(hi:items.toList=ps.map bM)(hj:t.toList=qs.map bM)(lr:ps.length=rs.length)(ls:qs.length=B.length)k :
  ∀i:Nat,min items.size t.size-i=k->i<=items.size->i<=t.size->Meets (Builtin.«list.__eq__.loop» ⟨[.ref l,.ref b,km i,km 0],[]⟩)
   (λA R s=>A.units+32<kE/\C8 s.heap ps rs/\C8 s.heap qs B/\s.heap.get? l=some { cls:=.type "list", dict:=dd,data:=.seq items n,slots:=sl }/\s.heap.get? b=some { cls:=.type "list", dict:=X,data:=.seq t n2,slots:=Y } /\
    R (.ok (.ret (.bool (xF (rs.drop i) (B.drop i))))) s):=by
 have z1:rs.length=items.size:=by
  have:=congrArg bJ hi;rw[lMq,ar]at this;lia
 have z2:B.length=t.size:=by
  have:=congrArg bJ hj;rw[lMq,ar]at this;lia
 induction k with
 |zero=>
  intro i hk h1 h2 prog w A R s h;obtain⟨I,g,d,J,os⟩:=s;obtain⟨hu,ra,rb,hl,hb,h⟩:=h
  wp_walk using wpAny_loadPart' hl,wpAny_loadPart' hb
  have fin:xF (rs.drop i) (B.drop i)=decide (items.size<t.size):=by
   by_cases c:i=items.size
   .have e1:rs.drop i=[]:=bR ∅
    rw[e1]
    by_cases c2:i<t.size
    .rw[ax (by lia:i<B.length)]
     exact(d0 ∅).symm
    .rw[bR (by lia:B.length<=i)]
     exact(d4 ∅).symm
   .have c2:i=t.size:=by lia
    rw[bR (by lia:B.length<=i)]
    have e0:xF (rs.drop i) []=false:=by cases rs.drop i <;> rfl
    rw[e0];exact(d4 ∅).symm
  rw[fin]at h
  by_cases c:i=items.size
  .have Jk:items[((i:Nat):Int).toNat]?=none:=by simp;lia
   rw[Jk]
   wp_walk using wpAny_loadPart' hl,wpAny_loadPart' hb
   exact h
  .have c2:i=t.size:=by lia
   have Jk:items[((i:Nat):Int).toNat]?=some (items[i]'∅):=by simp
   have u:t[((i:Nat):Int).toNat]?=none:=by simp;lia
   rw[Jk,u]
   wp_walk using wpAny_loadPart' hl,wpAny_loadPart' hb
   exact h
 |succ k ih=>
  intro i hk h1 h2 prog w A R s h;obtain⟨I,g,d,J,os⟩:=s;obtain⟨hu,ra,rb,hl,hb,h⟩:=h
  wp_walk using wpAny_loadPart' hl,wpAny_loadPart' hb
  have hlt:i<items.size:=by lia
  have L:i<t.size:=by lia
  obtain⟨p,x,vs,ex,dx,px,ix⟩:=row_at ra hi lr hlt;obtain⟨q,y,ws,ey,dy,py,iy⟩:=row_at rb hj ls L;have Jk:items[((i:Nat):Int).toNat]?=some (.ref p):=by
   rw[←ex];simp
  have u:t[((i:Nat):Int).toNat]?=some (.ref q):=by
   rw[←ey];simp
  have hc:((i:Int)+1)=((i+1:Nat):Int):=by push_cast;rfl
  rw[dx,dy,xF]at h;rw[Jk,u];have he:SeqAt.EqAt A.in1 ⟨I,g,d,J,os⟩ (.ref p) (.ref q) (decide (x=y)):=by
   rw[←Uk];refine eqAt_reads (Mr.uG x) (Mr.uG y) A.in1 ⟨I,g,d,J,os⟩ (.ref p) (.ref q) [p] [q] (W.reads_of_ints px.isList ix) (W.reads_of_ints py.isList iy) (by simp[Mr.uG,PyData.canLay0,W.canLayAll0_ints x]) (by simp[Mr.uG,PyData.canLay0,W.canLayAll0_ints y]) ?_
   have d1:=W.depthAll_ints x;have:(Mr.uG x).depth<=2:=by simp only[Mr.uG,PyData.depth];lia
   show A.units+1+_<kE;lia
  refine jR (he prog w _ _ ?_)
  by_cases e:x=y
  .rw[pO e]at h;rw[d0 e]
   wp_walk
   rw[hc];exact⟨kN plain_eq_loop _,kr entry_eq_loop (by
    rw[Around.under_plainId plain_eq_loop _];exact ih (i+1) ∅ ∅ ∅ prog w A R _ ⟨hu,ra,rb,hl,hb,h⟩)⟩
  .rw[pK e]at h;rw[d4 e];obtain⟨⟨cls,dd3,data,sl3⟩,n3,ho,M,G,O⟩:=px;obtain⟨⟨cls4,dd4,data4,sl4⟩,n4,P,S,H,U⟩:=py;simp only at M G O S H U;subst M G O S H U;have hri:∀(E:Ψ) (Q:Ψ),Q (.bool (sH x y)) ⟨I,g,d,J,os⟩->jW (jU prog w) A.in1 (richCompare .Lt (.ref p) (.ref q)) Q E ⟨I,g,d,J,os⟩:=λE Q z=>
    wpAny_richCompare_same_room (op:=.Lt) (T:= "list") ⟨_,ho,rfl⟩ ⟨_,P,rfl⟩ iV (lS iV ⟨_,ho,rfl⟩ PySem.F.entry_list_lt (PySem.F.args_list_lt_2 _ _) (BI p q vs.toArray ws.toArray n3 n4 none none sl3 sl4 x y (by simpa using ix) (by simpa using iy)) ⟨ho,P,(show jt (sH x y)≠Value.notImplemented/\_ from ⟨λq=>(by cases q),z⟩)⟩) (by show A.units+1<kE;lia)
   wp_walk using wpAny_loadPart' hl,wpAny_loadPart' hb
   rw[Jk,u]
   wp_walk using hri
   exact h
def T7 l b(items t:Ω)n E dd u(sl x:Array Υ)ps z rs B(hi:items.toList=ps.map bM)(G:t.toList=z.map bM)(lr:ps.length=rs.length)(H:z.length=B.length) :
  Meets (Builtin.«list.__lt__» ⟨[.ref l,.ref b],[]⟩)
   (λA R s=>A.units+32<kE/\C8 s.heap ps rs/\C8 s.heap z B/\s.heap.get? l=some { cls:=.type "list", dict:=dd,data:=.seq items n,slots:=sl }/\s.heap.get? b=some { cls:=.type "list", dict:=u,data:=.seq t E,slots:=x } /\
    R (.ok (.ret (.bool (xF rs B)))) s):=by
 intro prog w A R s h;obtain⟨I,J,L,hl,hb,h⟩:=h;have M:=AutoSeq1.sub_list_list
 wp_walk using wpAny_loadPart' hl,wpAny_loadPart' hb
 exact⟨kN plain_eq_loop _,kr entry_eq_loop (by
  exact FM l b items t n E dd u sl x ps z rs B hi G lr H _ 0 rfl (aX _) (aX _) prog w A R _ ⟨I,J,L,hl,hb,h⟩)⟩
theorem CT:∀xs l:Λ,xF xs l=true->xF l xs=false
 |xs,[],h=>by cases xs <;> cases h
 | [],y::l,_=>rfl
 |x::xs,y::l,h=>by
  rw[xF]at h ⊢
  by_cases e:x=y
  .rw[pO e]at h;rw[pO e.symm];exact CT xs l h
  .rw[pK e]at h;rw[pK (λq=>e q.symm)]
   exact Mr.Bv _ _ h
theorem GL:∀l n:Λ,xF l n=false->xF n l=false->l=n
 | [],[],_,_=>rfl
 | [],y::n,h,_=>by cases h
 |x::l,[],_,h=>by cases h
 |x::l,y::n,h1,h2=>by
  rw[xF]at h1 h2
  by_cases e:x=y
  .rw[pO e]at h1;rw[pO e.symm]at h2;rw[e,GL l n h1 h2]
  .rw[pK e]at h1;rw[pK (λq=>e q.symm)]at h2
   exact absurd (Mr.B8 _ _ h1 h2) e
theorem Bg:∀B E t:Λ,xF E B=false->xF t E=false->xF t B=false
 | [],E,t,_,_=>by cases t <;> rfl
 |x::B,[],t,n,_=>by cases n
 |x::B,y::E,[],_,l=>by cases l
 |x::B,y::E,z::t,n,l=>by
  rw[xF]at n l ⊢
  by_cases u:y=x
  .rw[pO u]at n
   by_cases s:z=y
   .rw[pO s]at l;rw[pO (s.trans u)];exact Bg B E t n l
   .rw[pK s]at l;rw[pK (by rw[←u];exact s),←u]
    exact l
  .rw[pK u]at n
   by_cases s:z=y
   .rw[pK (by rw[s];exact u),s]
    exact n
   .rw[pK s]at l
    by_cases G:z=x
    .rw[G]at l;exact absurd (Mr.B8 _ _ n l) u
    .rw[pK G];exact Mr.Ah _ _ _ n l
end HT
namespace Mr
open PySem PySem.Spec PyProof.Rows L2
def WT(x y:Λ):Bool:=!HT.xF y x
def A6(l:List Λ):List Λ:=l.mergeSort WT
def CJ l:(A6 l).Perm l:=gU _ _
def OT x y z(l:WT x y=true)(n:WT y z=true):WT x z=true:=by
 unfold WT at *;rw[hZ]at *;exact HT.Bg _ _ _ l n
def Pt x y:(WT x y || WT y x)=true:=by
 unfold WT;cases h:HT.xF y x with
 |false=>rfl
 |true=>rw[HT.CT _ _ h];rfl
def IJ l:(A6 l).Pairwise (λx y=>HT.xF y x=false):=by
 have:=gf (λa b c=>OT a b c) (λa b=>Pt a b) l
 exact this.imp λh=>by unfold WT at h;rwa [hZ]at h
def Vq(s:n.Perm l)(h:n.Pairwise (λx y=>HT.xF y x=false)):n=A6 l:=
 aE.eq_of_pairwise (λa b _ _ t u=>HT.GL a b u t) h (IJ l) (s.trans (CJ l).symm)
def B4(H:Hp)(p:Addr)(m:Λ):Prop:=∃l,H p=some (.lst (l.map V.ref))/\qS H l m
def mapOf(H:Hp)(p:Addr):Λ:=match H p with
 |some (.lst vs)=>vs.map λv=>match v with|.ref q=>zR H q|_=>[]
 |_=>[]
def B4.eq(h:B4 H p m):mapOf H p=m:=by
 obtain⟨l,n,s⟩:=h;unfold mapOf;rw[n];show(l.map V.ref).map _=m;rw[mPq,s.fn];rfl
theorem B4.same(h:B4 H p m)(s:qd H l):B4 l p m:=by
 obtain⟨n,t,u⟩:=h;exact⟨n,s _ _ t,u.same s⟩
def Oa(H:Hp)(ps:Δ)(l:List Λ):Prop:=l=ps.map (mapOf H)/\∀p∈ps,B4 H p (mapOf H p)
def ltM(r:Addr->Λ)(x y:jS):Bool:=match x.1,y.1 with
 | .ref p,.ref q=>HT.xF (r p) (r q)
 |_,_=>false
def Gf(h:Heap)(p:Addr)(m:Λ):Prop:=∃l:Δ,nR h p (l.map bM).toArray/\HT.C8 h l m/\l.length=m.length
def adt{ps:Δ}(hu:A.units+40<kE)
  (h:∀p∈ps,Gf s.heap p (r p)):MrS.zU prog w A s lg (λx=>∃p,x.1 = .ref p/\p∈ps) (ltM r) where
 ask:=by
  rintro⟨_,x⟩ ⟨_,y⟩ ⟨p,l,O⟩ ⟨q,t,P⟩ E Q k;subst l t;obtain⟨R,⟨o,n,B,S,G,hd⟩,hi,U⟩:=h p O;obtain⟨ws,⟨o2,X,H,I,u,J⟩,Y,lj⟩:=h q P;obtain⟨cls,dd,data,sl⟩:=o;obtain⟨M,dd2,data2,L⟩:=o2;subst S G hd I u J;refine jR (wpAny_cRoomFor ∅ ?_)
  refine jR (mG ⟨_,B,rfl⟩ F.slot_list_lt (lS F.slot_list_lt ⟨_,B,rfl⟩ F.entry_list_lt (F.args_list_lt_2 _ _)
   (HT.T7 p q _ _ n X none none sl L R ws (r p) (r q) ⋯ ⋯ U lj) ⟨?_,hi,Y,B,H,?_⟩))
  .first
    | (lia)
    | (show A.units+1+32<kE;)
    | (show A.units+1+1+32<kE;)
  .exact ku k
 asym:=by
  rintro⟨_,x⟩ ⟨_,y⟩ ⟨a,l,_⟩ ⟨b,t,_⟩ h;subst l t;exact HT.CT _ _ h
 trans:=by
  rintro⟨_,x⟩ ⟨_,y⟩ ⟨_,z⟩ ⟨a,l,_⟩ ⟨b,t,_⟩ ⟨c,e3,_⟩ h1 h2;subst l t e3;exact HT.Bg _ _ _ h1 h2
def Zb{σ:St}(I:Inv X x σ H s)(h:B4 H p m):Gf s.heap p m:=by
 obtain⟨z,B,t⟩:=h;obtain⟨l,n,pl,_⟩:=I.list (rF.of B);have E:=Aj n;subst E;refine⟨z,pl,λi q r G hr=>?_,t.length⟩
 obtain⟨L,u,J⟩:=t.get G;rw[hr]at u;cases u;obtain⟨l,n,pl,_⟩:=I.list (rF.of J);exact⟨l,pl,yX n⟩
def Gf.keep(k:∀b o,h.get? b=some o->h'.get? b=some o)(x:Gf h p m):Gf h' p m:=by
 obtain⟨u,⟨o,n,z,sL⟩,hr,hl⟩:=x;refine⟨u,⟨o,n,k _ _ z,sL⟩,λi q r B s=>?_,hl⟩
 obtain⟨E,⟨G,H,t,l⟩,hi⟩:=hr i q r B s;exact⟨E,⟨G,H,k _ _ t,l⟩,hi⟩
def B1(hu:X.A.units+64<kE):uf X (.builtin "sorted") (λP H Q=>∃a ps G,P=[.ref a]/\rF X.K H a (ps.map V.ref)/\Oa H ps G /\
  ∀p (z:Δ),H p=none->z.Perm ps->z.map (mapOf H)=A6 G->Q (.ref p) (qE H p (.lst (z.map V.ref)))):=by
 intro oE s σ H P us Q I r h;obtain⟨a,ps,G,rfl,Y,⟨hm,hE⟩,q⟩:=h;obtain⟨u,rfl,ru⟩:=vH r;cases ru;obtain⟨its,rv,hl,R⟩:=I.list Y;have ei:=Aj rv;subst ei;have n:∀(B:Shared),(∀b o,s.heap.get? b=some o->B.heap.get? b=some o)->∀p∈ps,Gf B.heap p (mapOf H p):=λB k p t=>(Zb I (hE p t)).keep k
 refine MrS.Bo (Pk:=λx=>∃p,x.1 = .ref p/\p∈ps) (lt:=ltM (mapOf H)) hl.isList (by simpa using R) (λB k=>⟨λh2 Q q=>?_,adt (by show X.A.units+1+1+40<kE;lia) (n B k)⟩) (λv m=>?_) λout h' n' S U o3 o4=>?_
 .refine NB (T:= "list") h2 (λv L=>?_) (by rfl) (by rfl) q
  obtain⟨p,t,rfl⟩:=mMq.mp L;obtain⟨vs,pl,_⟩:=n B k p t;intro A Q E s2 k2 q2;obtain⟨o,M,hc,_⟩:=pl.isList;exact mL (T:= "list") ⟨o,k2 _ _ M,hc⟩ q2
 .obtain⟨p,t,rfl⟩:=mMq.mp m;exact⟨p,rfl,t⟩
 .have M:∀v∈out,∃p∈ps,v = .ref p:=λv m=>by
   obtain⟨p,t,rfl⟩:=mMq.mp (S.mem_iff.mp m);exact⟨p,t,rfl⟩
  have O:out=(out.map vB).map bM:=by
   rw[mPq];have e:=mCq (l:=out) (f:=id) (g:=bM∘vB) λv L=>by
    obtain⟨p,_,rfl⟩:=M v L;rfl
   rw[←e,fv]
  have J:(out.map vB).Perm ps:=by
   have:=S.map vB;rw[mPq,show vB∘bM=id from rfl,fv]at this
   exact this
  have t:H (s.heap.objs.size+1)=none:=I.hok.fresh (bP _);generalize out.map vB=z at O J;have es:z.map (mapOf H)=A6 G:=by
   refine Vq (by rw[hm];exact J.map _) ?_
   rw[bx];rw[O,bx]at U;exact U
  refine⟨.ref (s.heap.objs.size+1),_,I.laid (t':=s.toks) o3 (bP _) (show rq X.prog X.w _ h' _ (.lst (z.map V.ref))from ⟨?_,out,n',?_,o4⟩),rfl,q _ z t J es⟩
  .rw[lMq,J.length_eq];simpa using R
  .rw[O];exact CZ z
end Mr
namespace Z
open PySem L2 Mr
def adj:D->Option Λ
 | .list ds=>yL ds
 |_=>none
def zP:List D->Option (List Λ)
 | []=>some []
 |d::ds=>(adj d).bind λm=>(zP ds).map (m :: ·)
theorem wF:∀l:List Λ,zP (l.map dM)=some l
 | []=>rfl
 |m::l=>by
  show(yL (m.map dI)).bind _=_;rw[AZ,wF l];rfl
theorem Gk:∀{ds}{l},zP ds=some l->ds=l.map dM
 | [],l,h=>by cases h;rfl
 |d::ds,l,h=>by
  obtain⟨m,n,h⟩:=oBq.mp h;obtain⟨r,s,h⟩:=oMq.mp h;cases h;cases d with
  |list t=>
   rw[Gk s,CM (n)];rfl
  |_=>cases n
def Fg(l:ML):MK:=λS=>(l S).bind λx=>(zP x.1).map λn=>(.ow ((A6 n).map λm=>.sh (dM m)),x.2)
def yP(l)S:Fg l S=(l S).bind λx=>(zP x.1).map λn=>(.ow ((A6 n).map λm=>.sh (dM m)),x.2):=rfl
theorem AM:∀{n}{vs},qo K H (n.map dM) vs->∃ps,vs=ps.map V.ref/\Oa H ps n
 | [],vs,h=>⟨[],h.nil_inv,rfl,λp t=>by cases t⟩
 |m::n,vs,h=>by
  obtain⟨v,M,rfl,u,x⟩:=h.cons_inv;obtain⟨ps,rfl,B,E⟩:=AM x;obtain⟨p,O,rfl,G,g2⟩:=u.list_inv;obtain⟨I,rfl,J⟩:=xN g2;have s:B4 H p m:=⟨I,G,J⟩;refine⟨p::ps,rfl,by rw[aw,s.eq,B],λq L=>?_⟩
  rcases aa.mp L with z|z
  .rw[z,s.eq];exact s
  .exact E q z
theorem GT:∀{ps:Δ},(∀p∈ps,B4 H p (mapOf H p))->qo K H ((ps.map (mapOf H)).map dM) (ps.map V.ref)
 | [],_=>qo.nil
 |p::ps,h=>by
  obtain⟨t,n,g2⟩:=h p (ah ..);exact qo.cons (rm.mk_list n (CO g2)) (GT λq s=>h q (mCo _ s))
def JB(hl:SQ K te l):SK K (K2 (λU H Q=>∃a ps t,U=[.ref a]/\rF K H a (ps.map V.ref)/\Oa H ps t /\
  ∀p (u:Δ),H p=none->u.Perm ps->u.map (mapOf H)=A6 t->Q (.ref p) (qE H p (.lst (u.map V.ref)))) (rN te vy)) (Fg l):=by
 intro H₀ B Hf S σ H Fs av S' R e Q q;obtain⟨x,X,e⟩:=oBq.mp e;obtain⟨t,Y,e⟩:=oMq.mp e;cases e;refine hl R X _ λE H1 Fs1 p1 vs1 M z h1 O=>?_
 rw[Gk Y]at O;obtain⟨ps,rfl,hm,G⟩:=AM O;have n:=λp s=>((G p s).same z.sub).eq
 have I:Oa H1 ps t:=⟨by rw[hm];exact mCq λp s=>(n p s).symm,λp s=>by rw[n p s];exact(G p s).same z.sub⟩
 refine⟨p1,ps,t,rfl,h1,I,λp u s P es=>?_⟩
 obtain⟨t4,R4,n1,n2,n3⟩:=z.new s;have J:=λb hb=>G b (P.mem_iff.mp hb)
 have L:u.map (mapOf E)=A6 t:=by rw[←es];exact mCq λb hb=>(n b (P.mem_iff.mp hb)).symm
 have e3:(A6 t).map (λm=>AV.sh (dM m))=((A6 t).map dM).map AV.sh:=by rw[mPq];rfl
 rw[e3]at q;refine q _ _ _ (.ref p) [p] (M.trans t4) R4 (pZ.new oY n1 ?_) ((xS.one z s).back M);rw[←L];exact GT J
end Z
namespace Mr
open PySem L2
open PySem.Spec PyProof.Rows
def M9(ns:Ϝ):Prop:=(∀n∈ns,0<=n/\n<=1000000)/\ns.length<=1000000
theorem QL:∀{ns:Ϝ}{k},(∀n∈ns,0<=n/\n<=k)->0<=ns.sum/\ns.sum<=k*ns.length
 | [],k,_=>by simp
 |n::ns,k,h=>by
  have s:=h n ⋯
  have t:=QL λm l=>h m (mCo _ l)
  have e:k*((ns.length)+1)=k*ns.length+k:=by rw[Int.mul_add,iJ]
  rw[jE,lCq,show((ns.length+1:Nat):Int)=(ns.length)+1 by lia]
  lia
def OL(x:X.calm=true):uf X (.builtin "sum") (λn H Q=>∃a ns,n=[.ref a]/\rF X.K H a (ns.map V.int)/\M9 ns/\Q (.int ns.sum) H):=by
 intro M s σ H n O Q I r h;obtain⟨a,ns,rfl,z,⟨hb,P⟩,q⟩:=h;obtain⟨u,rfl,B⟩:=vH r;cases B;obtain⟨R,hl,hi,_⟩:=BM I z;obtain⟨n,e⟩:=hi.allInts.items;have l:ns=n.toList.map (·.1):=by
  rw[←hi.numsOf,←nums_intItems,←e]
 have t:n.size=ns.length:=by rw[l,lMq,ar]
 rw[e]at hl;have E:∀j,0<=preSum (numAt n) j/\preSum (numAt n) j<=1000000*1000000:=λj=>by
  rw[preSum_eq,←l];have S:=QL (ns:=ns.take j) λm G=>hb m (bQ G)
  have U:(ns.take j).length<=ns.length:=by rw[lTq];lia
  lia
 refine sum_intList (I.ok.hd x) hl (λj J=>⟨?_,?_⟩) λY tk L hk=>?_
 .rw[numAt_eq,←l];have:=hb _ (PySem.getD_mem (by rw[←t];exact J))
  unfold InLong;lia
 .have:=E (j+1);unfold InLong;lia
 .refine⟨.int _,H,I.kept hk,⟨L,rfl⟩,?_⟩;rw[preSum_eq,←l,t,aK];exact q
end Mr
namespace Z
open PySem L2 Mr Xe
def Th(f:D->D->Option D)(m b:ME):ME:=λS=>(m S).bind λx=>(b x.2).bind λy=>(f x.1 y.1).bind λd=>if d.scal then some (d,y.2)else none
def aeL(i:Nat)(g:Int->Int->Int)(b:ME):MS:=λS=>(oH i S).bind λx=>(intOf x.1).bind λa=>(b x.2).bind λy=>(intOf y.1).map λc=>.nx (y.2.set i (i0 (g a c)))
def Fx(i:Nat)(s:MP)(t:ME):MS:=λS=>(s S).bind λx=>(qO x.2 i).bind λl=>(qH (.ow l) x.1).bind λn=>(t (x.2.set i none)).bind λy=>vx (y.2[i]?=some none/\n.length<qM) (some (.nx (y.2.set i (some (putAt (.ow l) x.1 (n++[.sh y.1]))))))
def aeg(g:MF)(f:MFx)(a:MA):MX:=λS=>(a S).bind λx=>(f (x.1.map oN)).bind (abm λr=>(g [oN r]).map λz=>.ok (.rt z))
def WS:List D->Option D
 | [.list ds]=>(rz ds).bind λns=>vx (M9 ns) (some (.int ns.sum))
 |_=>none
def aa2(hr:EJ K r f)(ha:SM K n m)(hb:SR K s b):SM K (Xb r n s) (Th f m b):=by
 intro H₀ l Hf S σ H U d X R e Q q;obtain⟨x,B,e⟩:=oBq.mp e;obtain⟨y,E,e⟩:=oBq.mp e;obtain⟨z,G,e⟩:=oBq.mp e;split at e
 .rename_i hs;cases e;refine ha R B _ λI Y Fs1 v1 J t L=>hb t E _ λM H2 Fs2 v2 u R2 O=>?_
  exact hr ((L.mono t.sub).mono u.sh) O G λv P=>q _ _ _ v (J.trans u.sf) R2 (P.scal hs)
 .cases e
def Zf:Ry K (λs H Q=>∃a ns,s=[.ref a]/\rF K H a (ns.map V.int)/\M9 ns/\Q (.int ns.sum) H) WS:=by
 intro z H Q B d r e q;unfold WS at e;split at e
 .obtain⟨v,E,rfl,l,t⟩:=r.cons_inv;rw[t.nil_inv];obtain⟨ns,u,e⟩:=oBq.mp e;rcases pJ e with⟨hs,e⟩|e
  .cases e;rw[uV u]at l;obtain⟨p,G,rfl,n,x⟩:=l.list_inv;rw[rX x]at n;exact⟨p,ns,rfl,rF.of n,hs,q _ .int⟩
  .cases e
 .cases e
def acf(S)f m b:Th f m b S=(m S).bind λx=>(b x.2).bind λy=>(f x.1 y.1).bind λd=>if d.scal then some (d,y.2)else none:=rfl
def VN(S)i n s:Fx i n s S=(n S).bind λx=>(qO x.2 i).bind λl=>(qH (.ow l) x.1).bind λt=>(s (x.2.set i none)).bind λy=>vx (y.2[i]?=some none/\t.length<qM) (some (.nx (y.2.set i (some (putAt (.ow l) x.1 (t++[.sh y.1])))))):=rfl
end Z
local macro_rules|`(tactic|simp_arith $c:optConfig [$ls,*]$[$l:location]?)=>do let x:=("wL ab9 aa0 abG ab0 ach abE abe aaL adK adb ace rC_ ac1 ac9 aaR ZV abF aap adE abo Wt abb Zn YT VW abR abg ab7 Yb Y9 PQ acT adI acZ YF Yz YC Vs Sf RS aaV ab8 Yw acj ac5 aaN aaY aam JS OO Ss Zx Z3 ack Xm Yp YJ Y6 aaX ado Oe MM S9 Oq Yh U7 Vo Xf Ui adG abk YV X6 adx XY X5 abA W9 Zc aai abQ Tj V7 Qt RE Va UT U1 QM W4 Vi Ym aat Zy p57 p59 p60 Ca Iv Vm Vk Vv HI VG VP DT PB Uj Um Hg R6 Ws Xd Tc U5 Rl PN uk rM OB abC rp AZ PR gt1 gt2 gt3 gt4 st1 EZ st3 st4 Ye Zs Rm Yv YX aaz YR YE Vr UZ Zu abf acY abU ab6 ZM VY aaS V6 Md Vy Ww WH aar acf VN".splitOn.map (Lean.Name.str `_root_.Z)++"getElem?_cons_zero set_cons_zero length_cons length_nil map_cons map_nil nil_append cons_append length_map replicate_zero append_nil reduceReplicate".splitOn.map (Lean.Name.str `List)++"Option.join_some Option.map_some Option.bind_some Bool.not_true Bool.not_false Bool.false_eq_true decide_true decide_false Nat.zero_add Nat.reduceAdd Nat.reduceSub Nat.reduceEqDiff Nat.reduceLeDiff reduceCtorEq".splitOn.map String.toName).toArray.map Lean.mkIdent;`(tactic|simp $c:optConfig only[$[$x:ident],*,↓reduceIte,$ls,*]$[$l:location]?)
namespace Z
open PySem L2 Mr Xe
noncomputable def xK(x y:Nat)(body:MS):List D->AS->Option IC
 | [],S=>some (.nx S)
 | .tup [a,b]::ds,S=>(body ((S.set x (some (.sh a))).set y (some (.sh b)))).bind λo=>match o with
  | .nx S'=>xK x y body ds S'
  | .ct S'=>xK x y body ds S'
  | .bk S'=>some (.nx S')
  | .rt a=>some (.rt a)
 |_,_=>none
def RP(x y:Nat)(k:MK)(body:MS):MS:=λS=>(sr k S).bind λz=>(qL (oN z.1)).bind λds=>xK x y body ds z.2
def U8(hk:SK K te k)(hb:SS K tb body):SS K (Ii (Gh K te) (Lb K 2 (ya (rA x) (ya (rA y) KH))) tb) (RP x y k body):=by
 intro H₀ Hf₀ Hf S σ H Fs o R e D h;obtain⟨z,e1,e⟩:=oBq.mp e;obtain⟨ds,e2,e⟩:=oBq.mp e;have X:SK K te (sr k):=SK.frz hk;refine X R e1 _ λG H1 Fs1 v F t1 R1 r1 o1=>?_
 obtain⟨d,hd⟩:=ui (te:=te) e1;rw[hd]at r1;rw[hd]at e2;obtain⟨a,vs,rfl,g1,g2⟩:=tU e2 r1.sh_inv.2;refine⟨a,rfl,⟨vs,R1.sub.seq g1⟩,EO (λi n P=>∃l I s,qi K H₀ Hf₀ l I n P s/\qd G l/\xK x y body (ds.drop i) I=some o) ⟨G,z.2,Fs1,R1,.refl _,e⟩
  (λi n P _ ⟨l,I,s,E,B,_⟩=>E.sub.seq (B.seq g1)) ?_ ?_⟩
 .rintro i w n P hw ⟨l,I,s,E,B,t⟩;obtain⟨di,J,Y⟩:=g2.get' hw;have hlt:=(gSq.mp J).1;rw[ax hlt]at t;have L:=(gSq.mp J).2;rw[L]at t;unfold xK at t;split at t
  .rename_i q;cases q
  .rename_i a1 b1 ds' S1 q;obtain⟨q1,q2⟩:=ji.inj q;subst q1;subst q2;obtain⟨ob,e3,Q⟩:=oBq.mp t;obtain⟨p,us,rfl,h1,h2⟩:=(Y.mono B).tup_inv;obtain⟨v1,ws,rfl,h3,h4⟩:=h2.cons_inv;obtain⟨v2,ws2,rfl,h5,h6⟩:=h4.cons_inv;cases h6.nil_inv;refine⟨p,_,rfl,DG.of (E.sub _ _ h1),rfl,_,_,rfl,_,_,rfl,rfl,hb ((E.setD x h3).setD y h5) e3 _ ?_⟩;cases ob with
   |nx U=>exact λu M H2 Fs2 O R2=>⟨u,U,Fs2,R2,B.trans O,Q⟩
   |ct U=>exact λu M H2 Fs2 O R2=>⟨u,U,Fs2,R2,B.trans O,Q⟩
   |bk U=>cases Q;exact λu M H2 Fs2 O R2=>h _ _ _ _ ((t1.sf.trans B).trans O) R2
   |rt a=>cases Q;exact h
  .cases t
 .rintro n P ⟨l,I,s,E,B,t⟩;rw[←g2.1,cO]at t;cases t;exact h _ _ _ _ (t1.sf.trans B) E
def T9(x y)k body S:RP x y k body S=(sr k S).bind λz=>(qL (oN z.1)).bind λds=>xK x y body ds z.2:=rfl
end Z
namespace Mo
open PySem PyProof.Rows Mr
section
variable {K:Type}[DecidableEq K]
noncomputable def fz(ks:List K)(ws:Ξ)(j:Nat):List (K×Value):=((ks.zip ws).take j).foldl (λm p=>stored m p.1 p.2) []
end
end Mo
namespace Z
open PySem L2 Mr
def dz(ns l:Ϝ):List (pQ×D):=(ns.zip l).foldl (λm p=>xC m (.inl p.1) (.int p.2)) []
end Z
namespace Z
open PySem L2 Mr Xe
def SW(K:Ζ)(te:TE)(m:MK):Prop:=∀{H₀ l Hf}{S}{σ}{H}{u}{a}{S'},qi K H₀ l Hf S σ H u->m S=some (a,S')->∀Q:VK,
 (∀n t s v F,qd Hf n->qi K H₀ l n S' σ t s->pZ K n t a v F->F.Nodup->(∀q∈F,H₀ q=none/\q∉s.flatten)->Q v t)->te σ H Q
end Z
namespace Ms
open PySem
def Up(l:Array Nat):Prop:=∀a b u v:Nat,l[a]?=some u->l[b]?=some v->a<b->u<v
def Up.list(h:l.toList.Pairwise (· < ·)):Up l:=λa b u v ha hb hl=>by
 rw[←au]at ha hb;obtain⟨la,n⟩:=gSq.mp ha;obtain⟨lb,s⟩:=gSq.mp hb;have:=cc.mp h a b la lb hl;rw[n,s]at this;exact this
def Up.pw(h:Up l):l.toList.Pairwise (· < ·):=cc.mpr λa b la lb hl=>h a b _ _ (by rw[←au];exact gEg la) (by rw[←au];exact gEg lb) hl
theorem Ek(hs:Up l):∀fuel lo hi,hi-lo<=fuel->lo<=hi->hi<=l.size->(∀k v,l[k]?=some v->k<lo->v<j)->(∀k v,l[k]?=some v->hi<=k->j<=v) ->
  ∃i,SetTable.below.go l j fuel lo hi=i/\i<=l.size/\(∀k v,l[k]?=some v->k<i->v<j)/\∀k v,l[k]?=some v->i<=k->j<=v
 |0,lo,hi,x,hl,hh,n,s=>⟨lo,by rw[SetTable.below.go],by lia,n,λk v e hk=>s k v e ∅⟩
 |fuel+1,lo,hi,x,hl,hh,n,s=>by
  rw[SetTable.below.go]
  by_cases c:lo<hi
  .rw[pO c];have t:(lo+hi) / 2<l.size:=by lia
   have u:=ag t;have z:l.getD ((lo+hi) / 2) j=l[(lo+hi) / 2]'t:=by simp[gj,t]
   show ∃i,(if l.getD ((lo+hi) / 2) j<j then SetTable.below.go l j fuel ((lo+hi) / 2+1) hi else SetTable.below.go l j fuel lo ((lo+hi) / 2))=i/\_
   rw[z]
   by_cases d:l[(lo+hi) / 2]'t<j
   .rw[pO d];refine Ek hs fuel _ _ ∅ ∅ hh (λk v e hk=>?_) s
    by_cases q:k=(lo+hi) / 2
    .subst q;rw[u]at e;cases e;exact d
    .exact jf (hs _ _ _ _ e u ∅) d
   .rw[pK d];refine Ek hs fuel _ _ ∅ ∅ ∅ n λk v e hk=>?_
    by_cases q:k=(lo+hi) / 2
    .subst q;rw[u]at e;cases e;lia
    .have:=hs _ _ _ _ u e ∅
     lia
  .rw[pK c];exact⟨lo,rfl,by lia,n,λk v e hk=>s k v e ∅⟩
def Cu(hs:Up l)j:SetTable.below l j<=l.size/\(∀k v,l[k]?=some v->k<SetTable.below l j->v<j)/\∀k v,l[k]?=some v->SetTable.below l j<=k->j<=v:=by
 obtain⟨i,e,n,s,t⟩:=Ek hs l.size 0 l.size ∅ (aX _) (af _) (λk v _ hk=>absurd hk (cG _)) (λk v e hk=>by
  have:=(bo.mp e).1;lia)
 have:SetTable.below l j=i:=e;rw[this];exact⟨n,s,t⟩
def Mh(hs:Up l)(h:l[i]?=some v):SetTable.below l (v+1)=i+1:=by
 obtain⟨t,n,s⟩:=Cu hs (v+1);generalize SetTable.below l (v+1)=b at t n s
 by_cases c:b<=i
 .have:=s i v h c;lia
 .by_cases d:i+1<b
  .have hb:i+1<l.size:=by lia
   have e:=ag hb;have a:=n _ _ e d;have:=hs _ _ _ _ h e (dC i);lia
  .lia
def KQ(hs:Up l):SetTable.below l 0=0:=by
 obtain⟨s,n,t⟩:=Cu hs 0;generalize SetTable.below l 0=b at s n t
 by_cases c:b=0
 .exact c
 .have hb:0<l.size:=by lia
  have:=n 0 _ (ag hb) ∅
  lia
def P1(hs:Up n)(hn:∀k:Nat,n[k]? ≠ some j):Up (SetTable.insertAt n (SetTable.below n j) j):=by
 refine Up.list ?_;rw[SetTable.toList_insertAt];obtain⟨G,x,B⟩:=Cu hs j;have t:=hs.pw;rw[aU];refine⟨t.sublist (bB _ _),fh.mpr ⟨λv s=>?_,t.sublist (cw _ _)⟩,λu E v s=>?_⟩
 .obtain⟨k,hk⟩:=ay.mp s;rw[cV,au]at hk;have a:=B _ v hk ∅
  have:v≠j:=λz=>hn _ (z ▸ hk)
  lia
 .obtain⟨k,hk⟩:=ay.mp E;rw[je]at hk;split at hk
  .rename_i q;rw[au]at hk;have a:=x k u hk q;rcases aa.mp s with z|z
   .rw[z];exact a
   .obtain⟨H,l⟩:=ay.mp z;rw[cV,au]at l;exact hs _ _ _ _ hk l ∅
  .cases hk
def Y0:Up #[]:=λa b u v h=>by simp at h
def UF n:Up (Array.range n):=λa b u v ha hb hl=>by
 rw[Array.getElem?_range]at ha hb;split at ha <;> split at hb
 .cases ha;cases hb;exact hl
 .cases hb
 .cases ha
 .cases ha
structure Tb (led:Bool)(t:SetTable):Prop where
 up:Up t.place
 dm:t.dummies=#[]
 led:t.led=led
theorem Tb.fresh led:Tb led (.fresh 0 0 led):=⟨Y0,rfl,rfl⟩
theorem Tb.standIn{led}(h:Tb led t)n:Tb led (t.standIn n):=⟨UF n,rfl,h.led⟩
theorem Tb.orStandIn{led}(h:Tb led t)n:Tb led (t.orStandIn n):=by
 unfold SetTable.orStandIn;split
 .exact h
 .exact h.standIn n
theorem Tb.plain{led}(h:Tb led t)b:Tb led { t with plain:=b }:=⟨h.up,h.dm,h.led⟩
theorem Fu(hd:t.dummies=#[]):∀fuel p m,p.dummy=none->SetTable.probe.go t (λ_=>h+1) h fuel p=some m->∃j,m = .empty j none/\t.slot j = .empty
 |0,p,m,_,e=>by cases e
 |fuel+1,p,m,n,e=>by
  rw[SetTable.probe.go]at e;have l:(t.advance p).dummy=none:=by
   unfold SetTable.advance;split <;> exact n
  cases hs:t.slot p.j with
  |empty=>
   rw[hs]at e;cases e;exact⟨p.j,by rw[n],hs⟩
  |dummy=>
   unfold SetTable.slot at hs;simp only at hs;split at hs
   .cases hs
   .split at hs
    .rename_i q;unfold SetTable.has at q;rw[hd]at q;simp at q
    .cases hs
  |live i=>
   rw[hs]at e;have:((h+1) == h)=false:=by
    rw[beq_eq_false_iff_ne];lia
   simp only[this,cK,if_false]at e;exact Fu hd fuel _ m l e
def OH{t:SetTable}(hs:Up t.place)(h:t.slot j = .empty):∀k:Nat,t.place[k]? ≠ some j:=by
 intro k hk;obtain⟨s,l,n⟩:=Cu hs j;unfold SetTable.slot at h;simp only at h;have hi:=(bo.mp hk).1;have e:k=SetTable.below t.place j:=by
  rcases hW k (SetTable.below t.place j)with c|c|c
  .have:=l k j hk c;lia
  .exact c
  .have hb:=ag (jf c hi);have a:=n _ _ hb (af _);have:=hs _ _ _ _ hb hk c;lia
 rw[←e,hk]at h;simp at h
def YY(h:Tb led t)l hh x:Tb led (layNew t l hh x).2.1:=by
 unfold layNew;split
 .rename_i slot wd e;refine Tb.orStandIn ?_ _;unfold SetTable.freeSlot at e;split at e
  .rename_i j d n;obtain⟨B,s,u⟩:=Fu h.dm _ _ _ rfl n;cases s;cases e;have z:=OH h.up u;refine⟨P1 h.up z,?_,h.led⟩;show(if SetTable.has t.dummies j then SetTable.eraseAt t.dummies (SetTable.below t.dummies j)else t.dummies)=#[]
   rw[h.dm];rfl
  .cases e
 .exact h.standIn _
def S8(h:Tb led t)u n:Tb led (nc t u n).2.1:=by
 unfold nc;split
 .rename_i G l e;dsimp only;split
  .obtain⟨ow,H,z⟩:=oBq.mp e;cases z;refine⟨Up.list ?_,rfl,h.led⟩;rw[bx,List.pairwise_filterMap];refine bu.imp ?_ gu;intro a b s x B y E;obtain⟨_,_,rfl⟩:=oMq.mp B;obtain⟨_,_,rfl⟩:=oMq.mp E;exact s
  .exact h.standIn _
 .exact h.standIn _
end Ms
namespace Ms
open PySem PyProof.Rows Mr
def SI(prog:jZ)(w:ke)(h:Heap)(a:Addr)(F:Ϝ):Prop:=
 ∃o l ep t,h.get? a=some o/\o.ExactSet/\o.data = .set l ep t/\ElemsOf (lC prog w) l.toList/\(∀e∈l.toList,∃k u,e.2 = .int k u)/\(l.toList.map λe=>Mr.intOf e.2).Perm F/\l.size<lK/\t.fits l.size=true/\Tb (!w.params.followText "set-order") t
noncomputable def Ad(F:Ϝ)(k:Int):Ϝ:=if k∈F then F else F++[k]
section
variable {E:Ψ}
def SI.keep(x:SI prog w h a F)(k:∀o,h.get? a=some o->h'.get? a=some o):SI prog w h' a F:=by
 obtain⟨o,l,n,t,u,r⟩:=x;exact⟨o,l,n,t,k o u,r⟩
def JK{h:Heap}(u:h.get? a=some o)(hd:o.data = .set n ep t)l t' :
  (h.update a (Obj.putSet l t')).get? a=some { o with data:=.set l (ep+1) t' }:=by
 have:=fA (Obj.putSet l t') u (by rw[putSet_of l t' hd];rfl)
 rw[putSet_of l t' hd]at this;exact this
def aaC(hS:SI prog w s.heap a F)(Y:F.length+1<lK)
  (h:∀b h',cD a s.heap h'->SI prog w h' a (Ad F k)->Q b { s with heap:=h' }) :
  jW (jU prog w) A (setAddHashed a (.int k u) ((lC prog w).hash k)) Q E s:=by
 obtain⟨o,I,ep,t,ho,hex,hd,J,M,hp,hb,hf,hT⟩:=hS;have P:=nX prog w k u;have hsz:I.size=F.length:=by
  have:=hp.length_eq
  rwa [lMq,ar]at this
 have his:∀e∈I.toList,(lC prog w).is k e.2=true->Mr.intOf e.2=k:=λe S hk=>by
  obtain⟨m,v,ev⟩:=M e S;rw[ev]at hk ⊢;exact(lC prog w).inj _ _ _ (nX prog w m v) hk
 unfold setAddHashed setAddHashedIn;refine kM (jR (kC ho hd hf ?_));dsimp only;rw[byScan_of (knd:=lC prog w) rfl hb J];simp only[↓reduceIte];unfold setAddByScan;refine jR ?_;refine jR (nW ?_);refine jR (wpAny_setScan_of P ho hd hf J ?_);cases hr:List.findIdx? (λe=>(lC prog w).is k e.2) I.toList with
 |some j=>
  dsimp only;obtain⟨hj,hpj,_⟩:=List.findIdx?_eq_some_iff_getElem.mp hr;have hm:k∈F:=hp.mem_iff.mp (mMq.mpr ⟨_,gRq hj,his _ (gRq hj) hpj⟩);refine jT (jT ?_);have e:s={ s with heap:=s.heap }:=by cases s;rfl
  rw[e];refine h _ s.heap (cD.refl a s.heap) ?_;unfold Ad;rw[pO hm];exact⟨o,I,ep,t,ho,hex,hd,J,M,hp,hb,hf,hT⟩
 |none=>
  dsimp only;have hm:k∉F:=λz=>by
   obtain⟨e,S,ek⟩:=mMq.mp (hp.mem_iff.mpr z);have:=List.findIdx?_eq_none_iff.mp hr e S;obtain⟨m,v,ev⟩:=M e S;rw[ev]at ek this;have ek':m=k:=ek;rw[ek',nX]at this;cases this
  have hgw:∀(b:Bool) {z:Shared}{Q':Unit->Shared->Prop},Q' () z->jW (jU prog w) A (match b with|true=>rule "set.scan.the-table-gave-way" |false=>pure ()) Q' E z:=λb z Q' hq=>by cases b <;> first|exact jT hq|exact nW hq
  have n:=layNew_perm t I ((lC prog w).hash k) (.int k u);have x:=layNew_fits t I ((lC prog w).hash k) (.int k u);have H:=YY hT I ((lC prog w).hash k) (.int k u);generalize hL:layNew t I ((lC prog w).hash k) (.int k u)=L at n x H ⊢;obtain⟨l,t1,G,gave⟩:=L;dsimp only at n x H ⊢;rw[dR]at n;have U:ElemsOf (lC prog w) l.toList:=(J.push P rfl).perm n;have X:∀e∈l.toList,∃k u,e.2 = .int k u:=λe S=>by
   rcases mAq.mp (n.mem_iff.mp S)with z|z
   .exact M e z
   .rw[mSq.mp z];exact⟨k,u,rfl⟩
  have hp1:(l.toList.map λe=>Mr.intOf e.2).Perm (Ad F k):=by
   unfold Ad;rw[pK hm];refine(n.map _).trans ?_;rw[mBq];exact hp.append_right _
  have hz1:l.size=I.size+1:=by
   have:=n.length_eq
   rwa [lAq,ar,ar]at this
  have O:l.size<lK:=by rw[hz1,hsz];exact Y
  refine jR (hgw _ ?_);have fin:∀{B:SetTable},B.fits l.size=true->Tb (!w.params.followText "set-order") B->∀{R:Option Bool->Shared->Prop},(∀h',cD a s.heap h'->SI prog w h' a (Ad F k)->R (some true) { s with heap:=h' }) ->
    jW (jU prog w) A (do
     storeSet a l B
     if (!G && B.tooFull)=true then do
       (match (nc B l (SetTable.grown l.size)).2.2 with|true=>rule "set.scan.the-table-gave-way" |false=>pure ())
       storeSet a (nc B l (SetTable.grown l.size)).1 (nc B l (SetTable.grown l.size)).2.1
       pure (some true)
      else pure (some true)) R E s:=by
   intro B hf2 hT2 R hR;refine jR (wpAny_storeSet_of ho hd ?_ (mR O));have g1:=JK ho hd l B;have sb1:=cD.update s.heap a (Obj.putSet l B);split
   .have q1:=relayAll_perm B l (SetTable.grown l.size);have q2:=relayAll_fits B l (SetTable.grown l.size);have q3:=S8 hT2 l (SetTable.grown l.size);generalize nc B l (SetTable.grown l.size)=V at q1 q2 q3 ⊢;obtain⟨es2,t3,gv⟩:=V;dsimp only at q1 q2 q3 ⊢;have hz2:es2.size=l.size:=by
     have:=q1.length_eq
     rwa [ar,ar]at this
    refine jR (hgw _ ?_);refine jR (wpAny_storeSet_of g1 rfl ?_ (mR (by rw[hz2];exact O)))
    have g2:=JK g1 rfl es2 t3;exact jT (hR _ (sb1.trans (cD.update _ a _)) ⟨_,es2,_,t3,g2,hex,rfl,U.perm q1,λe S=>X e (q1.mem_iff.mp S),(q1.map _).trans hp1,by rw[hz2];exact O,q2,q3⟩)
   .exact jT (hR _ sb1 ⟨_,l,_,B,g1,hex,rfl,U,X,hp1,O,hf2,hT2⟩)
  split
  .refine jR ?_;refine jT ?_;refine fin ?_ ?_ λh' sb hS'=>?_
   .split
    .exact x
    .exact SetTable.fits_plain_off x
   .split
    .exact H
    .exact H.plain false
   .exact jT (h _ h' sb hS')
  .refine fin x H λh' sb hS'=>?_
   exact jT (h _ h' sb hS')
end
def dd(ns:Ϝ):Ϝ:=ns.foldl Ad []
def WX(ns)k:dd (ns++[k])=Ad (dd ns) k:=by
 unfold dd;rw[ij];rfl
def Q9(F)k:(Ad F k).length<=F.length+1:=by
 unfold Ad;split
 .lia
 .simp
def Re:x∈Ad F k↔x∈F∨x=k:=by
 unfold Ad;split
 .rename_i h;exact⟨.inl,λq=>q.elim id λq=>q ▸ h⟩
 .simp
def V1(h:F.Nodup):(Ad F k).Nodup:=by
 unfold Ad;split
 .exact h
 .rename_i q;rw[nAq];exact⟨h,by simp,λx l y n z=>q (by rw[mSq.mp n]at z;rw[←z];exact l)⟩
theorem BV:∀(ns F:Ϝ),(ns.foldl Ad F).length<=F.length+ns.length/\(∀x,x∈ns.foldl Ad F↔x∈F∨x∈ns)/\(F.Nodup->(ns.foldl Ad F).Nodup)
 | [],F=>⟨by simp,by simp,λh=>h⟩
 |n::ns,F=>by
  obtain⟨t,l,s⟩:=BV ns (Ad F n);have:=Q9 F n;rw[dh,lCq];refine⟨by lia,λx=>?_,λh=>s (V1 h)⟩
  rw[l x,Re,aa,or_assoc]
def Mm ns:(dd ns).length<=ns.length:=by
 have:=(BV ns []).1;simpa[dd]using this
def Rf:x∈dd ns↔x∈ns:=by
 have:=(BV ns []).2.1 x;simpa[dd]using this
def abn ns:(dd ns).Nodup:=(BV ns []).2.2 bb
section
variable {E:Ψ}{vs:Ξ}{ns:Ϝ}
def QY(hh:A.handled=none)(hi:kx vs ns)(L:l≠I)(t:S≠I)(M:S≠l)(hb:ns.length+1<lK):∀k j z,vs.length-j=k->j<=vs.length->z.heap.IsListIter I l j->z.heap.IsList l vs.toArray->SI prog w z.heap S (dd (ns.take j)) ->
  (∀h' G,SI prog w h' S (dd ns)->(∀b o,b≠I->b≠S->z.heap.get? b=some o->h'.get? b=some o)->R (.ok (.ret .none)) { z with heap:=h',toks:=G }) ->
  kZ (jU prog w) A (.builtin "set.update.loop" ⟨[.ref S,.ref I],[]⟩) R z:=by
 have W:=Walks.list (prog:=prog) (w:=w) (A:=A.in1) hh I l L vs.toArray;have vl:vs.toArray.size=vs.length:=aH ..;have hln:=hi.length;intro k
 induction k with
 |zero=>
  intro j z hk hj x O H P;have Q:j=vs.toArray.size:=by rw[vl];lia
  refine kr PyProof.Rows.F.entry_set_update_loop ?_;rw[Around.under_plainId PyProof.Rows.F.plain_set_update_loop _];show jW _ A.in1 (mB (.ref I) >>= _) _ _ z;refine jR (W.done z _ _ ⟨Q ▸ x,O⟩ λh' G kp=>?_)
  show jW _ A.in1 (ret iz) _ _ _;refine jT (P h' G ?_ λb o J _ e=>kp b o (by simpa using J) e)
  rw[cf ∅]at H
  exact H.keep λo e=>kp S o (by simpa using t) e
 |succ k ih=>
  intro j z hk hj x O H P;have U:j<vs.toArray.size:=by rw[vl];lia
  refine kr PyProof.Rows.F.entry_set_update_loop ?_;rw[Around.under_plainId PyProof.Rows.F.plain_set_update_loop _];show jW _ A.in1 (mB (.ref I) >>= _) _ _ z;refine jR (W.item j z _ _ U ⟨x,O⟩ λv h' G hP EZ kp=>?_)
  obtain⟨n,hn⟩:∃n,ns[j]?=some n:=⟨_,gEg ∅⟩
  obtain⟨u,hu⟩:=hi.get j n hn;have hv:vs[j]?=some v:=by simpa using hP
  rw[hu]at hv;cases hv;have X:SI prog w h' S (dd (ns.take j)):=H.keep λo e=>kp S o (by simpa using t) e
  show jW _ A.in1 (holding [gg n u] (setAdd S (.int n u)) >>= _) _ _ _;refine jR (kM ?_);unfold setAdd;refine kM ?_;refine jR ((lC prog w).pyHash (k:=n) (nX _ _ _ _) ?_);have Y:(dd (ns.take j)).length+1<lK:=by
   have a:=Mm (ns.take j);rw[lTq]at a;lia
  refine aaC X Y λb h2 sb B=>?_
  have ht:ns.take (j+1)=ns.take j++[n]:=by rw[bG,hn];rfl
  rw[←WX,←ht]at B;refine jT ⟨kN PyProof.Rows.F.plain_set_update_loop _,ih (j+1) _ ∅ ∅ (EZ.1.extBut sb.extBut (Ne.symm t)) (EZ.2.extBut sb.extBut (Ne.symm M)) B λh3 tk3 hS3 kp3=>?_⟩
  exact P h3 tk3 hS3 λb o J nS e=>kp3 b o J nS (sb.extBut b o nS (kp b o (by simpa using J) e))
def Qx a{Q1:Ψ}
  (h:Q1 (.ref s.heap.objs.size) { s with heap:=s.heap.push { cls:=.type "set", dict:=none,data:=.set #[] 0 (.fresh 0 0 (!w.params.followText "set-order")) } }) :
  kZ (jU prog w) A (.call (.builtin "set.__new__") ⟨[.type "set", a],[]⟩) (wants Q1 E) s:=by
 refine codeAny_of_tree ?_;show jW _ A.in1 (do checkBuiltinCall "set.__new__" ⟨[.type "set", a],[]⟩;again (.builtin "set.__new__" ⟨[.type "set", a],[]⟩)) _ _ s
 refine jR (om (PySem.F.newCall_set_1 a) (jT ⟨kN iN _,kr PySem.F.entry_set_new ?_⟩));rw[Around.under_plainId iN _];unfold Builtin.«set.__new__» Builtin.Frozenset.newClass;have n:=sub_set_self;obtain⟨t,g,d,u,os⟩:=s
 wp_walk
 refine mZ (jT ?_);refine jR (wpAny_alloc (jT ?_));exact jT h
theorem SI.fresh(t:h.get? a=some { cls:=.type "set", dict:=none,data:=.set #[] 0 (.fresh 0 0 (!w.params.followText "set-order")) }):SI prog w h a []:=
 ⟨_,#[],0,_,t,⟨rfl,rfl,rfl⟩,rfl,λe n=>by simp at n,λe n=>by simp at n,.refl _,by decide,rfl,Tb.fresh _⟩
def UE{Q:Ψ}(hh:A.handled=none)(hl:s.heap.IsList l vs.toArray)(hi:kx vs ns)(hb:ns.length+1<lK)
  (h:∀h' x,SI prog w h' s.heap.objs.size (dd ns)->(∀b o,s.heap.get? b=some o->h'.get? b=some o)->Q (.ref s.heap.objs.size) { s with heap:=h',toks:=x }) :
  jW (jU prog w) A (call (.type "set") [.ref l]) Q E s:=by
 obtain⟨c,tl,hmro⟩:=cW.mro;have O:=cW.made;have hsub:=cW.sub;refine wpAny_call (codeAny_of_tree ?_);show jW _ _ (callAny (.type "set") _) _ _ _;refine jT ⟨Code.quiet_builtin _ (by trivial),kr PySem.F.entry_type_call ?_⟩
 rw[Around.under_plain (weight_type_call_type "set" [.ref l] []) rfl];have h1:=cW.notType;have h2:=cW.canCreate;have hct:=PySem.F.typeCall_set_1 (.ref l)
 repeat (any_goals (first|assumption|wp_step))
 generalize n:s.heap.push { cls:=.type "set", dict:=none,data:=.set #[] 0 (.fresh 0 0 (!w.params.followText "set-order")) }=t;have P:t.objs.size=s.heap.objs.size+1:=by rw[←n];exact iT ..
 have k1:∀b o,s.heap.get? b=some o->t.get? b=some o:=λb o e=>by rw[←n];exact ai _ e
 have o1:t.get? s.heap.objs.size=some { cls:=.type "set", dict:=none,data:=.set #[] 0 (.fresh 0 0 (!w.params.followText "set-order")) }:=by rw[←n];exact aD _ rfl
 refine mN (Qx (.ref l) (E:=E) (Q1:=λobj z=>obj = .ref s.heap.objs.size/\z={ s with heap:=t }) ⟨rfl,by rw[n]⟩) λr z hr=>?_
 cases r with
 |error e=>exact hr
 |ok fl=>
  cases fl with
  |ret obj=>
   obtain⟨rfl,rfl⟩:=hr;have hT:Shared.TypeIs { s with heap:=t } (.ref s.heap.objs.size) "set" := ⟨_,o1,rfl⟩
   have hli:=cW.init.lookup;have hbi:=cW.init.bind (.ref s.heap.objs.size)
   repeat (any_goals (first|assumption|wp_step))
   refine mN (codeAny_call_builtin (R:=wants (λr y=>r = .none/\∃h' x,y={ s with heap:=h',toks:=x }/\SI prog w h' s.heap.objs.size (dd ns)/\∀b o,s.heap.get? b=some o->h'.get? b=some o) E) cW.init.plain PySem.F.entry_set_init (check_set_init_1 hT ?_)) λr2 y u=>?_
   .obtain⟨⟨oc,od,odt,osl⟩,B,G,nl,H⟩:=hl;simp only at G H;subst G;subst H;have J:=k1 l _ B;have n1:=PySem.F.sub_list_set;have n2:=PySem.F.sub_list_frozenset;have n3:(cX "list" == cX "dict")=false:=by decide
    have L:t.IsList l vs.toArray:=⟨_,J,rfl,nl,rfl⟩;unfold Builtin.«set.__init__» noKeywords Builtin.Frozenset.updateFrom;generalize U:pyIter=PI
    wp_walk
    subst U;refine wpAny_pyIter_list L ?_;refine jR (nF ?_);have M:l<s.heap.objs.size:=ak B;have X:A.in1.in1.handled=none:=by simp[hh]
    have lI:l≠t.objs.size:=by rw[P];exact az (cR M)
    have sI:s.heap.objs.size≠t.objs.size:=by rw[P];exact az (dC _)
    refine QY (prog:=prog) (w:=w) (vs:=vs) (ns:=ns) X hi lI sI (du M) hb _ 0 _ rfl (aX _) ⟨_,aD _ rfl,rfl,rfl⟩ (L.push _) (SI.fresh (ai _ o1)) λh' x hS kp=>?_
    show jW _ _ _ _ _ _;refine jT ?_;show jW _ _ (ret iz) _ _ _;refine jT ⟨rfl,h',x,rfl,hS,λb o e=>kp b o ?_ ?_ (ai _ (k1 b o e))⟩
    .have:=ak e;rw[P];exact az (cR this)
    .exact az (ak e)
   .cases r2 with
    |error e=>exact u
    |ok Y=>
     cases Y with
     |ret r=>
      obtain⟨rfl,h',x,rfl,hS',hk'⟩:=u
      repeat (any_goals (first|assumption|wp_step))
      exact h _ _ hS' hk'
     |_=>exact u.elim
  |_=>exact hr.elim
end
def sW:Slot "set_iterator" "__next__" "set_iterator.__next__" :=
 .of (owner:= "set_iterator") (n:= "__next__") (by kernel_rfl) (by trivial) (by trivial) (by trivial) (.inl (by trivial)) (by kernel_rfl)
def yE:entryFor table "set_iterator.__next__" = some Builtin.«set_iterator.__next__»:=entryFor_of_tree (by kernel_rfl)
def An a:argsOk "set_iterator.__next__" ⟨[a],[]⟩:=by kernel_rfl
def GS:Slot "set_iterator" "__iter__" "set_iterator.__iter__" :=
 .of (owner:= "set_iterator") (n:= "__iter__") (by kernel_rfl) (by trivial) (by trivial) (by trivial) (.inl (by trivial)) (by kernel_rfl)
def Lr:entryFor table "set_iterator.__iter__" = some Builtin.«dict_keyiterator.__iter__»:=entryFor_alias (id':= "dict_keyiterator.__iter__") (by kernel_rfl) rfl (by trivial) (by kernel_rfl)
def Ou a:argsOk "set_iterator.__iter__" ⟨[a],[]⟩:=by kernel_rfl
def LJ:entryFor table "set.__iter__" = some Builtin.«frozenset.__iter__»:=entryFor_alias (id':= "frozenset.__iter__") (by kernel_rfl) rfl (by trivial) (by kernel_rfl)
def SA(h:Heap)(a:Addr)(l:Array (Int×Value))(ep:Nat)(t:SetTable):Prop:=∃o,h.get? a=some o/\o.ExactSet/\o.data = .set l ep t
def IA(h:Heap)(I:Addr)(f:Value)(i:Nat)(a:Addr)(n ep:Nat):Prop:=h.get? I=some { cls:=.type "set_iterator", dict:=none,data:=.fields #[f,km i,.ref a,km n,km ep],slots:=#[] }
section
variable {E:Ψ}{s:Shared}
def IA.type(h:IA s.heap I f i a n ep):s.TypeIs (.ref I) "set_iterator" := ⟨_,h,rfl⟩
def IA.self{Q:Ψ}(h:IA s.heap I f i a n ep)(q:Q (.ref I) s):jW (jU prog w) A (pyIter (.ref I)) Q E s:=by
 refine wpAny_pyIter_slot h.type GS (kz GS h.type Lr ?_ (Ou _));exact jT ⟨_,rfl, "set_iterator", _,h.type,sW.lookup,q⟩
def wM(l:SA s.heap a es ep t)(u:t.fits es.size=true)(h:Q es s):jW (jU prog w) A (setEntries a) Q E s:=by
 obtain⟨o,x,_,hd⟩:=l;exact jR (kC x hd u (jT h))
def HD(h:Q (w.params.followText "set-order") s):jW (jU prog w) A setsByText Q E s:=by
 exact jR (mZ (jT h))
def OP{sl nx:Nat}{Q:Υ->Shared->Prop}(l:IA s.heap I (km sl) i a n ep)(z:SA s.heap a es ep t)(B:t.fits es.size=true)(hn:es.size=n)
  (G:∀H (J:Ψ) u,u (some (x,nx)) s->jW (jU prog w) H (mV a sl i ep) u J s)
  (L:∀h',IA h' I (km nx) (i+1) a n ep->cD I s.heap h'->Q (some x) { s with heap:=h' }):jW (jU prog w) A (mB (.ref I)) Q E s:=by
 refine jR (mC (lB l.type sW (kz sW l.type yE ?_ (An _))));refine jR (jT ?_);refine jR (mO l rfl ?_);refine jR (wM z B ?_);rw[pK (by rw[hn];simp)]
 refine jR (G _ _ _ ?_);refine jR (kR l ⋯ λR M b1=>?_)
 refine jR (kR M ⋯ λO P b2=>?_)
 exact jT ⟨_,rfl,jT (L O (by simpa[IA]using P) (cD.trans b1 b2))⟩
def OX{sl:Nat}{Q:Υ->Shared->Prop}(hh:A.handled=none)(l:IA s.heap I (km sl) i a n ep)(x:SA s.heap a es ep t)(z:t.fits es.size=true)(hn:es.size=n)
  (B:∀G (H:Ψ) u,u none s->jW (jU prog w) G (mV a sl i ep) u H s)
  (J:∀h',jM I s.heap h'->Q none { s with heap:=h' }):jW (jU prog w) A (mB (.ref I)) Q E s:=by
 unfold mB;refine jR (mC (lB (name:=Str.ofString "__next__") l.type sW (kz sW l.type yE ?_ (An _))));unfold Builtin.«set_iterator.__next__»;refine jR (jT ?_);refine jR (mO l rfl ?_);show jW _ _ (setEntries a >>= _) _ _ s;refine jR (wM x z ?_);rw[pK (by rw[hn];simp)]
 show jW _ _ (mV a ((sl:Int)).toNat ((i:Int)).toNat ((ep:Int)).toNat >>= _) _ _ s;rw[bF,bF,bF];refine jR (B _ _ _ ?_);refine jR (kR l ⋯ λL M b1=>?_)
 refine jR ?_;refine jR (kX ?_ (by size_fits))
 refine jR (om (by first|rfl|(simp only[firstArgMember];)) ?_)
 refine kX ?_ (by size_fits)
 refine jR (wpAny_handled ?_);rw[hh];refine jR (jT (wpAny_throw ?_));refine jR (mE ⟨_,aD _ rfl,rfl⟩ isSubtype_stop ?_);exact jT (J _ ((b1.extBut.push _).push _))
def Mq{ps:Ω}{p:Nat}{Q:Υ->Shared->Prop}(l:IA s.heap I (.ref T) i a n ep)(B:SA s.heap a es ep t)(G:t.fits es.size=true)(hn:es.size=n)(H:s.heap.IsTuple T ps)(J:ps[i]?=some (.int (p:Int) u))(L:es[p]?=some e)
  (M:∀h',IA h' I (.ref T) (i+1) a n ep->cD I s.heap h'->Q (some e.2) { s with heap:=h' }):jW (jU prog w) A (mB (.ref I)) Q E s:=by
 refine jR (mC (lB l.type sW (kz sW l.type yE ?_ (An _))));refine jR (jT ?_);refine jR (mO l rfl ?_);refine jR (wM B G ?_);rw[pK (by rw[hn];simp)]
 obtain⟨U,x,O,m,z⟩:=H;refine jR (nE x z ?_);simp only[bF,J];obtain⟨o,P,_,hd⟩:=B;refine jR ?_;refine jR (kC P hd G ?_);simp only[bne_self_eq_false,cK,if_false,bF,L];refine jT ?_;refine jR (kR l ⋯ λR S b2=>?_)
 exact jT ⟨_,rfl,jT (M R (by simpa[IA]using S) b2)⟩
def Lz{ps:Ω}{Q:Υ->Shared->Prop}(hh:A.handled=none)(l:IA s.heap I (.ref T) i a n ep)(z:SA s.heap a es ep t)(B:t.fits es.size=true)(hn:es.size=n)(G:s.heap.IsTuple T ps)(H:ps[i]?=none)
  (J:∀h',jM I s.heap h'->Q none { s with heap:=h' }):jW (jU prog w) A (mB (.ref I)) Q E s:=by
 unfold mB;refine jR (mC (lB (name:=Str.ofString "__next__") l.type sW (kz sW l.type yE ?_ (An _))));unfold Builtin.«set_iterator.__next__»;refine jR (jT ?_);refine jR (mO l rfl ?_);show jW _ _ (setEntries a >>= _) _ _ s;refine jR (wM z B ?_);rw[pK (by rw[hn];simp)]
 obtain⟨P,u,L,m,x⟩:=G;refine jR (nE u x ?_);simp only[bF,H];refine jR (kR l ⋯ λR M O=>?_)
 refine jR (kR M ⋯ λS U b1=>?_)
 refine jR ?_;refine jR (kX ?_ (by size_fits))
 refine jR (om (by first|rfl|(simp only[firstArgMember];)) ?_)
 refine kX ?_ (by size_fits)
 refine jR (wpAny_handled ?_);rw[hh];refine jR (jT (wpAny_throw ?_));refine jR (mE ⟨_,aD _ rfl,rfl⟩ isSubtype_stop ?_);exact jT (J _ (((cD.trans O b1).extBut.push _).push _))
theorem erase_perm{α:Type}:∀(l:List α) i h,(l[i]::l.eraseIdx i).Perm l
 |x::l,0,_=>.refl _
 |x::l,i+1,h=>(aE.swap _ _ _).trans (.cons x (erase_perm l i (by simpa using h)))
def Po(u:m≠0)(h:∀i d',i<m->Q i { s with drawn:=d' }):jW (jU prog w) A (choose l m) Q E s:=λΓ p x=>by
 exact⟨u,h _ _ (fu _ (fW u))⟩
theorem NF:∀m (l:List α) s Q,m=l.length->(∀z d',z.Perm l->Q z { s with drawn:=d' })->jW (jU prog w) A (drawOrder m l) Q E s
 |0,l,s,Q,u,h=>by
  have:=bV.mp u.symm;subst this;exact jT (h [] s.drawn (.refl _))
 |m+1,[],s,Q,u,h=>by cases u
 |m+1,x::l,s,Q,u,h=>by
  refine jR (Po ⋯ λi d' hi=>?_)
  have e:=gEg hi;rw[e];refine jR (NF m _ _ _ (by rw[dN,pO hi];simp at u ⊢;lia) λz G B=>jT (h _ _ ?_))
  exact(aE.cons _ B).trans (erase_perm _ _ hi)
theorem Nc{α}nx:∀m k (l:List α) out,m=l.length->(pickOrder.go nx m k l out).toList.Perm (out.toList++l)
 |0,k,l,out,u=>by
  have:=bV.mp u.symm;subst this;rw[pickOrder.go,aNq]
 |m+1,k,l,out,u=>by
  have hi:nx k % l.length<l.length:=fu _ ∅
  rw[pickOrder.go];rw[gEg hi];refine(Nc nx m (k+1) _ _ (by rw[dN,pO hi];lia)).trans ?_
  rw[dR,ae];exact aE.append_left _ (erase_perm _ _ hi)
def Qa{α}nx(l:Array α):(pickOrder nx l).toList.Perm l.toList:=by
 have:=Nc nx l.size 0 l.toList #[] (by rw[ar])
 simpa[pickOrder]using this
end
def SA.keep(x:SA h a l ep t)(k:∀o,h.get? a=some o->h'.get? a=some o):SA h' a l ep t:=by
 obtain⟨o,n,r⟩:=x;exact⟨o,k o n,r⟩
section
variable {E:Ψ}
def Gw{items:Ξ}{sl:Nat->Nat}(hh:A.handled=none)(G:a≠I)(H:t.fits es.size=true)(hn:es.size=items.length)
  (J:∀i n (u:Ψ) l z,i<=items.length->SA z.heap a es ep t->l (items[i]?.map λx=>(x,sl (i+1))) z->jW (jU prog w) n (mV a (sl i) i ep) l u z) :
  Walks prog w A I [I,a] [I] items.length (λi v=>items[i]?=some v) (λi h=>i<=items.length/\IA h I (km (sl i)) i a items.length ep/\SA h a es ep t) where
 sub:=λb hb=>by rw[mSq.mp hb];simp
 frame:=λi h h' st k=>⟨st.1,k I ⋯ _ st.2.1,st.2.2.keep λo e=>k a ⋯ o e⟩
 item:=λi s Q E hi st B=>by
  have e:=gEg hi;refine OP st.2.1 st.2.2 H hn (λn u l q=>J i n u l s st.1 st.2.2 (by rw[e];exact q)) λh' L sb=>?_
  exact B _ h' s.toks e ⟨hi,L,st.2.2.keep λo q=>sb.extBut a o G q⟩ λb o hb q=>sb.extBut b o (by simpa using hb) q
 done:=λs Q E st B=>by
  have e:items[items.length]?=none:=aO (af _);exact OX hh st.2.1 st.2.2 H hn (λn u l q=>J _ n u l s st.1 st.2.2 (by rw[e];exact q)) λh' M=>B h' s.toks λb o hb q=>M b o (by simpa using hb) q
 self:=λi s Q E st B=>st.2.1.self B
def K0{items:Ξ}{ps:Θ}(hh:A.handled=none)(n:a≠I)(u:T≠I)(G:t.fits es.size=true)(hn:es.size=items.length)(hl:ps.length=items.length)(H:∀i p:Nat,ps[i]?=some p->∃e:Int×Value,es[p]?=some e/\items[i]?=some e.2) :
  Walks prog w A I [I,a,T] [I] items.length (λi v=>items[i]?=some v) (λi h=>i<=items.length/\IA h I (.ref T) i a items.length ep/\SA h a es ep t/\h.IsTuple T (ps.map λp:Nat=>km p).toArray) where
 sub:=λb hb=>by rw[mSq.mp hb];simp
 frame:=λi h h' st k=>⟨st.1,k I ⋯ _ st.2.1,st.2.2.1.keep λo e=>k a ⋯ o e,let ⟨o,z,r⟩:=st.2.2.2;⟨o,k T ⋯ o z,r⟩⟩
 item:=λi s Q E hi st l=>by
  have B:i<ps.length:=by rw[hl];exact hi
  have e:=gEg B;obtain⟨x,J,L⟩:=H i _ e;refine Mq st.2.1 st.2.2.1 G hn st.2.2.2 (by rw[iP,gMq,e];rfl) J λh' M sb=>?_
  exact l _ h' s.toks L ⟨hi,M,st.2.2.1.keep λo q=>sb.extBut a o n q,let ⟨o,z,r⟩:=st.2.2.2;⟨o,sb.extBut T o u z,r⟩⟩ λb o hb q=>sb.extBut b o (by simpa using hb) q
 done:=λs Q E st l=>Lz hh st.2.1 st.2.2.1 G hn st.2.2.2 (by rw[iP];exact aO (by rw[lMq,hl];exact af _)) λh' O=>l h' s.toks λb o hb q=>O b o (by simpa using hb) q
 self:=λi s Q E st l=>st.2.1.self l
noncomputable def slt(t:SetTable)(i:Nat):Nat:=if i=0 then 0 else t.place.getD (i-1) 0+1
def Ow(l:Up t.place)(hi:i<=t.place.size):SetTable.below t.place (slt t i)=i:=by
 unfold slt
 by_cases c:i=0
 .rw[c];exact KQ l
 .rw[pK c];have hl:i-1<t.place.size:=by lia
  have e:=ag hl;have n:t.place.getD (i-1) 0=t.place[i-1]'hl:=by simp[gj,hl]
  rw[n,Mh l e];lia
def SU(u:t.fits es.size=true)(B:Tb true t)(hw:w.params.followText "set-order" = false)(hd:(!t.plain && decide (es.size>1))=false)(hi:i<=es.size)(G:SA s.heap a es ep t)
  (h:Q ((es[i]?).map λe=>(e.2,slt t (i+1))) s):jW (jU prog w) A (mV a (slt t i) i ep) Q E s:=by
 obtain⟨o,H,_,x⟩:=G;have l:t.place.size=es.size:=by
  simp only[SetTable.fits,fL,beq_iff_eq,decide_eq_true_eq]at u;exact u.1
 unfold mV;refine jR (kC H x u ?_);refine jR (HD ?_);rw[hw];show jW _ _ (if (false:Bool)=true then _ else _) _ _ s
 rw[pK aM];refine mI (λz=>absurd (show(!t.plain && decide (es.size>1))=true from z) (by rw[hd];decide)) (λ_=>?_)
 refine jR ?_;refine mI (λz=>absurd (show(!t.led && !es.isEmpty)=true from z) (by rw[B.led];simp)) (λ_=>jT ?_)
 rw[Ow B.up (by rw[l];exact hi)]
 refine jT ?_
 by_cases c:i<es.size
 .have n:=ag c;have J:=ag (show i<t.place.size by rw[l];exact c)
  have L:slt t (i+1)=t.place[i]'(by rw[l];exact c)+1:=by
   unfold slt;rw[pK ∅,fi]
   simp[gj,show i<t.place.size by rw[l];exact c]
  rw[n,L]at h;rw[n,J];exact h
 .have n:es[i]?=none:=Array.getElem?_eq_none (iA c);rw[n]at h;rw[n];exact h
def Pw(n:t.fits es.size=true)(hw:w.params.followText "set-order" = true)(x:SA s.heap a es ep t)
  (h:Q (((pickOrder (w.params.setOrder a ep) es)[i]?).map λe=>(e.2,0)) s):jW (jU prog w) A (mV a 0 i ep) Q E s:=by
 obtain⟨o,u,_,l⟩:=x;refine jR (kC u l n ?_);refine jR (HD ?_);rw[hw];rw[pO rfl];refine mI (λz=>absurd z ⋯) (λ_=>?_)
 refine jR ?_;refine jR (kC u l n ?_);refine jR (HD ?_);rw[hw];refine jR (mZ ?_);exact jT (jT h)
end
def Dd{l:List (Int×Value)}{F:Ϝ}{vs:Ξ}(n:∀e∈l,∃k u,e.2 = .int k u)(t:(l.map λe=>Mr.intOf e.2).Perm F)(s:vs.Perm (l.map (·.2))):(∀v∈vs,∃k u,v = .int k u)/\(vs.map Mr.intOf).Perm F:=by
 refine⟨λv x=>?_,(s.map _).trans ?_⟩
 .obtain⟨e,z,rfl⟩:=mMq.mp (s.mem_iff.mp x);exact n e z
 .rw[mPq];exact t
section
variable {E:Ψ}
def RI{Q:Ψ}(hS:SI prog w s.heap a F)
  (h:∀I h1 d' (fp:Δ) (vs:Ξ) St,(∀A':Around,A'.handled=none->Walks prog w A' I fp [I] vs.length (λi v=>vs[i]?=some v) St)->St 0 h1->(∀b o,s.heap.get? b=some o->h1.get? b=some o)->s.heap.objs.size<=I->(∀b∈fp,b=a∨s.heap.objs.size<=b) ->
   (∀v∈vs,∃k u,v = .int k u)->(vs.map Mr.intOf).Perm F->Q (.ref I) { s with heap:=h1,drawn:=d' }):jW (jU prog w) A (pyIter (.ref a)) Q E s:=by
 obtain⟨o,n,G,t,M,hex,hd,hel,X,P,hb,R,hT⟩:=hS;have hTy:s.TypeIs (.ref a) "set" := ⟨o,M,hex.1⟩;have Y:a<s.heap.objs.size:=ak M;have O:SA s.heap a n G t:=⟨o,M,hex,hd⟩;have fits:n.size<=jY:=mR hb;refine wpAny_pyIter_slot hTy iQ (kz iQ hTy LJ ?_ (PySem.F.args_set_iter_1 _));unfold Builtin.«frozenset.__iter__»;show jW _ _ (Builtin.Frozenset.sizeOf a >>= _) _ _ s;refine jR ?_;unfold Builtin.Frozenset.sizeOf;refine jR (wM O R (jT ?_));show jW _ _ (setDrawn a >>= _) _ _ s;refine jR ?_;unfold setDrawn;refine jR (kC M hd R ?_);refine jR (HD (jT ?_));have fin:∀(f:Value) (z:Shared),z.heap.get? a=some o->Q (.ref z.heap.objs.size) { z with heap:=z.heap.push { cls:=.type "set_iterator", data:=.fields #[f,km (0:Nat),.ref a,km n.size,km G] } } ->
   jW (jU prog w) A.in1 (setEpoch a >>= λe=>newFields "set_iterator" [f,km 0,.ref a,km n.size,km e] >>= λv=>ret v) (λfin z=>∃v,fin = .done (.ret v)/\∃T' r,z.TypeIs v T'/\mS (.type T') "__next__" = pure (some r)/\Q v z) E z:=λf z hz q=>by
  unfold setEpoch;refine jR (jR (kC hz hd R (jT ?_)));unfold newFields;exact jR (kX (jT ⟨_,rfl, "set_iterator", _,⟨_,aD _ rfl,rfl⟩,sW.lookup,q⟩))
 have s0:s={ s with heap:=s.heap,drawn:=s.drawn }:=by cases s;rfl
 cases hw:w.params.followText "set-order" with
 |true=>
  show jW _ _ (if (!true && _)=true then _ else _) _ _ s
  rw[pK ⋯]
  refine jR (jT ?_);have H:=Qa (w.params.setOrder a G) n;have hl:n.size=((pickOrder (w.params.setOrder a G) n).toList.map (·.2)).length:=by rw[lMq,H.length_eq,ar]
  obtain⟨v1,v2⟩:=Dd X P (H.map (·.2));refine fin (km 0) s M ?_;have J:∀b∈[s.heap.objs.size,a],b=a∨s.heap.objs.size<=b:=λb hb=>(aa.mp hb).elim (λz=>.inr (fJ z.symm)) λz=>.inl (by simpa using z)
  have ia:IA (s.heap.push { cls:=.type "set_iterator", data:=.fields #[km 0,km (0:Nat),.ref a,km n.size,km G] }) s.heap.objs.size (km (0:Nat)) 0 a ((pickOrder (w.params.setOrder a G) n).toList.map (·.2)).length G:=by
   rw[←hl];exact aD _ rfl
  refine h _ _ s.drawn [s.heap.objs.size,a] _ _ (λA' hh=>Gw (items:=(pickOrder (w.params.setOrder a G) n).toList.map (·.2)) (sl:=λ_=>0) hh (az Y) R hl λi A2 E2 Q2 z hi hz q=>Pw R hw hz ?_) ⟨aX _,ia,O.keep λo e=>ai _ e⟩ (λb o e=>ai _ e) (af _) J v1 v2
  rw[gMq,au]at q;cases L:(pickOrder (w.params.setOrder a G) n)[i]? with
  |none=>rw[L]at q;exact q
  |some x=>rw[L]at q;exact q
 |false=>
  have hT':Tb true t:=by rw[hw]at hT;exact hT
  by_cases hdr:(!t.plain && decide (n.size>1))=true
  .show jW _ _ (if (!false && (!t.plain && decide (n.size>1)))=true then _ else _) _ _ s
   rw[pO (by rw[hdr];rfl)]
   refine jR (NF n.size (aF n.size) s _ (by rw[aB]) λS d' hy=>jR ?_)
   have yl:S.length=n.size:=by rw[hy.length_eq,aB]
   refine wpAny_newTuple ?_ (by rw[lMq,yl];exact fits)
   generalize hg:s.heap.push { cls:=.type "tuple", data:=.seq (S.map λi:Nat=>km i).toArray }=g
   have kg:∀b o,s.heap.get? b=some o->g.get? b=some o:=λb o e=>by rw[←hg];exact ai _ e
   have zg:g.objs.size=s.heap.objs.size+1:=by rw[←hg];exact iT ..
   have tg:g.IsTuple s.heap.objs.size (S.map λi:Nat=>km i).toArray:=by rw[←hg];exact⟨_,aD _ rfl,rfl,_,rfl⟩
   refine fin (.ref s.heap.objs.size) { s with heap:=g,drawn:=d' } (kg a o M) ?_
   let B:Ξ:=S.filterMap λp=>(n[p]?).map (·.2)
   have ev:S.map (λp=>(n[p]?).map (·.2))=B.map some:=by
    show _=(S.filterMap λp=>(n[p]?).map (·.2)).map some
    have:∀l:Θ,(∀p∈l,p<n.size)->l.map (λp=>(n[p]?).map (·.2))=(l.filterMap λp=>(n[p]?).map (·.2)).map some:=by
     intro l
     induction l with
     |nil=>intro _;rfl
     |cons p l ih=>
      intro hl;have P:=ag (hl p ⋯)
      rw[aw,List.filterMap_cons_some (b:=(n[p]'(hl p ⋯)).2) (by rw[P];rfl),aw,ih λq L=>hl q (by simp[L]),P]
      rfl
    exact this S λp P=>by
     have:=hy.mem_iff.mp P;exact bA.mp this
   have il:B.length=n.size:=by
    have:=congrArg bJ ev;rw[lMq,lMq]at this;rw[←this,yl]
   have ip:B.Perm (n.toList.map (·.2)):=by
    refine(hy.filterMap _).trans ?_;have:=filterMap_getElem?_range n;rw[←this,List.map_filterMap]
   obtain⟨v1,v2⟩:=Dd X P ip;have J:∀b∈[g.objs.size,a,s.heap.objs.size],b=a∨s.heap.objs.size<=b:=λb hb=>by
    simp only[aa,bL,or_false]at hb;rcases hb with z|z|z
    .rw[z,zg];exact .inr (bP _)
    .exact .inl z
    .rw[z];exact .inr (af _)
   have ia:IA (g.push { cls:=.type "set_iterator", data:=.fields #[.ref s.heap.objs.size,km (0:Nat),.ref a,km n.size,km G] }) g.objs.size (.ref s.heap.objs.size) 0 a B.length G:=by
    rw[il];exact aD _ rfl
   refine h _ _ d' [g.objs.size,a,s.heap.objs.size] B _ (λA' hh=>K0 (ps:=S) hh (by rw[zg];exact az (cR Y)) (by rw[zg];exact az (dC _)) R il.symm (by rw[yl,il]) λi p e=>?_) ⟨aX _,ia,(O.keep λo e=>kg a o e).keep λo e=>ai _ e,let ⟨o,M,r⟩:=tg;⟨o,ai _ M,r⟩⟩ (λb o e=>ai _ (kg b o e)) (by rw[zg];exact bP _) J v1 v2
   have hpl:p<n.size:=bA.mp (hy.mem_iff.mp (mGq e));have hx:=ag hpl;refine⟨_,hx,?_⟩;have:=congrArg (λl:List Υ=>l[i]?) ev
   simp only[gMq,e,cI,hx]at this;cases L:B[i]? with
   |none=>rw[L]at this;cases this
   |some y=>rw[L]at this;exact congrArg some (aA.inj (aA.inj this)).symm
  .show jW _ _ (if (!false && (!t.plain && decide (n.size>1)))=true then _ else _) _ _ s
   have U:(!t.plain && decide (n.size>1))=false:=by simpa using hdr
   rw[pK (by rw[U];decide)]
   refine jR (jT ?_);have hl:n.size=(n.toList.map (·.2)).length:=by rw[lMq,ar]
   obtain⟨v1,v2⟩:=Dd X P (.refl _);refine fin (km 0) s M ?_;have J:∀b∈[s.heap.objs.size,a],b=a∨s.heap.objs.size<=b:=λb hb=>(aa.mp hb).elim (λz=>.inr (fJ z.symm)) λz=>.inl (by simpa using z)
   have ia:IA (s.heap.push { cls:=.type "set_iterator", data:=.fields #[km 0,km (0),.ref a,km n.size,km G] }) s.heap.objs.size (km (slt t 0)) 0 a (n.toList.map (·.2)).length G:=by
    rw[←hl];exact aD _ rfl
   refine h _ _ s.drawn [s.heap.objs.size,a] _ _ (λA' hh=>Gw hh (az Y) R hl λi A2 E2 Q2 z hi hz q=>SU R hT' hw U (by rw[hl];exact hi) hz ?_) ⟨aX _,ia,O.keep λo e=>ai _ e⟩ (λb o e=>ai _ e) (af _) J v1 v2
   rw[gMq,au]at q;cases L:n[i]? with
   |none=>rw[L]at q;exact q
   |some x=>rw[L]at q;exact q
end
end Ms
namespace Ms
open PySem PySem.W PyProof.Rows Mr MrS
section
variable {E:Ψ}
def QW(l:s.TypeIs (.ref r) "set")(h:Q false s):jW (jU prog w) A (Builtin.List.listLengthHint (.ref r)) Q E s:=by
 refine jR (mH l PySem.F.slot_set_len.lookup ?_);generalize n:("set.__len__")=id0;subst n;refine jR (mE (b:=true) l (by kernel_rfl) ?_)
 refine jR (mL l ?_);exact jT h
def W2(hh:A.handled=none)(B:SI prog w s.heap a F)(G:S≠a)(hS:s.heap.get? S=some { cls:=.type "list", data:=.seq #[] c0 })(hn:F.length<=jY)
  (hR:∀h' P d' l x,(∀b o,b≠S->s.heap.get? b=some o->h'.get? b=some o)->h'.get? S=some { cls:=.type "list", dict:=none,data:=.seq l x,slots:=#[] }->(∀v∈l.toList,∃k u,v = .int k u)->(l.toList.map Mr.intOf).Perm F->R (.ok (.ret res)) { s with heap:=h',toks:=P,drawn:=d' }) :
  jW (jU prog w) A.in1 (Builtin.List.listExtendWith (.ref S) (.ref a) res)
   (λfin Q=>match fin with|.done f=>R (.ok f) Q|.again x=>x.quiet=true/\kZ (jU prog w) A x R Q) (λe Q=>R (.error e) Q) s:=by
 have H:S<s.heap.objs.size:=ak hS;have hT:s.TypeIs (.ref a) "set" := by
  obtain⟨o,_,_,_,U,X,_⟩:=B;exact⟨o,U,X.1⟩
 unfold Builtin.List.listExtendWith;refine jR (mL (T:= "set") hT ?_);have h1:Builtin.List.listSameRef (.ref S) (.ref a)=false:=by simp[Builtin.List.listSameRef,G]
 have h2:(cX "set" == cX "list")=false:=by decide
 have h3:(cX "set" == cX "tuple")=false:=by decide
 simp only[h1,h2,h3,jD,cK,if_false];refine jR (RI B λI g d' fp Y St W st kp hI hfp v1 v2=>?_)
 have J:S∉fp:=λm=>by
  rcases hfp S m with z|z
  .exact G z
  .exact absurd H (Nat.not_lt.mpr z)
 have vn:Y.length<=jY:=by
  have:=v2.length_eq;rw[lMq]at this;rw[this];exact hn
 have hIS:I≠S:=du (aR H hI);have key:∀(h:Heap) (c1 P:Nat),St 0 h->(∀b o,b≠S->s.heap.get? b=some o->h.get? b=some o) ->
   h.get? S=some { cls:=.type "list", data:=.seq #[] c1 }->kZ (jU prog w) A (.builtin "list.extend.loop" ⟨[.ref S,.ref I,res],[]⟩) R { s with heap:=h,toks:=P,drawn:=d' }:=by
  intro h c1 P hst hk n;refine nV (W A.in1 hh).toS vn S J res Y.length 0 _ #[] c1 rfl (aX _) hst n (ItemsOf.nil _) λz l x hm hS' t=>?_
  rw[Moved.eq_with hm];have ea:l.toList=Y:=by
   refine cS λj=>?_
   rw[au];cases hq:l[j]? with
   |none=>
    have:l.size<=j:=Array.getElem?_eq_none_iff.mp hq;rw[aO (by rw[←t.1];exact this)]
   |some v=>exact(t.2 j v hq).symm
  refine hR z.heap z.toks d' l x (λb o hb e=>hm.heap b o (λL=>?_) (hk b o hb e)) hS' (by rw[ea];exact v1) (by rw[ea];exact v2)
  rcases aa.mp L with e'|e'
  .exact hb e'
  .rw[mSq.mp e']at e;exact absurd (ak e) (Nat.not_lt.mpr hI)
 have n:=kp S _ hS;refine jR (kM (QW (let ⟨o,U,hc⟩:=hT;⟨o,kp a o U,hc⟩) ?_))
 refine mI (λ_=>?_) (λ_=>jT ⟨kN fO _,key _ c0 _ st (λb o _ e=>kp b o e) n⟩)
 refine jR (nW ?_);refine jR ?_;show jW _ _ (updateSeq S (·.push .none) >>= λ_=>updateSeq S (·.pop)) _ _ _
 refine jR (nj n rfl ?_);have M:=fA (Obj.mapSeq (·.push iz)) n rfl;refine nj (hz:=by seq_fits) M rfl ?_
 have hS3:=fA (Obj.mapSeq (·.pop)) M rfl;refine jT ⟨kN fO _,key _ _ _ ?_ (λb o hb e=>?_) hS3⟩
 .refine(W A.in1 hh).frame 0 _ _ st λb hb o e=>?_
  have O:b≠S:=λh=>J (h ▸ hb)
  exact(df _ _ (Ne.symm O)).trans ((df _ _ (Ne.symm O)).trans e)
 .exact(df _ _ (Ne.symm hb)).trans ((df _ _ (Ne.symm hb)).trans (kp b o e))
def IM{Q:Ξ->Shared->Prop}(hh:A.handled=none)(l:SI prog w s.heap a F)(hn:F.length<=jY)
  (h:∀h' n d' vs,(∀b o,s.heap.get? b=some o->h'.get? b=some o)->s.heap.objs.size<h'.objs.size->(∀v∈vs,∃k u,v = .int k u)->(vs.map Mr.intOf).Perm F->Q vs { s with heap:=h',toks:=n,drawn:=d' }) :
  jW (jU prog w) A (collect (.ref a)) Q E s:=by
 have t:a<s.heap.objs.size:=let ⟨_,_,_,_,H,_⟩:=l;ak H
 unfold collect;refine jR (nF (kr nU ?_));refine jR (lU (jT ⟨Code.quiet_builtin _ (by trivial),kr entry_list_iadd' ?_⟩))
 have x:(s.heap.push (ko "list" #[] 0)).get? s.heap.objs.size=some (ko "list" #[] 0):=aD _ rfl;refine W2 (R:=λr B=>match r with
   | .ok (.ret v)=>jW (jU prog w) A (match v with
    | .ref a=>do
     let o ←load a
     match o.data with
     | .seq I _=>pure I.toList
     |_=>mz "internal:collect"
    |_=>mz "internal:collect") Q E B
   | .ok _=>False
   | .error e=>E e B) hh (l.keep λo e=>ai _ e) (du t) x hn λh' n d' z c hk G J L=>?_
 refine jR (wpAny_load G ?_);exact jT (h h' n d' z.toList (λb o e=>hk b o (az (ak e)) (ai _ e)) (ak G) J L)
def Lw{Q:Ψ}(hh:A.handled=none)(O:SI prog w s.heap a F)(hn:F.length<=jY)
  (h:∀(out:Ξ) h' (p:Addr) H n' d',(∀v∈out,∃k u,v = .int k u)->out.map Mr.intOf=sk F->(∀b o,s.heap.get? b=some o->h'.get? b=some o)->s.heap.objs.size<=p->h'.get? p=some (ko "list" out.toArray n')->Q (.ref p) { s with heap:=h',toks:=H,drawn:=d' }) :
  jW (jU prog w) A (call (.builtin "sorted") [.ref a]) Q E s:=by
 refine Calls.call_function_entry ot oe oh (oi _) ?_;unfold Builtin.«sorted»;refine jR (m:=checkCount "sorted" 1 1 _) (jT ?_);refine jR (IM hh O hn λz H d' l J B P v2=>?_)
 have hs:l.length<=jY:=by
  have:=v2.length_eq;rw[lMq]at this;rw[this];exact hn
 refine jR (lU ?_ hs);have n:(z.push (ko "list" l.toArray 0)).get? z.objs.size=some (ko "list" l.toArray 0):=aD _ rfl;show jW _ _ _ _ _ { s with heap:=z.push (ko "list" l.toArray 0),toks:=H,drawn:=d' }
 have L:s.heap.objs.size<=z.objs.size:=cT B;have k1:∀b o,s.heap.get? b=some o->(z.push (ko "list" l.toArray 0)).get? b=some o:=λb o e=>ai _ (J b o e)
 have I:∀b o,s.heap.get? b=some o->b≠z.objs.size:=λb o e=>az (ak (J b o e))
 generalize z.push (ko "list" l.toArray 0)=G at n k1 ⊢
 clear B
 generalize z.objs.size=p at n L I ⊢;have k2:∀b o,s.heap.get? b=some o->(tT G p l).get? b=some o:=λb o e=>by
  refine ai _ (ai _ ?_);rw[dr _ _ _ _ (I b o e)];exact k1 b o e
 have R:2<=l.length->∀Q:kG->Shared->Prop,Q lg { s with heap:=tT G p l,toks:=H,drawn:=d' }->jW (jU prog w) A.in1.in1 (nY l.toArray) Q E { s with heap:=tT G p l,toks:=H,drawn:=d' }:=λM Q q=>by
  have hi:kx l (l.map Mr.intOf):=DL (by rw[lMq]) λj v m S e2=>by
   obtain⟨k,u,rfl⟩:=P v (mGq S);rw[gMq,S]at e2;cases e2;exact⟨u,rfl⟩
  match l,hi,M with
  | [],_,M=>simp at M
  | [_],_,M=>simp at M
  |v₁::v₂::sL,hi,_=>
   rw[og hi];exact jT q
 refine jR (kM (kz nH ⟨_,n,rfl⟩ nt (xx (s:={ s with heap:=G,toks:=H,drawn:=d' }) (Pk:=λx:jS=>∃a t,x.1=gg a t) (lt:=ltI) n hs R (Yx _ _ _ _) (λx hx=>?_) λU a1 a2=>⟨_,rfl,?_⟩) (nK _)))
 .obtain⟨m1,m2⟩:=vm hx;exact P _ m1
 .obtain⟨o1,o2⟩:=zG a1 a2;obtain⟨S,X⟩:=Iz l n;obtain⟨n1,g1⟩:=HS (U.map (·.2)) X;have Y:∀v∈(U.map (·.2)).toList,∃a t,v=gg a t:=λv m=>P v (o1.mem_iff.mp m)
  refine jT ⟨_,rfl,h _ (mq G p l (U.map (·.2))) p H n1 d' Y (HC ((o1.map _).trans v2) ?_) (λb o e=>?_) L ?_⟩
  .rw[bx];refine o2.imp_of_mem λ{x y} mx my hq=>?_
   obtain⟨c,t,rfl⟩:=Y x mx;obtain⟨b,u,rfl⟩:=Y y my;have h':=of_decide_eq_false hq;show c<=b;lia
  .unfold mq;rw[dr _ _ _ _ (I b o e)];exact k2 b o e
  .exact g1
end
end Ms
namespace Mr
open PySem PySem.Spec PyProof.Rows L2
def adf{σ:St}(I:Inv X l σ H s)d:Inv X l σ H { s with drawn:=d }:=⟨I.ok,I.os,I.bare,I.base,I.loc,I.cell,I.free,I.freeC,I.pin,I.hok,I.len⟩
def Xy(K:Ζ)(l:List V)(H:Hp)(Q:VK):Prop:=∃a ns,l=[.ref a]/\rF K H a (ns.map V.int)/\ns.length+1<lK/\∀p,H p=none->Q (.ref p) (qE H p (.lst ((sk (Ms.dd ns)).map V.int)))
def VJ(M:X.calm=true)(P:Gl X "sorted")(R:X.mg "sorted" = none)(S:Gl X "set")(U:X.mg "set" = none)(ha:PA X [e] L)
  (Y:kf [.Call (.Name "set" p) [e] [] pos] X.env=(false,eval (.Call (.Name "set" p) [e] [] pos) X.env)::kf [] X.env:=by rfl) (hs:kf [e] X.env=[(false,eval e X.env)]:=by rfl) :
  PE X (.Call (.Name "sorted" O) [.Call (.Name "set" p) [e] [] pos] [] l) (K2 (Xy X.K) L):=by
 intro oE s σ H Q I h;refine kS (vA I P R boot_sorted ?_ ⋯ ⋯)
 refine gK ?_ Y (by rfl)
 refine Calls.spliced_cons ?_;refine Call_ (vA I S U boot_set (bD (thn (ha pos oE s σ H _ I h) λus s1 z=>?_) hs rfl))
 obtain⟨vs,H1,n,r1,a,B,e1,hS,hb,q⟩:=z;subst e1;obtain⟨u,rfl,ru⟩:=vH r1;cases ru;obtain⟨ws,hl,hi,_⟩:=BM n hS;have hd:=Ms.Mm B;refine Ms.UE (n.ok.hd M) hl hi hb λh1 tk t kp=>Calls.spliced_nil ?_
 refine Ms.Lw (n.ok.hd M) t (by have:lK=4096:=rfl;rw[kA];lia) λout h2 p tk2 n' d' hv ho E hp hx=>?_
 have x:=cz (cT (let ⟨_,_,_,_,G,_⟩:=t;ak G)) hp
 have J:=n.hok.fresh x;have hz:((sk (Ms.dd B)).map V.int).length<=jY:=by
  rw[lMq,(rJ _).length_eq];lia
 refine⟨.ref p,_,adf (n.laid (λb o e=>E b o (kp b o e)) x (show rq X.prog X.w _ h2 _ (.lst ((sk (Ms.dd B)).map V.int))from ⟨hz,out,n',?_,hx⟩)) d',rfl,q _ J⟩
 rw[←ho];exact Mr.vals_ints hv
end Mr
namespace Z
open PySem L2 Mr
def Tv(l:ML):MK:=λS=>(l S).bind λx=>(rz x.1).bind λns=>vx (ns.length<=4000) (some (.ow ((sk (Ms.dd ns)).map λn=>.sh (.int n)),x.2))
def WY(hl:SQ K te l):SK K (K2 (Xy K) (rN te vy)) (Tv l):=by
 intro H₀ n Hf S σ H Y av S' R e Q q;obtain⟨x,G,e⟩:=oBq.mp e;obtain⟨I,J,e⟩:=oBq.mp e;rcases pJ e with⟨s,e⟩|e
 .cases e;refine hl R G _ λL H1 Fs1 M O t u z B=>?_
  rw[uV J]at B;rw[rX B]at z;refine⟨M,I,rfl,z,by unfold lK;lia,λp E=>?_⟩
  obtain⟨P,U,X,n2,n3⟩:=u.new E;rw[xp]at q;exact q _ _ _ (.ref p) [p] (t.trans P) U (pZ.new oY X (uc _)) ((xS.one u E).back t)
 .cases e
def Rv(l)S:Tv l S=(l S).bind λx=>(rz x.1).bind λns=>vx (ns.length<=4000) (some (.ow ((sk (Ms.dd ns)).map λn=>.sh (.int n)),x.2)):=rfl
end Z
namespace Mr
open PySem PySem.Spec PyProof.Rows L2
def Rr(n:List V)(H:Hp)(Q:VK):Prop:=∃j:Int,n=[.int j]/\(-(2 ^ 62)<=j/\j<2 ^ 62)/\j.toNat<=jY/\∀l,H l=none->Q (.ref l) (qE H l (.lst ((aF j.toNat).map λk:Nat=>V.int (0+k))))
def IU(hc:X.calm=true)(gl:Gl X "list")(ml:X.mg "list" = none)(hg:Gl X "range")(hm:X.mg "range" = none)(ha:PA X [b] U)
  (Y:kf [.Call (.Name "range" p) [b] [] pos] X.env=(false,eval (.Call (.Name "range" p) [b] [] pos) X.env)::kf [] X.env:=by rfl) (J:kf [b] X.env=[(false,eval b X.env)]:=by rfl) :
  PE X (.Call (.Name "list" p0) [.Call (.Name "range" p) [b] [] pos] [] x) (K2 Rr U):=by
 intro oE s σ H Q I h;refine kS (vA I gl ml boot_list ?_ ⋯ ⋯)
 refine bD ?_ Y (by rfl)
 rw[Y];show jW _ _ (spliced ((false,eval (.Call (.Name "range" p) [b] [] pos) X.env)::lu x (kf [] X.env))) _ _ s;refine Calls.spliced_cons ?_;refine Call_ (vA I hg hm boot_range (bD (thn (ha pos oE s σ H _ I h) λus B L=>?_) J rfl))
 obtain⟨vs,H1,M,r1,j,G,⟨q3,q4⟩,hn,q⟩:=L;subst G;obtain⟨u,rfl,ru⟩:=vH r1;obtain⟨t,rfl⟩:=ru;have O:((j.toNat:Nat):Int)=Builtin.Range.rangeSize 0 j 1:=by rw[rangeSize_one];split <;> lia
 have P:j.toNat<=2 ^ 24:=by rw[kA]at hn;exact hn
 refine call_range_1 (Calls.spliced_nil ?_);refine call_list_range (n:=j.toNat) (M.ok.hd hc) (IsRange.new ..) (small_one ⋯ ⋯ q3 q4) O.symm P λh' tk l c hk R z=>?_
 have E:(B.heap.push { cls:=.type "range", data:=.fields #[.int 0 B.toks,.int j t,.int 1 (B.toks+1)] }).objs.size=B.heap.objs.size+1:=by first|rfl|simp[Heap.push]
 dsimp only at hk R;rw[E]at R;have S:qk ((aF j.toNat).map λk:Nat=>V.int (0+k)) l.toList:=by
  have hl:l.toList.length=j.toNat:=by rw[ar];exact z.1
  have key:kx l.toList ((aF j.toNat).map λk:Nat=>0+(k:Int)):=DL (by simp[hl]) λk v n G e2=>by
   rw[au]at G;obtain⟨tv,rfl⟩:=z.2 k v G;rw[gMq]at e2;obtain⟨m,e3,e4⟩:=oMq.mp e2;obtain⟨_,e5⟩:=gSq.mp e3;rw[List.getElem_range]at e5;subst e5;subst e4;exact⟨tv,by simp⟩
  have:=L2.vals_ints key;rw[mPq]at this;exact this
 refine⟨.ref (B.heap.objs.size+1),qE H1 (B.heap.objs.size+1) (.lst _),M.laid (t':=tk) (λb o e=>hk b o (ai _ e)) (bP _) (show rq X.prog X.w _ h' _ (.lst _)from ⟨by simpa using hn,l.toList,c,S,by simpa using R⟩),by rw[E];rfl,q _ (M.hok.fresh (bP _))⟩
end Mr
namespace Z
open PySem L2 Mr
def HV(a:ML):MK:=λS=>(a S).bind λx=>(CU x.1).bind λds=>vx (ds.length<=qM) (some (.ow (ds.map .sh),x.2))
def RL(ha:UY K u a):SK K (K2 Rr u) (HV a):=by
 intro H₀ s Hf S σ H Y av S' R e Q q;obtain⟨x,I,e⟩:=oBq.mp e;obtain⟨ds,n,e⟩:=oBq.mp e;rcases pJ e with⟨hl,e⟩|e
 .cases e;refine ha R (ds:=x.1) (S':=x.2) I _ λJ H1 Fs1 vs z B E=>?_
  unfold CU at n;split at n
  .rename_i j L;rw[L]at E;rcases pJ n with⟨M,n⟩|n
   .cases n;obtain⟨v,ws,rfl,O,P⟩:=E.cons_inv;cases P.nil_inv;cases O;rw[qh]at hl;refine⟨j,rfl,M,by rw[Q5];exact hl,λp G=>?_⟩
    obtain⟨U,R2,X,n2,n3⟩:=B.new (o:=.lst ((aF j.toNat).map λk:Nat=>V.int (0+k))) G
    refine q _ _ _ (.ref p) [p] (z.trans U) R2 (pZ.new oY X ?_) ((xS.one B G).back z);refine⟨by rw[qh,lMq,aB],λi d v t g2=>?_⟩
    have hi:i<j.toNat:=by
     have:=(gSq.mp t).1
     rwa [qh]at this
    rw[wI hi]at t;rw[gMq,cj hi]at g2;cases t;cases g2;exact .int
   .cases n
  .cases n
 .cases e
def Hv(S)a:HV a S=(a S).bind λx=>(CU x.1).bind λds=>vx (ds.length<=qM) (some (.ow (ds.map .sh),x.2)):=rfl
end Z
namespace Z
open PySem PySem.Spec PyProof.Rows L2 Mr
section
variable {K:Ζ}
def TF(f g:D->D->Option D)(a b c:ME):ME:=λS=>(a S).bind λx=>(b x.2).bind λy=>(f x.1 y.1).bind λd=>match d with
 | .bl true=>(c y.2).bind λz=>if y.1.scal=true then (g y.1 z.1).map λd'=>(d',z.2)else none
 | .bl false=>some (.bl false,y.2)
 |_=>none
def aaf(L:EJ K r f)(M:EJ K r' g)(ha:SR K s a)(hb:SR K t b)(O:SR K u c)(l:∀x y d,f x y=some d->x.scal=true):SR K (Qn r r' s t u) (TF f g a b c):=by
 intro H₀ n Hf S σ H Fs d S' R e Q q;obtain⟨x,P,e⟩:=oBq.mp e;obtain⟨y,U,e⟩:=oBq.mp e;obtain⟨k,B,e⟩:=oBq.mp e;refine ha R P _ λX H1 Fs1 v1 E Y r1=>hb Y U _ λHf2 H2 Fs2 v2 G R2 I=>?_
 refine L (r1.scal (l _ _ _ B)) I B λv J=>?_
 split at e
 .cases J;refine⟨true,rfl,Ho ?_⟩;obtain⟨z,e4,e⟩:=oBq.mp e;split at e
  .rename_i hy;obtain⟨d',e5,e⟩:=oMq.mp e;cases e;refine O R2 e4 _ λHf3 H3 Fs3 v3 t3 R3 r3=>?_
   exact M (I.scal hy) r3 e5 λw rw=>q _ _ _ w ((E.trans G).trans t3) R3 rw
  .cases e
 .cases J;cases e;exact⟨false,rfl,FI (q _ _ _ _ (E.trans G) R2 .bl)⟩
 .cases e
def abS x y d(h:FQ x y=some d):x.scal=true:=by
 cases x <;> first|rfl|cases h
def IX(f g)a b c S:TF f g a b c S=(a S).bind λx=>(b x.2).bind λy=>(f x.1 y.1).bind λd=>match d with
 | .bl true=>(c y.2).bind λz=>if y.1.scal=true then (g y.1 z.1).map λl=>(l,z.2)else none
 | .bl false=>some (.bl false,y.2)
 |_=>none:=rfl
end
end Z
namespace Z
open PySem L2 Mr Xe
abbrev XI:=List AV->Option (AV×AV)
noncomputable def aev(s n j:Nat)(m:MS):XI:=λl=>if l.length=s then (m (l.map some++aV (n-l.length) none)).bind λo=>match o with
  | .nx S'=>(S'[j]?.join).map λa=>(.sh .non,a)
  |_=>none
 else none
def Dl(s n j:Nat)(m:MS)(k:MK):XI:=λl=>if l.length=s then (m (l.map some++aV (n-l.length) none)).bind λo=>match o with
  | .nx S'=>(k S').bind λx=>(x.2[j]?.join).map λa=>(x.1,a)
  |_=>none
 else none
def Ph(K:Ζ)(j:Nat)(f:XI):Sp:=λvs H Q _=>∃Hf u n r,qd Hf H/\pU K Hf H u vs n/\n.flatten.Nodup/\f u=some r /\
 ∀l s v w F t,vs[j]?=some w->qd Hf l->(∀b,b∉n.flatten->∀o,H b=some o->s b=some o)->qd l s->(∀b,Hf b=none->H b≠none->b∉n.flatten->l b=none)->pZ K l s r.1 v F->pZ K l s r.2 w t->(F++t).Nodup->(∀q∈F++t,H q=none∨q∈n.flatten)->Q v s
noncomputable def Ot(H:Hp)(G:Δ):Hp:=λb=>if b∈G then none else H b
def N9(h:b∈G):Ot H G b=none:=pO h
def By(h:b∉G):Ot H G b=H b:=pK h
def ZK{Hf}N(s:qd Hf H)(r:pU K Hf H n vs l)(nd:l.flatten.Nodup) :
  qi K (Ot H l.flatten) Hf Hf (n.map some++aV (N.length-n.length) none) (L2.ux N vs) H (l++aV (N.length-n.length) []):=by
 obtain⟨t,B,h⟩:=r;have fl:(l++aV (N.length-n.length) []).flatten=l.flatten:=by rw[fAq,tS,aNq]
 refine⟨by simp[L2.ux,t],by simp[B],λi E e=>?_,λi e=>?_,by rw[fl];exact nd,λp u=>?_,s,λb o e=>?_,λb h _=>h,qd.refl _⟩
 .by_cases hi:i<n.length
  .rw[gZq (by simpa using hi),gMq]at e
   obtain⟨a,G,I⟩:=oMq.mp e;cases I;have x:=gEg (show i<vs.length by lia)
   have z:=gEg (show i<l.length by lia)
   refine⟨_,_,?_,?_,h i E _ _ G x z⟩
   .unfold L2.ux;rw[gZq (by simpa[←t]using hi),gMq,x]
    rfl
   .rw[gZq ∅]
    exact z
  .rw[gYq (by simpa using hi)]at e
   have J:=eU (mGq e);cases J
 .by_cases hi:i<n.length
  .rw[gZq (by simpa using hi),gMq,gEg hi]at e
   cases e
  .have hl:=(gSq.mp e).1;rw[lAq,lMq,bU]at hl;rw[gYq ∅,bK,pO ∅]
 .rw[fl]at u;exact N9 u
 .by_cases m:b∈l.flatten
  .rw[N9 m]at e;cases e
  .rw[By m]at e;exact e
def adF{s:List Δ}{j:Nat}{Q:VK}(hw:vs[j]?=some w)
  (x:qi K (Ot H s.flatten) Hf l S' t n u) (L:t[j]?=(L2.ux N vs)[j]?) (ha:S'[j]?.join=some a) (r:pZ K l n I v F) (nd:F.Nodup) (fr:∀q∈F,Ot H s.flatten q=none/\q∉u.flatten)
  (q:∀l n v w F B,vs[j]?=some w->qd Hf l->(∀b,b∉s.flatten->∀o,H b=some o->n b=some o)->qd l n->(∀b,Hf b=none->H b≠none->b∉s.flatten->l b=none)->pZ K l n I v F->pZ K l n a w B->(F++B).Nodup->(∀q∈F++B,H q=none∨q∈s.flatten)->Q v n):Q v n:=by
 obtain⟨X,B,J,M,O,E,P,_⟩:=x.move (ql ha);have G:(L2.ux N vs)[j]?=some (some w):=by
  have hl:=(gSq.mp hw).1;unfold L2.ux;rw[gZq (by simpa using hl),gMq,hw]
  rfl
 rw[L,G]at J;cases J;have un:∀q,Ot H s.flatten q=none->H q=none∨q∈s.flatten:=λq h=>by
  by_cases m:q∈s.flatten
  .exact .inr m
  .rw[By m]at h;exact .inl h
 refine q l n v w F B hw x.sf (λb hb o e=>x.fr b o (by rw[By hb];exact e)) x.sub (λb R S hb=>x.lim b R (by rw[By hb];exact S)) r O ?_ λp U=>?_
 .refine nAq.mpr ⟨nd,E,λa ha b hb e=>(fr a ha).2 (pP M (e ▸ hb))⟩
 .rcases mAq.mp U with z|z
  .exact un p (fr p z).1
  .exact un p (P p z).1
def KN{t}N(h:AD K [j] t m)(hk:SK K te k)(I:j<n)(hs:Ph K j (Dl n N.length j m k) vs H Q E):E1 t (Uh te) { nx:=λ_ u=>Q .non u,rt:=Q } (L2.ux N vs) H:=by
 obtain⟨Hf,as,Gs,r,s,z,nd,e,q⟩:=hs;unfold Dl at e;split at e
 .obtain⟨o,J,B⟩:=oBq.mp e;cases o with
  |nx S'=>
   obtain⟨x,L,M⟩:=oBq.mp (B);obtain⟨a,O,P⟩:=oMq.mp M;subst P;refine h (ZK N s z nd) J _ λR S u U s' X Y=>?_
   have hw:=gEg (show j<vs.length by have:=z.1;lia)
   refine hk X L _ λHf2 H2 Fs2 v F t2 R2 r2 l=>?_
   exact adF hw R2 (Y j (mSq.mpr rfl)) O r2 l.nd (λq G=>⟨l.fr q G,l.out q G⟩) q
  |_=>cases B
 .cases e
def Sd(hs:Ph K j (Dl l n j m k) vs H Q E):vs.length=l:=by
 obtain⟨Hf,u,x,r,s,t,nd,e,q⟩:=hs;unfold Dl at e;split at e
 .rename_i h;rw[←t.1,h]
 .cases e
def qi.chg{G:Δ}(R:qi K H₀ n Hf S σ H B)(E:∀q∈G,H₀ q=none/\q∉B.flatten)(sf:qd Hf s)(hs:∀b,b∉G->∀o,H b=some o->z b=some o)(sub:qd s z)(l:∀b,Hf b=none->H b≠none->b∉G->s b=none):qi K H₀ n s S σ z B:=by
 have out:=λq x m=>(E q m).2 x
 refine⟨R.len,R.lenF,λi M e=>?_,R.emp,R.nd,R.fresh,sub,λb o e=>?_,λb O I=>?_,R.sf.trans sf⟩
 .obtain⟨v,F,P,J,r⟩:=R.rep i M e;refine⟨v,F,P,J,r.keep sf (λq x=>?_) λq x=>?_⟩
  .have t:=pP J x;have hn:=(R.mem t).1;cases L:H q with
   |none=>exact absurd L hn
   |some u=>exact hs q (out q t) u L
  .have t:=pP J x;exact l q (R.mem t).2 (R.mem t).1 (out q t)
 .exact hs b (λm=>by rw[(E b m).1]at e;cases e) o (R.fr b o e)
 .refine l b (R.lim b O I) (NA R.fr I) λm=>I (E b m).1
def MJ{F:Δ}(R:qi K H₀ n Hf S σ H B)(hi:S[i]?=some none)(s1:σ[i]?=some (some w))(rs:pU K Hf H G vs I)(P:I.flatten=F)(nd:F.Nodup)(L:∀q∈F,H₀ q=none/\q∉B.flatten)(U:vs[j]?=some w)(e:f G=some r)
  (q:∀s u x v F,qd Hf s->qi K H₀ n s (S.set i (some r.2)) σ u x->pZ K s u r.1 v F->F.Nodup->(∀q∈F,H₀ q=none/\q∉x.flatten)->Q v u):Ph K j f vs H Q E:=by
 subst P;refine⟨Hf,G,I,r,R.sub,rs,nd,e,λs u v w' M X hw sf hs sub l Y r2 J new=>?_⟩
 rw[U]at hw;cases hw;have O:=R.chg L sf hs sub l;obtain⟨n1,n2,n3⟩:=nAq.mp J;have fr:∀q∈M++X,H₀ q=none/\q∉B.flatten:=λq t=>by
  rcases new q t with z|z
  .exact⟨R.fr.free z,λm=>(R.mem m).1 z⟩
  .exact L q z
 have R2:qi K H₀ n s (S.set i none) σ u (B.set i []):=by
  rw[C7 hi,C7 (O.emp i hi)];exact O
 have R3:=R2.again (F:=[]) s1 r2 n2 λq t=>⟨(fr q (aj _ t)).1,λm=>(fr q (aj _ t)).2 (qz m)⟩
 refine q s u _ v M sf R3 Y n1 λq t=>⟨(fr q (ao _ t)).1,λm=>?_⟩
 rcases rK m with z|z
 .exact n3 q t q z rfl
 .exact(fr q (ao _ t)).2 z
def DX(i:Nat)(f:XI)(k:MK)(a:MA):MK:=λS=>(sr k S).bind λz=>(qO z.2 i).bind λl=>(a (z.2.set i none)).bind λx=>(f (.sh (oN z.1) :: .ow l::x.1.map λa=>.sh (oN a))).bind λr=>vx (x.2[i]?=some none) (some (r.1,x.2.set i (some r.2)))
def Z7{l:List AV}(r:qo K Hf (l.map oN) vs):pU K Hf H (l.map λa=>AV.sh (oN a)) vs (aV l.length []):=by
 have:=Na (H:=H) r;rw[mPq,lMq]at this;exact this
def GC(hk:SK K te k)(ha:SA K B a):SW K (GW (Ph K 1 f) [] E0 (rN te (rN (wU i) B))) (DX i f k a):=by
 intro H₀ s Hf S σ H Fs av S' R e Q q;obtain⟨z,E,e⟩:=oBq.mp e;obtain⟨L,M,e⟩:=oBq.mp e;obtain⟨x,O,e⟩:=oBq.mp e;obtain⟨r,G,e⟩:=oBq.mp e;rcases pJ e with⟨hi,e⟩|e
 .cases e;have t:SK K te (sr k):=SK.frz hk;refine t R E _ λP H0 U v0 F0 t0 X I o0=>?_
  obtain⟨d,hd⟩:=ui (te:=te) E;rw[hd]at I G;have rd:=I.sh_inv.2;obtain⟨w,F,J,s2,u,nd,o,Y⟩:=X.move (qf M);refine⟨w,J,ha Y O _ λHf1 H1 Fs1 vs Gs t1 R2 r2 o2=>?_⟩
  obtain⟨R3,r3,l⟩:=R2.gives t1 r2 o2;have r':=u.stp (λq n=>(o q n).2) l
  rw[aNq];refine MJ R3 hi J (pU.cons (.sh (rd.mono l.sf)) (pU.cons r' (Z7 r3))) (by rw[fCq,cU,fCq,tS,aNq]) nd (λq n=>⟨(o q n).1,λm=>(o q n).2 (l.own q m)⟩) rfl G λHf' H' Fs' v Fv sf R4 rv n1 fr=>q _ _ _ v Fv ((t0.sf.trans l.sf).trans sf) R4 rv n1 fr
 .cases e
noncomputable def Bi(x:Nat)(body:MS):List D->AS->Option IC
 | [],S=>some (.nx S)
 |d::ds,S=>(body (S.set x (some (.sh d)))).bind λo=>match o with
   | .nx S'=>Bi x body ds S'
   |_=>none
def MV(x:Nat)(k:MK)(body:MS):MS:=λS=>(sr k S).bind λy=>(qL (oN y.1)).bind λds=>Bi x body ds y.2
def NP(ha:AD K J t m)(hb:AD K J u m'):AD K J (E1 t u) (oM m m'):=by
 intro H₀ l Hf S σ H U X R e D q;obtain⟨o,z,e⟩:=oBq.mp e;cases o with
 |nx Y=>exact ha R z _ λB E H1 Fs1 G I L=>hb I e _ λM O H2 Fs2 P R2 Q=>q _ _ _ _ (G.trans P) R2 λj s=>(Q j s).trans (L j s)
 |_=>cases e
def W8(hk:SK K te k)(hb:AD K J t body)(hJ:x∉J):AD K J (Ii (Gh K te) (rA x) t) (MV x k body):=by
 intro H₀ E Hf S σ H Fs Sz R e D h;obtain⟨z,e1,e⟩:=oBq.mp e;obtain⟨ds,e2,e⟩:=oBq.mp e;have hk':SK K te (sr k):=SK.frz hk;refine hk' R e1 _ λM H1 Fs1 v F t1 R1 r1 o1=>?_
 obtain⟨d,hd⟩:=ui (te:=te) e1;rw[hd]at r1;rw[hd]at e2;obtain⟨a,vs,rfl,g1,g2⟩:=tU e2 r1.sh_inv.2;refine⟨a,rfl,⟨vs,R1.sub.seq g1⟩,EO (λi l Y=>∃s O B,qi K H₀ E s O l Y B/\qd M s/\Bi x body (ds.drop i) O=some (.nx Sz)/\∀j∈J,l[j]?=σ[j]?) ⟨M,z.2,Fs1,R1,.refl _,e,λ_ _=>rfl⟩
  (λi l Y _ ⟨s,O,B,P,I,_⟩=>P.sub.seq (I.seq g1)) ?_ ?_⟩
 .rintro i w l Y hw ⟨s,O,B,P,I,L,Q⟩;obtain⟨di,U,rw'⟩:=g2.get' hw;have hlt:=(gSq.mp U).1;rw[ax hlt]at L;have X:=(gSq.mp U).2;rw[X]at L;obtain⟨ob,e3,e4⟩:=oBq.mp L;have hx:∀j∈J,(l.set x (some w))[j]?=l[j]?:=λj Q=>aC (λz=>hJ (by rw[z];exact Q))
  cases ob with
  |nx S2=>exact hb (P.setD x (rw'.mono I)) e3 _ λHf2 σ2 H2 Fs2 s2 R2 h2=>⟨Hf2,S2,Fs2,R2,I.trans s2,e4,λj G=>((h2 j G).trans (hx j G)).trans (Q j G)⟩
  |_=>cases e4
 .rintro l Y ⟨s,O,B,P,I,L,Q⟩;rw[←g2.1,cO]at L;cases L;exact h _ _ _ _ (t1.sf.trans I) P Q
def V0(hk:SK K te k):AD K J (zA (OQ K "list" vP (wU i) (rN te vy))) (uD i k):=by
 intro H₀ L Hf S σ H Fs o R e D h;obtain⟨a0,e0,e⟩:=oBq.mp e;obtain⟨x,e1,e⟩:=oBq.mp e;obtain⟨avs,e2,e⟩:=oBq.mp e;rcases pJ e with⟨hl,e⟩|e
 .cases e;obtain⟨p,vs,Gs,M,_,h1,_⟩:=R.ow (qf e0);refine⟨.ref p,M,.inl ⟨rfl,vs,rF.of h1⟩,hk R e1 _ λHf1 H1 Fs1 v F t1 X r1 s=>?_⟩
  obtain⟨p',O,Gs',B,l,P,Q,E,G,U,I⟩:=X.ow (qf e2);rw[M]at B;cases B;have Y:=λm=>s.out p m (pP l ⋯)
  refine⟨p,O,v,rfl,rfl,P,by rw[←E.1];exact hl,h _ _ _ _ t1.sf (X.turn M l ⋯ (pZ.news oY Q ((E.keepUpd G).snoc (r1.keepUpd Y))) ?_ λq hq=>?_) λ_ _=>rfl⟩
  .rw[fAq,aQ];refine aq.mpr ⟨λm=>(mAq.mp m).elim G Y,nAq.mpr ⟨U,s.nd,λa ha b hb e=>s.out b hb (pP l (mCo _ (e ▸ ha)))⟩⟩
  .rw[fAq,aQ]at hq;rcases aa.mp hq with z|z
   .exact I q (by rw[z];simp)
   .rcases mAq.mp z with z|z
    .exact I q (mCo _ z)
    .exact⟨s.fr q z,λm=>s.out q z (qz m)⟩
 .cases e
def M0(ha:AD K J t m)(hb:AD K J u m'):AD K J (E1 t u) (oM m m'):=NP ha hb
def Wq(hk:SK K te k)(hb:AD K J t body)(l:x∉J:=by decide):AD K J (Ii (Gh K te) (rA x) t) (MV x k body):=W8 hk hb l
def Y2(s:DE K c l)(ha:AD K J t m)(hb:AD K J u m'):AD K J (Sq c t u) (zC l m m'):=R7 s ha hb
def DN(hk:SK K te k)(l:i∉J:=by decide):AD K J (FU te (rA i)) (oX i k):=Ic hk l
def HU(hk:SK K te k):AD K J (zA (OQ K "list" vP (wU i) (rN te vy))) (uD i k):=V0 hk
def J6:AD K J Np qK:=Jy λ_ _ _ h=>h
def ZS(x)k body S:MV x k body S=(sr k S).bind λy=>(qL (oN y.1)).bind λds=>Bi x body ds y.2:=rfl
theorem Xv(P:Nat->AS->Prop):∀{ds}{S}{k},P k S->(∀i d S,ds[i]?=some d->P (k+i) S->∃S',body (S.set x (some (.sh d)))=some (.nx S')/\P (k+i+1) S')->∃S',Bi x body ds S=some (.nx S')/\P (k+ds.length) S'
 | [],S,k,l,_=>⟨S,rfl,l⟩
 |d::ds,S,k,l,hs=>by
  obtain⟨S',e,n⟩:=hs 0 d S rfl l;obtain⟨s,t,u⟩:=Xv P n λi d S h p=>by
   have:=hs (i+1) d S (by simpa using h) (by rw[show k+(i+1)=k+1+i by lia];exact p)
   rwa [show k+(i+1)=k+1+i by lia]at this
  refine⟨s,?_,by rw[lCq,show k+(ds.length+1)=k+1+ds.length by lia];exact u⟩
  show(body (S.set x (some (.sh d)))).bind _=_;rw[e];exact t
def MB(f:D->Option D)(m:ME):ME:=λS=>(m S).bind λx=>(f x.1).bind λz=>if z.scal=true then some (z,x.2)else none
def Qq(f)m S:MB f m S=(m S).bind λx=>(f x.1).bind λz=>if z.scal=true then some (z,x.2)else none:=rfl
def Xq{m}(hr:UnD K r f)(ha:SM K s m):SM K (tUn r s) (MB f m):=by
 intro H₀ l Hf S σ H O d P R e Q q;obtain⟨x,B,e⟩:=oBq.mp e;obtain⟨z,G,e⟩:=oBq.mp e;split at e
 .rename_i hs;cases e;exact ha R B _ λI U Fs1 X J u L=>hr (L.mono u.sub) G λv M=>q _ _ _ v J u (M.scal hs)
 .cases e
end Z
namespace Z
open PySem PySem.Spec PyProof.Rows L2 Mr Xe
def Oh:uf X (.type "int") (λl H Q=>∃b,l=[.bl b]/\Q (.int (if b=true then 1 else 0)) H):=by
 intro t s σ H l x Q I r h;obtain⟨b,rfl,q⟩:=h;obtain⟨u,rfl,n⟩:=vH r;cases n;exact call_int_bool ⟨.int (if b=true then 1 else 0),H,I.tok _,⟨_,rfl⟩,q⟩
noncomputable def Kj:List D->Option D
 | [.bl b]=>some (.int (if b=true then 1 else 0))
 |_=>none
def UM b:Kj [.bl b]=some (.int (if b=true then 1 else 0)):=rfl
def Wz{K}:Ry K (λl H Q=>∃b,l=[.bl b]/\Q (.int (if b=true then 1 else 0)) H) Kj:=by
 intro t H Q u d r e q;unfold Kj at e;split at e
 .obtain⟨v,x,rfl,n,s⟩:=r.cons_inv;rw[s.nil_inv];cases n;cases e;exact⟨_,rfl,q _ .int⟩
 .cases e
end Z
namespace Z
open PySem L2 Mr Xe
def Mu(k l:MK)(fr:Θ)(t:MT)(te:MK):MK:=λS=>(sr k S).bind λy=>(sr l y.2).bind λw=>(qL (oN y.1)).bind λds=>(qL (oN w.1)).bind λs=>(fzAll fr w.2).bind λS2=>(C9 S2 fr).bind λcap=>vx (ds.length=s.length/\ds.length<=qM) ((vI t te cap (ds.zip s)).map λn=>(.ow n,S2))
def VR(S)k l fr s te:Mu k l fr s te S=(sr k S).bind λy=>(sr l y.2).bind λw=>(qL (oN y.1)).bind λds=>(qL (oN w.1)).bind λt=>(fzAll fr w.2).bind λS2=>(C9 S2 fr).bind λcap=>vx (ds.length=t.length/\ds.length<=qM) ((vI s te cap (ds.zip t)).map λn=>(.ow n,S2)):=rfl
def To(hk:SK K tl k)(hm:SK K J l)(hf:DE K tf mf)(he:SK K te me):SK K (S5 K (Yn K (rN tl (rN J vy))) fr tf te) (Mu k l fr mf me):=by
 intro H₀ P Hf S σ H Fs av S' R e Q q;obtain⟨z,e0,e⟩:=oBq.mp e;obtain⟨w,B,e⟩:=oBq.mp e;obtain⟨U,e2,e⟩:=oBq.mp e;obtain⟨es,E,e⟩:=oBq.mp e;obtain⟨S2,e3,e⟩:=oBq.mp e;obtain⟨cap,e4,e⟩:=oBq.mp e;rcases pJ e with⟨⟨n,hl⟩,e⟩|e
 .obtain⟨avs,e5,e⟩:=oMq.mp e;cases e;have X:SK K tl (sr k):=SK.frz hk;have Y:SK K J (sr l):=SK.frz hm;refine X R e0 _ λHf1 H1 Fs1 v F t1 R1 r1 o1=>Y R1 B _ λHf2 H2 Fs2 v2 F2 t2 R2 r2 o2=>?_
  obtain⟨d,hd⟩:=ui (te:=tl) e0;obtain⟨d2,G⟩:=ui (te:=J) B;rw[hd]at r1;rw[hd]at e2;rw[G]at r2;rw[G]at E;obtain⟨Hf3,Fs3,L,R3⟩:=R2.fzAll e3;obtain⟨a,I,rfl,M,g2⟩:=tU e2 ((r1.sh_inv.2.mono t2.sf).mono L.sf);obtain⟨b,u,rfl,O,g4⟩:=tU E (r2.sh_inv.2.mono L.sf);have lz:(U.zip es).length=U.length:=by rw[jq,n,jH]
  have lv:=g2.1.symm;have lw:u.length=U.length:=by rw[←g4.1,n]
  refine⟨a,b,rfl,⟨I,R3.sub.seq M⟩,⟨u,R3.sub.seq O⟩,Lj hf he R3 e4 (by rw[lz];exact hl) e5 (λi H s hi=>⟨I,u,I[i]'∅,u[i]'∅,s.seq M,s.seq O,gEg ∅,gEg ∅⟩) (λH s=>⟨I,u,s.seq M,s.seq O,by lia⟩) (λi H x H' s hi y=>?_) λHf' H' v F t R' r o=>q _ _ _ v F (((t1.trans t2).trans L).trans t) R' r (o.back ((t1.trans t2).trans L))⟩
  obtain⟨T,x',y',hT,rfl,rfl,hx,hy⟩:=y;obtain⟨di,h1,h2⟩:=g2.get' (hx I (s.seq M));obtain⟨ei,h3,h4⟩:=g4.get' (hy u (s.seq O));refine⟨T,x',y',(di,ei),rfl,DG.of oY,?_,h2,h4,.inr ⟨_,hT,rfl⟩⟩;rw[eO];exact⟨h1,h3⟩
 .cases e
end Z
namespace Z
open PySem PySem.Spec PyProof.Rows L2 Mr Xe
section
variable {sL:List Expr}
def acb(K:Ζ)(ta tb:TE):TE:=λσ H Q=>ta σ H λx l=>∃k,U4 K x l k/\if k=true then Q x l else tb σ l Q
def Yd(ha:PE X a ta)(hb:PE X (.BoolOp .Or (b::sL) pos) tb):PE X (.BoolOp .Or (a::b::sL) pos) (acb X.K ta tb):=by
 intro n s σ H Q I h;refine BoolOp_or (thn (ha n s σ H _ I h) λv G t=>?_)
 obtain⟨x,J,L,z,k,M,B⟩:=t;refine thn (Rj n G σ J x v (λc l=>(c=true->Q x l)/\(c=false->tb σ l Q)) L z ⟨k,M,?_⟩) λc O u=>?_
 .cases k with
  |true=>exact⟨λ_=>B,λh=>by cases h⟩
  |false=>exact⟨λh=>(by cases h),λ_=>B⟩
 .obtain⟨l,E,P,R⟩:=u;cases c with
  |false=>exact hb n O σ l Q E (R rfl)
  |true=>exact⟨x,l,E,z,P rfl⟩
end
section
variable {K:Ζ}
noncomputable def Y3(k l:MK):MK:=λS=>(k S).bind λx=>match x.1 with
 | .ow n=>if n.isEmpty=true then l x.2 else some x
 |_=>none
def XE(k l)S:Y3 k l S=(k S).bind λx=>match x.1 with
 | .ow n=>if n.isEmpty=true then l x.2 else some x
 |_=>none:=rfl
def XX(ha:SK K ta k)(hb:SK K tb l):SK K (acb K ta tb) (Y3 k l):=by
 intro H₀ t Hf S σ H Fs G I R e Q q;obtain⟨x,u,e⟩:=oBq.mp e;refine ha R u _ λJ H1 Fs1 v F z B s L=>?_
 split at e
 .rename_i n E;rw[E]at s;obtain⟨p,M,Gs,rfl,rfl,O,h2,P⟩:=s.ow_inv;refine⟨!n.isEmpty,.inl ⟨M,rF.of O,xf P.1⟩,?_⟩;cases c:n.isEmpty with
  |true=>
   rw[c]at e;exact hb B e _ λU H2 Fs2 v2 F2 X R2 Y o2=>q _ _ _ _ _ (z.trans X) R2 Y (o2.back z)
  |false=>
   rw[c]at e;have e:=aA.inj e;have u:x.1=G:=by rw[e]
   have e2:x.2=I:=by rw[e]
   rw[←E,u]at s;rw[e2]at B;exact q _ _ _ _ _ z B s L
 .cases e
end
end Z
namespace Z
open PySem L2 Mr Xe
def SSr(K:Ζ)(J:Θ)(t:TS)(m:MS)(k:MK):Prop:=∃t0 te,t=E1 t0 (Uh te)/\AD K J t0 m/\SK K te k
def WJ(hk:SK K te k):SSr K J (Uh te) qK k:=⟨Np,te,rfl,J6,hk⟩
def BQ(ha:AD K J t m)(hr:SSr K J u m' k):SSr K J (E1 t u) (oM m m') k:=by
 obtain⟨t0,te,rfl,l,n⟩:=hr;exact⟨E1 t t0,te,rfl,NP ha l,n⟩
def KZ{n}N(h:SSr K [j] t m k)(l:j<n)(hs:Ph K j (Dl n N.length j m k) vs H Q E):t { nx:=λ_ s=>Q .non s,rt:=Q } (L2.ux N vs) H:=by
 obtain⟨t0,te,rfl,x,z⟩:=h;exact KN N x z l hs
def yh(i)f k a S:DX i f k a S=(sr k S).bind λz=>(qO z.2 i).bind λl=>(a (z.2.set i none)).bind λx=>(f (.sh (oN z.1) :: .ow l::x.1.map λa=>.sh (oN a))).bind λr=>vx (x.2[i]?=some none) (some (r.1,x.2.set i (some r.2))):=rfl
noncomputable def yM(c:MT)(body:MS):Nat->MS
 |0,_=>none
 |n+1,S=>(c S).bind λx=>if x.1=true then (body x.2).bind λo=>match o with
   | .nx S'=>yM c body n S'
   |_=>none
  else some (.nx x.2)
section
variable {J:Θ}
def Pi{m}n(hc:DE K c m)(hb:AD K J t body):AD K J (LR c t) (yM m body n):=by
 intro H₀ s Hf S σ H Fs U R e D h;refine⟨λn G X=>∃l I B,qi K H₀ s l I G X B/\qd Hf l/\yM m body n I=some (.nx U)/\∀j∈J,G[j]?=σ[j]?,⟨n,Hf,S,Fs,R,.refl _,e,λ_ _=>rfl⟩,?_⟩
 rintro n G X ⟨l,I,B,R',Y,e',hj⟩;cases n with
 |zero=>cases e'
 |succ n=>
  obtain⟨z,e1,O⟩:=oBq.mp e';refine hc R' e1 _ λHf1 H1 Fs1 t1 R1=>?_
  split at O
  .rename_i M;rw[M];refine Ho ⟨λE P=>∃l I B,qi K H₀ s l I E P B/\qd Hf l/\yM m body n I=some (.nx U)/\∀j∈J,E[j]?=σ[j]?,λE P w=>⟨n,dC n,w⟩,?_⟩
   obtain⟨ob,e3,e4⟩:=oBq.mp O;cases ob with
   |nx S2=>exact hb R1 e3 _ λQ E P Fs2 s2 R2 h2=>⟨Q,S2,Fs2,R2,(Y.trans t1.sf).trans s2,e4,λj L=>(h2 j L).trans (hj j L)⟩
   |_=>cases e4
  .rename_i M;rw[dD]at M;rw[M];cases O;exact FI (h _ _ _ _ (Y.trans t1.sf) R1 hj)
def Pj{m}(h:SM K te m):AD K J (zA te) (E9 m):=by
 intro H₀ l Hf S σ H E o R e D hd;obtain⟨x,n,e⟩:=oMq.mp e;cases e;exact h R n _ λs G Fs1 v z B I=>hd _ _ _ _ z B λ_ _=>rfl
def OS(hp:SPh K i tp O)(hk:SM K te P):AD K J (zA (OQ K "list" vP tp (rN te vy))) (Fx i O P):=by
 intro H₀ E Hf S σ H Fs o R e D h;obtain⟨x,e1,e⟩:=oBq.mp e;obtain⟨l,e2,e⟩:=oBq.mp e;obtain⟨as,G,e⟩:=oBq.mp e;obtain⟨y,e4,e⟩:=oBq.mp e;rcases pJ e with⟨⟨hn,hl⟩,e⟩|e
 .cases e;refine hp R e1 _ λHf1 H1 Fs1 v w t1 z B n=>?_
  have s:=qf e2;obtain⟨p,vs,rfl,h1,h2⟩:=Cj z s B G n;obtain⟨v',F,Q,U,r,nd,oo,_⟩:=z.move s;rw[B]at Q;cases Q;refine⟨.inl ⟨rfl,vs,rF.of h1⟩,hk (z.frame U) e4 _ λHf2 H2 Fs2 u X R2 r2=>?_⟩
  obtain⟨k1,k2,R3⟩:=z.unframe U r nd (λq I=>(oo q I).1) R2 hn B X
  have L:=(gSq.mp hn).1;have e5:(y.2.set i (some (.ow l)))[i]?=some (some (.ow l)):=aW L;obtain⟨M,g1,g2,g3⟩:=R3.grow e5 B G (n.kept r G k1);obtain⟨Fs',Y⟩:=g3 [.sh y.1] [u] [[]] (pU.nil.snoc (.sh r2)) ⋯ (λq I=>by simp at I)
  rw[gQ]at Y;exact⟨p,M,u,rfl,rfl,g1,by rw[←g2];exact hl,h _ _ _ _ (t1.sf.trans X) Y λ_ _=>rfl⟩
 .cases e
def Qm(K:Ζ)(J:Θ)(x i:Nat)(t:TS)(m:Θ->MS):Prop:=∀{path}{H₀ l Hf}{S}{σ}{H}{E}{S'},qi K H₀ l Hf S σ H E->Als x i path S σ H->m path S=some (.nx S')->∀D:AI,(∀s n B z,qd Hf s->qi K H₀ l s S' n B z->(∀j∈J,n[j]?=σ[j]?)->D.nx n B)->t D σ H
def V8{m}(U:SPh K i te L)(X:Qm K J x i t m)(Y:x∉J:=by decide):AD K J (E1 (FU te (rA x)) t) (QD x i L m):=by
 intro H₀ B Hf S σ H Fs o R e D h;obtain⟨y,e1,e⟩:=oBq.mp e;obtain⟨E,M,e⟩:=oBq.mp e;obtain⟨as,O,e⟩:=oBq.mp e;rcases pJ e with⟨⟨l,G⟩,e⟩|e
 .refine U R e1 _ λHf1 H1 Fs1 v w t1 I P Q=>?_
  obtain⟨p,vs,rfl,h1,h2⟩:=Cj I (qf M) P O Q;have R2:=(I.kill x).any (V.ref p);refine X R2 ⟨v,p,E,as,?_,O,?_,?_,Q⟩ e D λHf' σ' H' Fs' s R' hj=>h _ _ _ _ (t1.sf.trans s) R' λj n=>(hj j n).trans (aC (λz=>Y (by rw[z];exact n)))
  .rw[aC l];exact qf M
  .exact aW (by rw[←I.len];exact G)
  .rw[aC l];exact P
 .cases e
def TZ(h:AD K J t m):Qm K J x i t (λ_=>m):=λR _ e D o=>h R e D o
def Vh(ha:Qm K J x i t a)(hb:AD K J u b):Qm K J x i (E1 t u) (λpath=>oM (a path) b):=by
 intro path H₀ n Hf S σ H U o R A e D h;obtain⟨y,z,e⟩:=oBq.mp e;cases y with
 |nx X=>exact ha R A z _ λB E Y G s I L=>hb I e D λM O H2 Fs2 P R2 Q=>h _ _ _ _ (s.trans P) R2 λj l=>(Q j l).trans (L j l)
 |_=>cases e
def L9{m}(X:DE K c m)(ha:Qm K J x i t a)(hb:Qm K J x i u b):Qm K J x i (Sq c t u) (E3 i m a b):=by
 intro path H₀ n Hf S σ H Fs o R A e D h;obtain⟨y,Y,e⟩:=oBq.mp e;obtain⟨G,e2,e⟩:=oBq.mp e;obtain⟨as,e3,e⟩:=oBq.mp e;obtain⟨v,p,_,_,_,_,s2,s1,I⟩:=A;refine X R Y _ λL H1 Fs1 O P=>?_
 have Q:Als x i path y.2 σ H1:=⟨v,p,G,as,qf e2,e3,s2,s1,I.same O.sh⟩;have U:∀z l M B,qd L z->qi K H₀ n z o l M B->(∀j∈J,l[j]?=σ[j]?)->D.nx l M:=λz l M B s R' j=>h _ _ _ _ (O.sf.trans s) R' j
 split at e
 .rename_i E;rw[E];exact Ho (ha P Q e D U)
 .rename_i E;rw[dD]at E;rw[E];exact FI (hb P Q e D U)
def Xk(hk:SK K te k):Qm K J x i (zA (OQ K "list" vP (wU x) (rN te vy))) (JG i k):=by
 intro path H₀ n Hf S σ H Fs o R A e D h;obtain⟨y,I,e⟩:=oBq.mp e;obtain⟨L,M,e⟩:=oBq.mp e;obtain⟨as,O,e⟩:=oBq.mp e;rcases pJ e with⟨hl,e⟩|e
 .cases e;obtain⟨v,p,a0,n0,P,Q,U,E,l⟩:=A;obtain⟨p',X,Y,h1,h2⟩:=Cj R P E Q l;cases Y;refine⟨.ref p,U,.inl ⟨rfl,X,rF.of h1⟩,hk R I _ λHf2 H2 Fs2 u F G R2 r2 s=>?_⟩
  obtain⟨z,g1,g2,g3⟩:=R2.grow (qf M) E O (l.same G.sh);obtain⟨Fs',R3⟩:=g3 [y.1] [u] [F] (pU.nil.snoc r2) (by rw[aQ];exact s.nd) (λq B=>by rw[aQ]at B;exact⟨s.fr q B,s.out q B⟩)
  exact⟨p,z,u,rfl,rfl,g1,by rw[←g2];exact hl,h _ _ _ _ G.sf R3 λ_ _=>rfl⟩
 .cases e
def Su(hk:SM K te M):Qm K J x i (zA (OQ K "list" vP (wU x) (rN te vy))) (Fz i M):=by
 intro path H₀ B Hf S σ H Fs o R A e D h;obtain⟨l,X,e⟩:=oBq.mp e;obtain⟨as,E,e⟩:=oBq.mp e;obtain⟨y,Y,e⟩:=oBq.mp e;rcases pJ e with⟨⟨hn,hl⟩,e⟩|e
 .cases e;obtain⟨v,p,a0,n0,_,_,s2,z,n⟩:=A;have s:=qf X;obtain⟨p',vs,hp,h1,h2⟩:=Cj R s z E n;cases hp;obtain⟨v',F,O,P,r,nd,oo,_⟩:=R.move s;rw[z]at O;cases O;refine⟨.ref p,s2,.inl ⟨rfl,vs,rF.of h1⟩,hk (R.frame P) Y _ λHf2 H2 Fs2 u Q R2 r2=>?_⟩
  obtain⟨k1,k2,R3⟩:=R.unframe P r nd (λq G=>(oo q G).1) R2 hn z Q
  have I:=(gSq.mp hn).1;have e5:(y.2.set i (some (.ow l)))[i]?=some (some (.ow l)):=aW I;obtain⟨L,g1,g2,g3⟩:=R3.grow e5 z E (n.kept r E k1);obtain⟨Fs',U⟩:=g3 [.sh y.1] [u] [[]] (pU.nil.snoc (.sh r2)) ⋯ (λq G=>by simp at G)
  rw[gQ]at U;exact⟨p,L,u,rfl,rfl,g1,by rw[←g2];exact hl,h _ _ _ _ Q U λ_ _=>rfl⟩
 .cases e
def HE{m}(ha:AD K (x::i::J) t a)(X:Qm K J x i u m):Qm K J x i (E1 t u) (Fl i a m):=by
 intro path H₀ z Hf S σ H Fs o R A e D h;obtain⟨B,Y,e⟩:=oBq.mp e;obtain⟨oo,e3,e⟩:=oBq.mp e;cases oo with
 |nx S1=>
  rcases pJ (e)with⟨hn,e⟩|e
  .obtain⟨v,p,a0,n0,l,M,s2,E,G⟩:=A;have O:=qf Y;rw[O]at l;cases l;obtain⟨v',F,P,Q,r,nd,ow,_⟩:=R.move O;rw[E]at P;cases P;refine ha (R.frame Q) e3 _ λHf' σ' H' Fs' s R' I=>?_
   have j1:=I x ⋯
   have U:=I i ⋯
   obtain⟨k1,k2,R3⟩:=R.unframe Q r nd (λq hq=>(ow q hq).1) R' hn (U.trans E) s
   have L:=(gSq.mp hn).1;exact X R3 ⟨v,p,B,n0,aW L,M,j1.trans s2,U.trans E,G.kept r M k1⟩ e D λHf2 σ2 H2 Fs2 s' R2 h2=>h _ _ _ _ (s.trans s') R2 λj n=>(h2 j n).trans (I j (by simp[n]))
  .cases e
 |_=>cases e
noncomputable def K3(i:Nat)(k:MK):MS:=λS=>(k S).map λx=>.nx (x.2.set i (some (.ow [x.1])))
def Tf(hk:SW K te k):SS K (FU (Yt (rN te vy)) (rA i)) (K3 i k):=by
 intro H₀ l Hf S σ H Fs o R e D hd;obtain⟨x,L,e⟩:=oMq.mp e;cases e;refine hk R L _ λn M Fs1 v F O P s Q B=>⟨by show 1<=16777216;decide,λp E=>?_⟩
 obtain⟨t2,R2,U,X,Y⟩:=P.new E;have G:=λm=>(s.owned p m).1 E
 have I:pZ K n (qE M p (.lst [v])) (.ow [x.1]) (.ref p) (p::[F].flatten):=pZ.news oY U (pU.nil.snoc (s.keepUpd G));rw[aQ]at I;refine hd _ _ _ _ O (R2.set i I (aq.mpr ⟨G,Q⟩) λq hq=>?_)
 rcases aa.mp hq with z|z
 .rw[z];exact⟨X,Y⟩
 .exact⟨(B q z).1,(B q z).2⟩
def Ug(i:Nat)(k:MK):MS:=λS=>(qO S i).bind λ_=>(k S).bind λx=>(qO x.2 i).bind λl=>vx (l.length<qM) (some (.nx (x.2.set i (some (.ow (l++[x.1]))))))
def Wg(hk:SW K te k):SS K (zA (OQ K "list" vP (wU i) (rN te vy))) (Ug i k):=by
 intro H₀ I Hf S σ H Fs o R e D h;obtain⟨a0,e0,e⟩:=oBq.mp e;obtain⟨x,e1,e⟩:=oBq.mp e;obtain⟨avs,e2,e⟩:=oBq.mp e;rcases pJ e with⟨hl,e⟩|e
 .cases e;obtain⟨p,vs,Gs,L,_,h1,_⟩:=R.ow (qf e0);refine⟨.ref p,L,.inl ⟨rfl,vs,rF.of h1⟩,hk R e1 _ λHf1 H1 Fs1 v F t1 U r1 n1 G=>?_⟩
  obtain⟨p',M,Gs',n,l,O,P,s,B,Q,E⟩:=U.ow (qf e2);rw[L]at n;cases n;have X:=λm=>(G p m).2 (pP l ⋯)
  refine⟨p,M,v,rfl,rfl,O,by rw[←s.1];exact hl,h _ _ _ _ t1 (U.turn L l ⋯ (pZ.news oY P ((s.keepUpd B).snoc (r1.keepUpd X))) ?_ λq Y=>?_)⟩
  .rw[fAq,aQ];refine aq.mpr ⟨λm=>(mAq.mp m).elim B X,nAq.mpr ⟨Q,n1,λa ha b hb e=>(G b hb).2 (pP l (mCo _ (e ▸ ha)))⟩⟩
  .rw[fAq,aQ]at Y;rcases aa.mp Y with z|z
   .exact E q (by rw[z];simp)
   .rcases mAq.mp z with z|z
    .exact E q (mCo _ z)
    .exact⟨(G q z).1,λm=>(G q z).2 (qz m)⟩
 .cases e
end
def Ao(S)i k:K3 i k S=(k S).map λx=>.nx (x.2.set i (some (.ow [x.1]))):=rfl
def HK(S)i k:Ug i k S=(qO S i).bind λ_=>(k S).bind λx=>(qO x.2 i).bind λl=>vx (l.length<qM) (some (.nx (x.2.set i (some (.ow (l++[x.1])))))):=rfl
theorem FX(hb:∀S o,body S=some o->∃S',o = .nx S'):∀{n}{S}{o},rH c body n S=some o->yM c body n S=some o
 |0,S,o,e=>e
 |n+1,S,o,e=>by
  obtain⟨x,z,e⟩:=oBq.mp (e);show((c S).bind _)=_;rw[z];show(if x.1=true then _ else _)=_
  split at e
  .rename_i l;rw[pO l];obtain⟨E,s,B⟩:=oBq.mp e;obtain⟨S',rfl⟩:=hb _ _ s;rw[s];exact FX hb B
  .rename_i l;rw[pK l];exact e
end Z
namespace Mr
open PySem PySem.Spec PyProof.Rows L2
def qZ(S:oZ N P sc)(n:PE X e te)(s:X.N=N:=by rfl)(hi:X.N[i]?=some x:=by rfl)(t:Zh X.env.scope x:=by first|exact jb rfl|exact gO rfl)(hs:nv e (some (.Name x l)) pos.line X.env=pure false:=by rfl)(u:X.fn x=true∨X.env.scope.names.lookup x=some .local:=by trivial) :
  PS X (.Assign [.Name x l] e pos) (FU te (rA i)):=ZE (s ▸ S.nd) hi t n hs u
def Do(S:oZ N P sc)(l:X.N=N:=by rfl)(hi:X.N[i]?=some x:=by rfl)(n:Zh X.env.scope x:=by first|exact jb rfl|exact gO rfl)(s:X.fn x=true∨X.env.scope.names.lookup x=some .local:=by trivial):PG X (.Name x pos) (rA i):=Cz (l ▸ S.nd) hi n s
section
variable {st:Stmt}
def xv(G:Fn X.prog X.w X.K X.mg X.base k x st ps sp f fd)(hr:vv n X.A)(ha:PA X (e::es) t)(hk:k<=n:=by decide)(u:Gl X x:=by rfl)(l:(x == ("__debug__" : Str))=false:=by decide)
  (z:kf (e::es) X.env=(false,eval e X.env)::kf es X.env:=by rfl) (s:(lu pos (kf es X.env)).any (·.1)=false:=by rfl) :
  PE X (.Call (.Name x p) (e::es) [] pos) (GW sp [] E0 t):=abc G (hr.mono hk) ha u l z s
end
def sC(a:l.kind = .function:=by rfl)(b:l.isCoroutine=false:=by rfl)(c:l.isGenerator=false:=by rfl)(d:N.Nodup:=by trivial)(e:N.take P.length=P:=by rfl)(f:∀x∈P,l.names.lookup x=some .local∨l.names.lookup x=some .cell:=by trivial)(g:∀y∈l.names,y.2 ≠ .free:=by trivial):oZ N P l:=⟨a,b,c,d,e,f,g⟩
def YD{K}{st}(D:yu K mg x st ps f fd)(S:oZ N ps (oJ st))
  (h:∀l A outer s H E,vv k (A.deeper (lJ x (oJ st) s.heap.objs.size f l))->(A.deeper (lJ x (oJ st) s.heap.objs.size f l)).units+64<kE->(A.deeper (lJ x (oJ st) s.heap.objs.size f l)).units+65<kE ->
   ∃t,KD (IS Xj P w K mg base N x (oJ st) f l A outer s H E).nox (ur st) t/\Z.SS K t m):Fn P w K mg base (k+1) x st ps (Z.sq K (Z.rG ps.length N.length m)) f fd:=
 ⟨D,D.F.ok S (λn H Q E h=>Z.SC h) λl A outer s H n Q E hr hh=>by
  obtain⟨t,a,b⟩:=h l A outer s H E hr hr.units (vv.units65 hr);exact⟨t,a,Z.Kz N b hh⟩⟩
def CA{K}{st}(D:yu K mg x st ps f fd)(S:oZ N ps (oJ st))
  (h:∀l A outer s H E,oZ N ps (oJ st)->vv k (A.deeper (lJ x (oJ st) s.heap.objs.size f l))->(A.deeper (lJ x (oJ st) s.heap.objs.size f l)).units+64<kE->(A.deeper (lJ x (oJ st) s.heap.objs.size f l)).units+65<kE ->
   ∃t,Z.SS K t m/\KD (IS Xj P w K mg base N x (oJ st) f l A outer s H E).nox (ur st) t):Fn P w K mg base (k+1) x st ps (Z.sq K (Z.rG ps.length N.length m)) f fd:=
 ⟨D,D.F.ok S (λn H Q E h=>Z.SC h) λl A outer s H n Q E hr hh=>by
  obtain⟨t,b,a⟩:=h l A outer s H E S hr hr.units (vv.units65 hr);exact⟨t,a,Z.Kz N b hh⟩⟩
def Yg(n:X.A.units+1<kE)(hi:PE X i ty)(s:PE X o l)(t:lV .NotIn o=false):PT X (.Compare i [.NotIn] [o] pos) (tB (HW ty l)):=TJ (Gj n hi s) t
end Mr
namespace Mr
open PySem L2
variable {K:Ζ}{mg:Str->Υ}
structure At (K:Ζ)(x:Str)(st:Stmt)(f:Addr)(fd:ky):Prop where
 a:W.nsIn K kc x=some (some (.ref f))
 F:Xr K x x st f fd
section
variable {kV:Value}{osl:Array Υ}
def abX(a:W.nsIn K kc x=some (some (.ref f)))(l:K.lookup f=some ⟨oc,od,.func (W.fnOf x x (vM st) (ur st) (oJ st) .none kV doc pm an wV ct),osl⟩)
  (c:W.codeIn K wV x=true) (k:W.keepIn K (.ref f)=true):At K x st f (W.fnOf x x (vM st) (ur st) (oJ st) .none kV doc pm an wV ct):=⟨a,K9 l c k⟩
end
abbrev BA(x q:Str)(st:Stmt)(ps:List Str)(n:Ξ):Prop:=∀(kV l pm:Value) (s:Option Addr) (t ct:Value),bindArgs (W.fnOf x q (vM st) (ur st) (oJ st) .none kV l pm s t ct) ⟨n,[]⟩=pure (ps.zip n)
section
variable (F:Xr K x q st f fd)
include F
def b1(h:∀u,BA x q st [a] [u]:=by exact λ_ _ _ _ _ _ _=>rfl):AJ K fd [a] []:=F.binds λ_ _ _ _ _ _ n hl=>by
 obtain - | ⟨u, - | ⟨v,l⟩⟩:=n <;> cases hl
 apply h
def b2(h:∀u v,BA x q st [a,b] [u,v]:=by exact λ_ _ _ _ _ _ _ _=>rfl):AJ K fd [a,b] []:=F.binds λ_ _ _ _ _ _ n hl=>by
 obtain - | ⟨u, - | ⟨v, - | ⟨w,l⟩⟩⟩:=n <;> cases hl
 apply h
def b3(h:∀u v w,BA x q st [a,b,c] [u,v,w]:=by exact λ_ _ _ _ _ _ _ _ _=>rfl):AJ K fd [a,b,c] []:=F.binds λ_ _ _ _ _ _ n hl=>by
 obtain - | ⟨u, - | ⟨v, - | ⟨w, - | ⟨y,l⟩⟩⟩⟩:=n <;> cases hl
 apply h
end
def zX(X:K.In h)(G:h.Ns kc mg)(a:At K x st f fd)(b:AJ K fd ps []):yu K mg x st ps f fd:=⟨a.F,W.mg_of X G a.a,b⟩
end Mr
namespace Zl
open PySem L2 Mr Z
def C4:MS:=(oM (zC (tN (qe FP (uR rE (oI (oH 0) oS)) (rC (.int 0)))) (qT (sm pH)) qK)
 (oM (oX 1 (kSc (rBM "list" xD (oH 0) (oI (uR IP (oI (oH 0) oS)) oS))))
 (qT (PU (lOf (MW (va 0) (wA (oH 1)) yr)) (lOf (MW (va 0) yr (wA (oH 1))))))))
def xV:MF:=rG 1 2 C4
def wD:MS:=(QJ 1 (IQ 2))
def BH:MS:=(oM (oX 1 (sm pH))
 (oM (xA 2 (oW 0) wD)
 (qT (AG 1))))
def xj:MF:=rG 1 3 BH
def zb:MS:=(oM (zC (tN (qe FQ (oH 1) (uR rE (oI (oH 0) oS)))) (qT (kSc (qe FG (oH 0) (oH 1)))) qK)
 (qT (kSc (rC (.int 0)))))
def oV:MF:=rG 2 2 zb
def xZ:MS:=(qT (DM (vG (CL (oW 0)) [] uz (qb Zl.xV (oO (oW 0) pH)))))
def sU:MF:=rG 1 1 xZ
def EF:MS:=(qT (KU (lOf (qb Zl.xj (oO (oW 0) pH)))))
def xW:MF:=rG 1 1 EF
def Dx:MS:=(qT (vG (CL (qb Zl.xW (oO (oW 0) pH))) [] (tN (qe Ml (oH 0) (rC (.int 0)))) (oW 0)))
def wR:MF:=rG 1 1 Dx
def wu:MS:=(xg 1 (oH 4) (oW 2))
def wC:MS:=(xA 4 (oW 3) wu)
def Cf:MS:=(oM (oX 1 zu)
 (oM (NV 2 3 (oW 0) wC)
 (qT (AG 1))))
def tD:MF:=rG 1 5 Cf
def vO ns(h:0<=k):oV [.scr ns,.int k]=i0 (cell ns k.toNat):=by
 by_cases c:k<(ns.length)
 .have hk:k.toNat<ns.length:=by lia
  have e:=xk hk
  simp_arith [oV,zb,c,N0 h,gEg hk,cell,e]
 .have hk:ns.length<=k.toNat:=by lia
  have e:ns.getD k.toNat 0=0:=by rw[gDq,aO hk];rfl
  simp_arith [oV,zb,c,cell,e]
def Xw ns:oV [.scr ns,.int 0]=i0 (cell ns 0):=vO ns ⋯
def aby ns:oV [.scr ns,.int 1]=i0 (cell ns 1):=vO ns ⋯
def aco ns:oV [.scr ns,.int 2]=i0 (cell ns 2):=vO ns ⋯
def CF{ns:Ϝ}:ns.foldl min n∈n::ns/\∀x∈n::ns,ns.foldl min n<=x:=⟨xI ns n,λx l=>(aa.mp l).elim (λe=>e ▸ (vQ ns n).1) ((vQ ns n).2 x)⟩
def O8(hl:ns.length<=500000):xV [dI ns]=some (aI (good ns)):=by
 cases ns with
 |nil=>
  have t:((0))=0:=rfl
  simp_arith [xV,C4,t]
  rfl
 |cons n ns=>
  obtain⟨t,x⟩:=CF;have e:=xh t x;have l:=zt (n::ns);have u:¬ ((n::ns).length:Int)=0:=by simp only[lCq];lia
  have z:IP [dI (n::ns)]=some (.int (ns.foldl min n)):=by
   show(rz ((n::ns).map D.int)).bind (λns=>(DQ ns).map D.int)=_
   rw[rp];rfl
  have B:xD (dI (n::ns)) [.int (ns.foldl min n)]=some (.int (pW (n::ns) (n::ns).length)):=by
   show(rz ((n::ns).map D.int)).bind _=_;rw[rp];show(if _ then _ else _)=_
   rw[pO t,e]
  generalize E:n::ns=N at *;have s:(N.drop (pW N N.length)).length+(N.take (pW N N.length)).length<=qM:=by rw[aJ,lTq];show _<=16777216;lia
  simp_arith [xV,C4,u,z,B,tE,Am N _ l,ye N _ l,s,←mBq,Ca]
  rfl
def rL{rs:Λ}{r:Ϝ}(h:rs[i]?=some r):(rs.take (i+1)).flatten=(rs.take i).flatten++r:=by
 rw[bG,h];simp
def uo(rs:Λ)i:(rs.take i).flatten.length<=rs.flatten.length:=by
 have:=congrArg bJ (congrArg List.flatten (aZ i rs));rw[fAq,lAq]at this;lia
def BU{rs:Λ}{i:Nat}(h:(rs.map dI)[i]?=some d):∃r,rs[i]?=some r/\d=dI r:=by
 rw[gMq]at h;obtain⟨r,l,n⟩:=oMq.mp h;exact⟨r,l,n.symm⟩
def HB{ns:Ϝ}{i:Nat}(h:(ns.map D.int)[i]?=some d):∃z,ns[i]?=some z/\d = .int z:=by
 rw[gMq]at h;obtain⟨r,l,n⟩:=oMq.mp h;exact⟨r,l,n.symm⟩
def Xl(hl:rs.flatten.length<=500000):xj [dM rs]=some (aI rs.flatten):=by
 have key:=tO (x:=2) (body:=wD) (λi S=>∃v,S=[some (.sh (dM rs)),some (aI (rs.take i).flatten),v]) (S:=[some (.sh (dM rs)),some (.ow []),none]) ⟨none,by simp⟩ (by
  rintro i d S hd ⟨v,rfl⟩;obtain⟨r,hr,rfl⟩:=BU hd;have l:=rL hr;have n:=uo rs (i+1);rw[l,lAq]at n;have s:(rs.take i).flatten.length+r.length<=qM:=by lia
  refine⟨_,?_,some (.sh (dI r)),rfl⟩;rw[l]
  simp_arith [wD,s,Ca,←mBq])
 obtain⟨t,e,v,rfl⟩:=key;rw[lMq,aK]at e
 simp_arith [xj,BH,e]
def Bh{rs:Λ}(h:d∈rs.map dI):∃r∈rs,d=dI r:=by
 obtain⟨r,l,n⟩:=mMq.mp h;exact⟨r,l,n.symm⟩
def yt:D->Ϝ
 | .list ds=>(rz ds).getD []
 |_=>[]
def tW r:yt (dI r)=r:=by
 show(rz (r.map D.int)).getD []=r;rw[rp];rfl
def EN{β:Type}(g:Ϝ->β)(rs:Λ):(rs.map dI).map (λd=>g (yt d))=rs.map g:=by
 rw[mPq];exact mCq λr _=>by show g (yt (dI r))=g r;rw[tW]
def Kc{rs:Λ}(hl:∀r∈rs,r.length<=500000):rS uz (qb xV (oO (oW 0) pH)) [] (rs.map dI)=some ((rs.map good).map aI):=by
 rw[uj (λd=>aI (good (yt d)))]
 .rw[EN (λr=>aI (good r)),mPq]
  rfl
 .intro d hd;obtain⟨r,hr,rfl⟩:=Bh hd;refine⟨[some (.sh (dI r))],?_⟩
  simp_arith [O8 (hl r hr),tW]
def abz{l:Λ}(h:a<l.length):atI (l.map dI) (a:Int)=some (dI (l.getD a [])):=by
 rw[WR,N0 ∅,bF,gDq,gEg h]
 rfl
def xT(hl:∀r∈rs,r.length<=500000)(l:rs.length<=qM):sU [dM rs]=some (.ow ((srt (rs.map good)).map aI)):=by
 have n:=Kc hl
 simp_arith [sU,xZ,n,l]
end Zl
namespace Zl
open PySem L2 Mr Z Xe
def bare(rs:Λ):Nat:=rs.countP (·=([]:Ϝ))
section
variable {rs:Λ}(hl:rs.flatten.length<=500000)
include hl
end
def OC(rs:Λ):(srt (rs.map good)).flatten.Perm rs.flatten:=(pI (pV _)).trans (qj qJ rs)
def Pg r(h:r.Nodup):good (good r)=good r:=EM h _
def L7{T:Λ}(h:T.flatten.Nodup):srt ((srt (T.map good)).map good)=srt (T.map good):=by
 have q:(srt (T.map good)).map good=srt (T.map good):=by
  have:∀r∈srt (T.map good),good r=r:=λr hr=>by
   obtain⟨s,hs,rfl⟩:=mMq.mp ((pV _).mem_iff.mp hr);exact Pg s (Qc h hs)
  exact(mCq this).trans (fv _)
 rw[q];exact(My (.refl _) (Bn _)).symm
end Zl
namespace Zl
open PySem L2 Mr Z
def Nj(hl:rs.flatten.length<=500000):xW [dM rs]=some (aI (sk rs.flatten)):=by
 simp_arith [xW,EF,Xl hl]
def UD(ns:Ϝ):rS (tN (qe Ml (oH 0) (rC (.int 0)))) (oW 0) [] (ns.map D.int)=some ((ns.filter λz=>decide (0<z)).map λn=>.sh (.int n)):=by
 rw[Z.vk (λd=>match d with|.int z=>decide (0<z)|_=>false) (λd=>.sh d)]
 .rw[fR,mPq];rfl
 .intro d hd;obtain⟨z,l,rfl⟩:=mMq.mp hd;refine⟨[i0 z],?_,λ_=>⟨[i0 z],?_⟩⟩
  .simp_arith []
  .simp_arith []
def roads_ok(hl:rs.flatten.length<=500000):wR [dM rs]=some (aI ((sk rs.flatten).filter λz=>decide (0<z))):=by
 have l:(sk rs.flatten).length<=qM:=uS (by rw[(rJ _).length_eq];lia)
 simp_arith [wR,Dx,Nj hl,l,UD]
def vq(p:Nat)(r:Ϝ):List (pQ×D):=r.map λe=>(.inl e,.int (p:Int))
def qv:Nat->Λ->List (pQ×D)
 |_,[]=>[]
 |p,r::rs=>vq p r++qv (p+1) rs
theorem Dt r:∀rs p,qv p (rs++[r])=qv p rs++vq (p+rs.length) r
 | [],p=>by simp[qv]
 |s::rs,p=>by
  show vq p s++qv (p+1) (rs++[r])=(vq p s++qv (p+1) rs)++_;rw[Dt r rs (p+1),ae,lCq,show p+1+rs.length=p+(rs.length+1) by lia]
theorem zJ:∀rs p,(qv p rs).map (·.1)=rs.flatten.map aN
 | [],p=>rfl
 |r::rs,p=>by
  show(vq p r++qv (p+1) rs).map (·.1)=_;rw[mBq,zJ rs (p+1),fCq,mBq];unfold vq;rw[mPq];rfl
def Ld(rs)p:(qv p rs).length=rs.flatten.length:=by
 have:=congrArg bJ (zJ rs p)
 rwa [lMq,lMq]at this
def Er(h:k∉kvs.map (·.1)):xC kvs k d=kvs++[(k,d)]:=by
 unfold xC;rw[pK];intro e;obtain⟨kv,hk,e⟩:=fN.mp e;exact h (mMq.mpr ⟨kv,hk,of_decide_eq_true e⟩)
theorem getD_app:∀{a b},k∉a.map (·.1)->Z.getD (a++b) k=Z.getD b k
 | [],b,_=>rfl
 |x::a,b,h=>by
  unfold Z.getD;rw[eW,dZ (by
   intro e;exact h (by rw[←of_decide_eq_true e];simp))]
  exact getD_app λm=>h (by simp only[aw,aa];exact .inr m)
theorem IH:∀{r},e∈r->Z.getD (vq p r++b) (.inl e)=some (.int p)
 | [],h=>by cases h
 |x::r,h=>by
  show((((aN x),D.int (p))::(vq p r++b)).find? _).map _=_
  by_cases c:x=e
  .subst c;rw[fo ⋯]
   rfl
  .rw[dZ (by simp[c])]
   exact IH ((aa.mp h).resolve_left λz=>c z.symm)
theorem Az{r:Ϝ}:∀{rs:Λ}{i:Nat}p,rs.flatten.Nodup->rs[i]?=some r->e∈r->Z.getD (qv p rs) (.inl e)=some (.int ((p+i:Nat):Int))
 | [],i,p,_,h,_=>by simp at h
 |s::rs,0,p,hn,h,he=>by
  simp at h;subst h;exact IH he
 |s::rs,i+1,p,hn,h,he=>by
  rw[fCq,nAq]at hn;have l:=by simpa using h
  have:=Az (p+1) hn.2.1 l he;rw[show p+1+i=p+(i+1) by lia]at this
  rw[←this];refine getD_app ?_;unfold vq;rw[mPq];intro m;obtain⟨x,n,t⟩:=mMq.mp m;cases t;exact hn.2.2 _ n _ (mFq.mpr ⟨r,mGq l,he⟩) rfl
def yN(hn:rs.flatten.Nodup)(hl:rs.flatten.length<=500000):tD [dM rs]=some (.owd (qv 0 rs)):=by
 have key:=Sr (x:=2) (y:=3) (k:=0) (body:=wC) (λi S=>∃B E l,S=[some (.sh (dM rs)),some (.owd (qv 0 (rs.take i))),B,E,l]) (ds:=rs.map dI) (S:=[some (.sh (dM rs)),some (.owd []),none,none,none]) ⟨none,none,none,rfl⟩ (by
  rintro i d S hd ⟨B,E,l,rfl⟩;rw[cH];obtain⟨r,hr,rfl⟩:=BU hd;have s:=rL hr;have G:=uo rs (i+1);have hi:i<rs.length:=(gSq.mp hr).1;have t:((rs.take i).flatten++r).Nodup:=by
   rw[←s];have J:rs.flatten=(rs.take (i+1)).flatten++(rs.drop (i+1)).flatten:=by rw[←fAq,aZ]
   rw[J]at hn;exact(nAq.mp hn).1
  rw[s,lAq]at G;have L:=tO (x:=4) (body:=wu) (λj S=>∃l,S=[some (.sh (dM rs)),some (.owd (qv 0 (rs.take i)++vq i (r.take j))),i0 i,some (.sh (dI r)),l]) (S:=[some (.sh (dM rs)),some (.owd (qv 0 (rs.take i))),i0 i,some (.sh (dI r)),l]) ⟨l,by simp[vq]⟩ (by
   rintro j d S hd ⟨l,rfl⟩;obtain⟨z,H,rfl⟩:=HB hd;have M:(qv 0 (rs.take i)++vq i (r.take j)).length<qM:=aag (by
    rw[lAq,Ld];unfold vq;rw[lMq,lTq];lia)
   have u:xC (qv 0 (rs.take i)++vq i (r.take j)) (.inl z) (.int (i))=qv 0 (rs.take i)++vq i (r.take (j+1)):=by
    rw[Er]
    .unfold vq;rw[qt H,mBq,ae];rfl
    .rw[mBq,zJ];intro m;have O:=qt H;rcases mAq.mp m with m|m
     .obtain⟨x,I,n⟩:=mMq.mp m;cases n;exact(nAq.mp t).2.2 _ I _ (mGq H) rfl
     .unfold vq at m;rw[mPq]at m;obtain⟨x,I,n⟩:=mMq.mp m;cases n;have:=bu.sublist (bB (j+1) r) (nAq.mp t).2.1;rw[O]at this;exact(nAq.mp this).2.2 _ I _ ⋯ rfl
   refine⟨_,?_,i0 z,rfl⟩
   simp_arith [wu,M,u])
  obtain⟨Q,n,P,rfl⟩:=L;rw[lMq,aK]at n;refine⟨_,?_,i0 i,some (.sh (dI r)),P,rfl⟩;rw[qt hr,Dt,lTq,fm ∅]
  simp_arith [wC,n])
 obtain⟨R,e,B,E,l,rfl⟩:=key;rw[cH,lMq,aK]at e
 simp_arith [tD,Cf,e]
theorem uK(P:AS->Prop)(μ:AS->Nat)(t:AS->Prop)(h:∀S,P S->∃b s,c S=some (b,s)/\(b=true->∃S2,body s=some (.nx S2)/\P S2/\μ S2<μ S)/\(b=false->t s)) :
  ∀l S,P S->μ S<l->∃S',rH c body l S=some (.nx S')/\t S'
 |0,S,_,u=>absurd u (cG _)
 |n+1,S,x,u=>by
  obtain⟨b,s,z,B,E⟩:=h S x;rw[WK,z,gF];cases b with
  |true=>
   obtain⟨S2,G,H,I⟩:=B rfl;rw[G];exact uK P μ t h n S2 H ∅
  |false=>
   exact⟨s,rfl,E rfl⟩
end Zl
namespace Zl
open PySem L2 Mr Z Xe
def wd(ws:Θ):List AV:=ws.map λk:Nat=>AV.sh (.int (k:Int))
noncomputable def plc(rs:Λ)(e:Int):Nat:=rs.findIdx λr=>decide (e∈r)
def same_place{rs:Λ}(hn:rs.flatten.Nodup){i:Nat}{r s:Ϝ}(hi:rs[i]?=some r)(l:rs[j]?=some s)(n:e∈r)(t:e∈s):i=j:=by
 have a:=Az 0 hn hi n;have b:=Az 0 hn l t;rw[a]at b;have:=D.int.inj (aA.inj b);lia
def plc_eq(hn:rs.flatten.Nodup){r:Ϝ}(hi:rs[i]?=some r)(l:e∈r):plc rs e=i:=by
 have hl:rs.findIdx (λr=>decide (e∈r))<rs.length:=gw ⟨r,mGq hi,d0 l⟩
 have n:=iW (w:=hl);exact same_place hn (gEg hl) hi (of_decide_eq_true n) l
structure Mp (rs:Λ):Prop where
 hn:rs.flatten.Nodup
 hl:rs.flatten.length<=1000
 hr:rs.length<=1000
 hneg:∀e∈rs.flatten, -e∈rs.flatten
def Mp.at(h:Mp rs)(s:e∈rs.flatten):∃r,rs[plc rs e]?=some r/\e∈r:=by
 obtain⟨r,t,l⟩:=mFq.mp s;obtain⟨i,n⟩:=ay.mp t;exact⟨r,by rw[plc_eq h.hn n l];exact n,l⟩
def Mp.row(h:Mp rs){k:Nat}{r:Ϝ}(hk:rs[k]?=some r):r.length<=1000:=by
 have:=bZ.length_le (aT (mGq hk));have:=h.hl;lia
noncomputable def itr(f:Int->Int):Nat->Int->Int
 |0,e=>e
 |n+1,e=>f (itr f n e)
theorem yy(f)m e:∀n:Nat,itr f (n+m) e=itr f n (itr f m e)
 |0=>by rw[cH];rfl
 |n+1=>by rw[Nat.add_right_comm];show f (itr f (n+m) e)=f (itr f n (itr f m e));rw[yy f m e n]
theorem Mb:∀(l E:Ϝ),l.Nodup->(∀x∈l,x∈E)->l.length<=E.length
 | [],E,_,_=>aX _
 |x::l,E,hn,h=>by
  have n:=aq.mp hn;have s:=h x (ah ..);have u:=Mb l (E.erase x) n.2 (λy t=>by
   refine(List.mem_erase_of_ne ?_).mpr (h y (mCo _ t));intro e;exact n.1 (e ▸ t))
  rw[List.length_erase_of_mem s]at u;have:=fk s;rw[lCq];lia
def SX{p:Nat->Prop}:∀n,p n->∃m,m<=n/\p m/\∀j,j<m->¬ p j:=by
 intro n
 induction n using fS with
 |_ n t=>
  intro h
  by_cases c:∃j,j<n/\p j
  .obtain⟨j,l,s⟩:=c;obtain⟨m,z,u,x⟩:=t j l s;exact⟨m,by lia,u,x⟩
  .exact⟨n,af _,h,λj l s=>c ⟨j,l,s⟩⟩
structure JZ (f:Int->Int)(E:Ϝ):Prop where
 nd:E.Nodup
 to:∀e∈E,f e∈E
 inj:∀a∈E,∀b∈E,f a=f b->a=b
theorem JZ.itr_mem(h:JZ f E)(l:e∈E):∀n,itr f n e∈E
 |0=>l
 |n+1=>h.to _ (h.itr_mem l n)
theorem JZ.itr_inj(h:JZ f E)(ha:a∈E)(hb:b∈E):∀n,itr f n a=itr f n b->a=b
 |0,e=>e
 |n+1,e=>h.itr_inj ha hb n (h.inj _ (h.itr_mem ha n) _ (h.itr_mem hb n) e)
def JZ.cut(h:JZ f E)(l:e∈E)(n:i<=j)(q:itr f i e=itr f j e):itr f (j-i) e=e:=by
 have s:itr f j e=itr f i (itr f (j-i) e):=by rw[←yy];congr 1;lia
 rw[s]at q;exact(h.itr_inj l (h.itr_mem l _) i q).symm
structure Cy (f:Int->Int)(e:Int)(l:Ϝ):Prop where
 len:1<=l.length
 get:l=(aF l.length).map λn=>itr f n e
 back:itr f l.length e=e
 nd:l.Nodup
def JZ.cy(h:JZ f E)(t:e∈E):∃l,Cy f e l/\l.length<=E.length/\∀j,0<j->j<l.length->itr f j e≠e:=by
 have u:∃k,1<=k/\k<=E.length/\itr f k e=e:=by
  by_cases c:((aF (E.length+1)).map λn=>itr f n e).Nodup
  .have:=Mb _ E c (λx H=>by obtain⟨n,_,rfl⟩:=mMq.mp H;exact h.itr_mem t n)
   rw[lMq,aB]at this;lia
  .rw[bp,bx]at c;have:∃i j,i<j/\j<E.length+1/\itr f i e=itr f j e:=by
    by_cases d:∃i j,i<j/\j<E.length+1/\itr f i e=itr f j e
    .exact d
    .exfalso;refine c ?_;refine bu.imp_of_mem (λ{a b} ha hb hab q=>d ⟨a,b,hab,bA.mp hb,q⟩) gu
   obtain⟨i,j,z,B,q⟩:=this;exact⟨j-i,by lia,by lia,h.cut t (cT z) q⟩
 obtain⟨k,I,P,J⟩:=u;obtain⟨m,Q,⟨L,M⟩,G⟩:=SX (p:=λk=>1<=k/\itr f k e=e) k ⟨I,J⟩
 refine⟨(aF m).map λn=>itr f n e,⟨by rw[lMq,aB];exact L,by rw[lMq,aB],by rw[lMq,aB];exact M,?_⟩,by rw[lMq,aB];lia,λj B s q=>?_⟩
 .rw[bp,bx];refine bu.imp_of_mem (λ{a b} ha hb hab q=>?_) gu
  have O:=bA.mp hb;exact G (b-a) ∅ ⟨by lia,h.cut t (cT hab) q⟩
 .rw[lMq,aB]at s;exact G j s ⟨B,q⟩
def Cy.at(h:Cy f e l)(hi:i<l.length):l[i]?=some (itr f i e):=by
 have n:=congrArg (λx=>x[i]?) h.get
 rw[n,gMq,cj hi];rfl
def Cy.one(h:Cy f e l)(h':Cy f e l'):l=l':=by
 have key:∀{l l':Ϝ},Cy f e l->Cy f e l'->¬ l.length<l'.length:=λ{l l'} h h' hlt=>by
  have s:=h'.at (i:=0) ∅
  have n:=h'.at hlt;rw[h.back]at n;have:=h'.nd;have t:=(ik (i:=0) (j:=l.length) ∅ this).mp (by rw[s,n];rfl)
  have:=h.len;lia
 have u:=key h h';have x:=key h' h;have hl:l.length=l'.length:=by lia
 rw[h.get,h'.get,hl]
def Cy.self(h:Cy f e l):e∈l:=mGq (h.at (i:=0) (by have:=h.len;lia))
def Cy.rot(h:Cy f e l)(u:j<l.length):Cy f (itr f j e) (l.drop j++l.take j):=by
 have n:(l.drop j++l.take j).length=l.length:=by rw[lAq,aJ,lTq];lia
 refine⟨by rw[n];exact h.len,?_,?_,?_⟩
 .refine cS λi=>?_
  rw[n,gMq]
  by_cases hi:i<l.length
  .rw[cj hi,cI,←yy]
   by_cases s:i<l.length-j
   .rw[gZq (by rw[aJ];exact s),cV,h.at ∅,gc j i]
   .rw[gYq (by rw[aJ];lia),aJ,eT ∅,h.at ∅]
    have t:i+j=(i-(l.length-j))+l.length:=by lia
    rw[t,yy,h.back]
  .rw[aO ∅,aO (by rw[aB];lia)]
   rfl
 .rw[n,←yy,gc,yy,h.back]
 .exact aG.nodup_iff.mpr (by rw[aZ];exact h.nd)
theorem Cy.good(h:Cy f e l)(t:x∈l)(h':Cy f x l'):Mr.good l'=Mr.good l:=by
 obtain⟨j,s⟩:=ay.mp t;have n:=(gSq.mp s).1;rw[h.at n]at s;have r:=h.rot n;rw[aA.inj s]at r;rw[h'.one r];exact EM h.nd j
structure CK (f:Int->Int)(E:Ϝ)(L:Λ):Prop where
 cy:∀l∈L,∃e,Cy f e l
 dj:L.flatten.Nodup
 all:∀x,x∈L.flatten↔x∈E
theorem NZ:∀{L:Λ},L.flatten.Nodup->L.Pairwise λa b=>∀x∈a,∀y∈b,x≠y
 | [],_=>bu.nil
 |a::L,h=>by
  rw[fCq,nAq]at h;exact fh.mpr ⟨λb hb x l y n=>h.2.2 x l y (mFq.mpr ⟨b,hb,n⟩),NZ h.2.1⟩
def CK.nd(h:CK f E L):(L.map Mr.good).Nodup:=by
 rw[bp,bx];have hd:=NZ h.dj;refine bu.imp_of_mem (λ{a b} ha hb hab q=>?_) hd
 obtain⟨e,c⟩:=h.cy a ha;have l:=(qJ a).mem_iff.mpr c.self;rw[q]at l;exact hab e c.self e ((qJ b).mem_iff.mp l) rfl
def CK.sub(z:JZ f E)(h:CK f E L)(h':CK f E M)(t:y∈L.map Mr.good):y∈M.map Mr.good:=by
 obtain⟨l,hl,rfl⟩:=mMq.mp t;obtain⟨e,c⟩:=h.cy l hl;have u:=(h.all e).mp (mFq.mpr ⟨l,hl,c.self⟩);obtain⟨m,s,n⟩:=mFq.mp ((h'.all e).mpr u);obtain⟨B,x⟩:=h'.cy m s;exact mMq.mpr ⟨m,s,(x.good n c).symm⟩
def CK.perm(l:JZ f E)(h:CK f E L)(h':CK f E M):(L.map Mr.good).Perm (M.map Mr.good):=
 (aL h.nd h'.nd).mpr λy=>⟨h.sub l h',h'.sub l h⟩
end Zl
namespace K13
open PySem L2 Mr Z Xe
def Df:MS:=(oM (zC (BP (yz (oH 0))) (qT (sm pH)) qK)
 (oM (oX 1 (kSc (rBM "list" xD (oH 0) (oI (uR IP (oI (oH 0) oS)) oS))))
 (qT (PU (lOf (MW (va 0) (wA (oH 1)) yr)) (lOf (MW (va 0) yr (wA (oH 1))))))))
def zY:MF:=rG 1 2 Df
def Ko:MS:=(qT (DM (vG (CL (oW 0)) [] uz (qb K13.zY (oO (oW 0) pH)))))
def HF:MF:=rG 1 1 Ko
end K13
namespace K51
open PySem L2 Mr Z Xe
def Bj:MS:=(xg 1 (oH 3) (oW 4))
def AW:MS:=(S7 3 4 (oW 2) (PU (lOf (MW (va 2) (wA (rC (.int 1))) yr)) (lOf (MW (va 2) yr (wA (rC (.int 1)))))) Bj)
def IR:MS:=(oM (oX 1 zu)
 (oM (xA 2 (oW 0) AW)
 (qT (AG 1))))
def Cs:MF:=rG 1 5 IR
def tY:MS:=(oM (oX 7 (kSc (ym (oH 2) (GN vS (oH 6))))) (zC (tN (qR (oH 7) (oH 3))) (oM (xg 3 (oH 7) (kSc (rC (.bl true)))) (uD 4 (oW 7))) qK))
def vL:MS:=(oM (Dk 5 (xX 4)) (xA 6 (kIx (va 0) (oH 5)) tY))
def ET:MS:=(oM (oX 2 (qb Zl.tD (oO (oW 0) pH)))
 (oM (oX 3 (HJ (oH 1) (kSc (rC (.bl true)))))
 (oM (oX 4 (sm (oO (oW 1) pH)))
 (oM (rH (tN (qe Ml (uR rE (oI (oH 4) oS)) (rC (.int 0)))) vL 100000)
 (qT (Hw (oH 3)))))))
def yj:MF:=rG 2 8 ET
def wY:MS:=(xg 1 (oH 5) (kSc (rC (.bl true))))
def xo:MS:=(zC (tN (qR (oH 3) (oH 1))) (oM (oX 4 (qb K51.yj (oO (oW 0) (oO (oW 3) pH)))) (oM (xA 5 (oW 4) wY) (uD 2 (vG (CL (oW 4)) [0] uz (Et (lOf (kIx (va 1) (oH 0)))))))) qK)
def G8:MS:=(oM (oX 1 zu)
 (oM (oX 2 (sm pH))
 (oM (CH 3 (oI (uR rE (oI (oH 0) oS)) oS) xo)
 (qT (AG 2)))))
def wB:MF:=rG 1 6 G8
def wc:MS:=(oM (oX 6 (kSc (ym (oH 1) (GN vS (oH 5))))) (zC (tN (qe FP (oH 5) (ym (oH 3) (ym (oH 1) (oH 5))))) (oM (uD 4 (K6 (oO (kSc (rC (.str "up"))) (oO (oW 5) pH)))) (oX 5 (kSc (ym (oH 2) (GN vS (oH 5)))))) (zC (tN (qR (oH 6) (oH 3))) (oM (xg 3 (oH 6) (kSc (GN vS (oH 5)))) (oM (uD 4 (K6 (oO (kSc (rC (.str "down"))) (oO (oW 5) pH)))) (oX 5 (kSc (ym (oH 2) (GN vS (oH 5))))))) (oM (uD 4 (K6 (oO (kSc (rC (.str "side"))) (oO (oW 5) pH)))) (oX 5 (kSc (ym (oH 2) (oH 5))))))))
def Ba:MS:=(oM (oX 1 (kSc (rC (.int 1))))
 (oM (oX 2 (kSc (rC (.int 0))))
 (oM (zC (tN (qe Ml (qe tP (ti Zl.oV (oI (oH 0) (oI (rC (.int 0)) oS))) (rC (.int 3))) (rC (.int 0)))) (oM (oX 1 (kSc (qe vC (rC (.int 1)) (qe tP (ti Zl.oV (oI (oH 0) (oI (rC (.int 1)) oS))) (qe J9 (rC (.int 10)) (rC (.int 57))))))) (oX 2 (kSc (qe tP (ti Zl.oV (oI (oH 0) (oI (rC (.int 2)) oS))) (qe J9 (rC (.int 10)) (rC (.int 59))))))) qK)
 (oM (oX 3 (kSc (qe vC (rC (.int 1)) (qe tP (qe A3 (ti Zl.oV (oI (oH 0) (oI (rC (.int 0)) oS))) (rC (.int 3))) (rC (.int 66))))))
 (oM (oX 4 (kSc (qe tP (qe A3 (ti Zl.oV (oI (oH 0) (oI (rC (.int 0)) oS))) (rC (.int 198))) (rC (.int 67)))))
 (qT (vG (iR1 (oI (rC (.int 67)) oS)) [2,1,4,3] uz (kSc (qe vC (qe wW (oH 2) (qe vC (rC (.int 1)) (qe tP (qe vC (qe wW (oH 4) (oH 0)) (oH 3)) (rC (.int 67))))) (oH 1))))))))))
def xY:MF:=rG 1 5 Ba
def GB:MS:=(qT (vG (CL (oW 0)) [] uz (Et (va 0))))
def tx:MF:=rG 1 1 GB
def Eu:MS:=(qT (kSc (SY (uR JR (oI (oH 0) (oI (rC (.ty "int")) oS))) (aay (uR JR (oI (oH 0) (oI (rC (.ty "bool")) oS)))))))
def yg:MF:=rG 1 1 Eu
end K51
namespace K15
open PySem L2 Mr Z
def zr:MS:=(xg 2 (oH 3) (kSc (Eg (oH 1) (GN vS (oH 3)))))
def EE:MS:=(oM (oX 1 (qb K51.Cs (oO (oW 0) pH)))
 (oM (oX 2 zu)
 (oM (Kv 3 1 zr)
 (qT (AG 2)))))
def Aq:MF:=rG 1 4 EE
def vF:MS:=(oM (uD 2 (oW 3)) (oX 3 (kSc (ym (oH 0) (oH 3)))))
def AL:MS:=(oM (oX 2 (sm (oO (oW 1) pH)))
 (oM (oX 3 (kSc (ym (oH 0) (oH 1))))
 (oM (rH (tN (qe KC (oH 3) (oH 1))) vF 100000)
 (qT (AG 2)))))
def wa:MF:=rG 2 4 AL
def zp:MS:=(xg 2 (oH 6) (kSc (rC (.bl true))))
def wH:MS:=(zC (tN (qR (oH 4) (oH 2))) (oM (oX 5 (qb K15.wa (oO (oW 1) (oO (oW 4) pH)))) (oM (xA 6 (oW 5) zp) (uD 3 (oW 5)))) qK)
def Kl:MS:=(oM (oX 1 (qb K15.Aq (oO (oW 0) pH)))
 (oM (oX 2 zu)
 (oM (oX 3 (vG (CL (oW 0)) [] (tN (qe FP (uR rE (oI (oH 0) oS)) (rC (.int 0)))) (sm pH)))
 (oM (xA 4 (qb Zl.xW (oO (oW 0) pH)) wH)
 (qT (qb Zl.sU (oO (oW 3) pH)))))))
def qD:MF:=rG 1 7 Kl
def zo:MS:=(xg 1 (qe FG (oH 2) (oH 3)) (kSc (qe FG (oH 2) (qe tP (qe vC (oH 3) (rC (.int 1))) (uR rE (oI (oH 2) oS))))))
def zj:MS:=(CH 3 (oI (uR rE (oI (oH 2) oS)) oS) zo)
def EG:MS:=(oM (oX 1 zu)
 (oM (xA 2 (oW 0) zj)
 (qT (AG 1))))
def CQ:MF:=rG 1 4 EG
def mb_L_lands_0:MS:=(oM (xg 2 (oH 6) (kSc (rC (.bl true)))) (oM (uD 5 (oW 6)) (oX 6 (kSc (Eg (oH 1) (GN vS (oH 6)))))))
def mb_L_lands_1:MS:=(zC (tN (qR (oH 4) (oH 2))) (oM (oX 5 (sm pH)) (oM (oX 6 (oW 4)) (oM (rH (tN (qR (oH 6) (oH 2))) mb_L_lands_0 100000) (uD 3 (oW 5))))) qK)
def mf_L_lands:MS:=(oM (oX 1 (qb K15.CQ (oO (oW 0) pH)))
 (oM (oX 2 zu)
 (oM (oX 3 (vG (CL (oW 0)) [] (BP (yz (oH 0))) (sm pH)))
 (oM (Kv 4 1 mb_L_lands_1)
 (qT (qb K13.HF (oO (oW 3) pH)))))))
def f_L_lands:MF:=rG 1 7 mf_L_lands
end K15
namespace K19
open PySem L2 Mr Z
def FY:MS:=(qT (qb Zl.sU (oO (vG (CL (oW 0)) [] uz (M3 (va 0))) pH)))
def zN:MF:=rG 1 1 FY
end K19
namespace K43
open PySem L2 Mr Z Xe
def Gm:MS:=(oM (oX 1 (kSc (uR rE (oI (oH 0) oS))))
 (oM (oX 2 (kSc (uR rE (oI (rOf (qb Zl.wR (oO (oW 0) pH))) oS))))
 (oM (oX 3 (kSc (uR rE (oI (rOf (qb K15.qD (oO (oW 0) pH))) oS))))
 (oM (oX 4 (kSc (uR rE (oI (rOf (qb K51.wB (oO (oW 0) pH))) oS))))
 (oM (oX 5 (kSc (qe A3 (qe AY (qe vC (qe AY (qe wW (rC (.int 2)) (oH 4)) (oH 1)) (oH 2)) (oH 3)) (rC (.int 2)))))
 (qT (K6 (oO (oW 1) (oO (oW 2) (oO (oW 3) (oO (oW 4) (oO (oW 5) pH))))))))))))
def Cd:MF:=rG 1 6 Gm
end K43
namespace K72
open PySem L2 Mr Z Xe
def vw:MS:=(oM (zC (yz (oH 2)) (oM (oX 3 (kSc (rBM "list" xD (oH 2) (oI (uR IP (oI (oH 2) oS)) oS)))) (oX 2 (PU (lOf (MW (va 2) (wA (oH 3)) yr)) (lOf (MW (va 2) yr (wA (oH 3))))))) qK) (uD 1 (oW 2)))
def Ga:MS:=(oM (oX 1 (sm pH))
 (oM (xA 2 (oW 0) vw)
 (qT (Ha (va 1)))))
def zF:MF:=rG 1 4 Ga
end K72
namespace K75
open PySem L2 Mr Z Xe
def zh:MS:=(oM (QB 3 (Ay 2 (qe tP (oH 0) (uR rE (oI (oH 2) oS))))) (oX 0 (kSc (qe A3 (oH 0) (qe vC (uR rE (oI (oH 2) oS)) (rC (.int 1)))))))
def Fq:MS:=(oM (oX 2 (HV (oI (oH 1) oS)))
 (oM (oX 3 (sm pH))
 (oM (CH 4 (oI (oH 1) oS) zh)
 (qT (AG 3)))))
def Aw:MF:=rG 2 5 Fq
def xG:MS:=(oM (oX 6 (kSc (qe AY (qe vC (qe AY (qe J9 (rC (.int 10)) (rC (.int 60))) (oH 1)) (oH 5)) (oH 4)))) (oM (oX 4 (kSc (qe vC (qe vC (oH 4) (rC (.int 1))) (qe tP (oH 2) (oH 6))))) (oM (oX 2 (kSc (qe Qw (oH 2) (oH 6)))) (uD 3 (oW 4)))))
def Dr:MS:=(oM (oX 2 (kSc (ti Zl.oV (oI (oH 0) (oI (rC (.int 2)) oS)))))
 (oM (oX 3 (sm pH))
 (oM (oX 4 (kSc (rC (.int 0))))
 (oM (CH 5 (oI (oH 1) oS) xG)
 (qT (AG 3))))))
def yU:MF:=rG 2 7 Dr
def ze:MS:=(QJ 3 (lOf (sm (oO (oW 4) (oO (kSc (qe AY (rC (.int 0)) (oH 4))) pH)))))
def zq:MS:=(oM (xg 7 (oH 10) (kSc (rC (.bl true)))) (oM (uD 9 (oW 10)) (oX 10 (kSc (qe FG (oH 3) (qe FG (oH 5) (rBM "list" xD (oH 3) (oI (oH 10) oS))))))))
def wO:MS:=(oM (oX 9 (sm pH)) (oM (oX 10 (oW 8)) (oM (rH (tN (qR (oH 10) (oH 7))) zq 100000) (zC (yz (oH 9)) (uD 6 (oW 9)) qK))))
def JA:MS:=(oM (oX 2 (kSc (qe tP (ti Zl.oV (oI (oH 0) (oI (rC (.int 1)) oS))) (qe vC (oH 1) (rC (.int 1))))))
 (oM (oX 3 (sm pH))
 (oM (xA 4 (qb K75.yU (oO (oW 0) (oO (oW 2) pH))) ze)
 (oM (oX 5 (qb K75.Aw (oO (kSc (ti Zl.oV (oI (oH 0) (oI (rC (.int 4)) oS)))) (oO (kSc (uR rE (oI (oH 3) oS))) pH))))
 (oM (oX 6 (vG (iR1 (oI (qe tP (qe A3 (ti Zl.oV (oI (oH 0) (oI (rC (.int 1)) oS))) (qe vC (oH 1) (rC (.int 1)))) (rC (.int 4))) oS)) [] uz (sm pH)))
 (oM (oX 7 zu)
 (oM (xA 8 (oW 3) wO)
 (qT (qb K72.zF (oO (oW 6) pH))))))))))
def BZ:MF:=rG 2 11 JA
end K75
namespace K52
open PySem L2 Mr Z Xe
def mb_L_piece_0:MS:=(oM (oX 7 (kSc (qe tP (oH 6) (rC (.int 7))))) (QD 8 3 (ZF 3 (Mf 3) (qe FG (oH 4) (GN vS (rC (.int 1))))) (E3 3 (B2 (tN (qe FQ (rC (.int 4)) (oH 7))) (yz (oH 5))) (Fl 3 (oX 9 (kSc (qe AY (uR rE (oI (oH 5) oS)) (rC (.int 1))))) (Fl 3 (zC (tN (oH 2)) (oX 9 (kSc (qe tP (qe A3 (oH 6) (rC (.int 7))) (uR rE (oI (oH 5) oS))))) qK) (Fz 3 (MB vS (Ay 5 (oH 9)))))) (E3 3 (B2 (tN (TF FQ FQ (rC (.int 1)) (oH 7) (rC (.int 4)))) (tN (qe Ml (uR rE (oI (oH 4) oS)) (rC (.int 1))))) (λ_=>(E9 (xX 4))) (E3 3 (yz (oH 1)) (Fl 3 (Dk 10 (Th wW (xX 1) (qe AY (rC (.int 1)) (qe wW (rC (.int 2)) (qe tP (qe A3 (oH 6) (rC (.int 7))) (rC (.int 2))))))) (λpath=>oM ((JG 3 (oW 10)) path) (zC (tN (qe FQ (oH 7) (rC (.int 2)))) (oM (uD 4 (kSc (uR rE (oI (oH 3) oS)))) (uD 3 (sm (oO (kSc (GN vS (oH 10))) pH)))) (uD 5 (oW 10))))) (λ_=>qK))))))
def mb_L_piece_1:MS:=(Fx 3 (ZF 3 (Mf 3) (qe FG (oH 4) (GN vS (rC (.int 1))))) (MB vS (xX 5)))
def xy:MS:=(xg 1 (oH 4) (kSc (qe FG (oH 2) (qe tP (qe vC (oH 3) (rC (.int 1))) (uR rE (oI (oH 2) oS))))))
def xO:MS:=(NV 3 4 (oW 2) xy)
def Du:MS:=(oM (oX 1 zu)
 (oM (xA 2 (oW 0) xO)
 (qT (AG 1))))
def yH:MF:=rG 1 5 Du
def vW:MS:=(oM (oX 5 (kSc (qe FG (oH 2) (ym (oH 1) (oH 4))))) (oM (oX 6 (kSc (qe FG (oH 2) (ym (oH 1) (GN vS (oH 4)))))) (oX 2 (vG (CL (oW 2)) [5,6] uz (kSc (qe FG (rOf (sm (oO (oW 0) (oO (oW 1) pH)))) (uR Kj (oI (qe FP (oH 0) (oH 2)) oS))))))))
def vT:MS:=(xA 4 (oW 3) vW)
def vJ:MS:=(uD 7 (Mu (oW 0) (oW 2) [5] (tN (qe FP (oH 1) (oH 2))) (oW 0)))
def Be:MS:=(oM (oX 1 (qb Zl.tD (oO (oW 0) pH)))
 (oM (oX 2 (HV (oI (uR rE (oI (oH 0) oS)) oS)))
 (oM (xA 3 (oW 0) vT)
 (oM (oX 7 (sm pH))
 (oM (xA 5 (Tv (va 2)) vJ)
 (qT (Y3 (AG 7) (sm (oO (sm (oO (sm pH) pH)) pH)))))))))
def wj:MF:=rG 1 8 Be
end K52
namespace K54
open PySem L2 Mr Z Xe
def oP:MS:=(oM (oX 4 (kSc (uR W3 (oI (oH 3) oS)))) (zC (B2 (tN (qe FP (oH 2) (rC (.str "side")))) (tN (qe (YB true) (oH 4) (oH 1)))) (uD 1 (oW 4)) (zC (tN (qe FP (oH 2) (rC (.str "side")))) (oM (Dk 5 (xX 1)) (zC (tN (qe KC (oH 5) (oH 4))) (qT (K6 (oO (oW 4) (oO (oW 5) pH)))) qK)) qK)))
def uP:MS:=(oM (oX 1 (sm pH))
 (oM (RP 2 3 (oW 0) oP)
 (qT (kSc (rC .non)))))
def rh:MF:=rG 1 6 uP
def uy:MS:=(zC (tN (qe KC (uR rE (oI (rOf (qb K51.wB (oO (oW 0) pH))) oS)) (rC (.int 1)))) K5 qK)
def qV:MF:=rG 1 1 uy
def Hi:MS:=(oM (RY (kSc (ti K54.qV (oI (oH 0) oS))))
 (oM (zC (tN (qe FP (uR rE (oI (qe FG (oH 0) (rC (.int 0))) oS)) (rC (.int 0)))) (qT (sm pH)) qK)
 (oM (oX 1 (qb Zl.tD (oO (oW 0) pH)))
 (oM (oX 2 (qb K51.Cs (oO (oW 0) pH)))
 (oM (oX 3 (HJ (rC (.int 0)) (kSc (rC .non))))
 (oM (oX 4 (sm pH))
 (oM (oX 5 (kSc (qe FG (qe FG (oH 0) (rC (.int 0))) (rC (.int 0)))))
 (oM (rH (tN (qe FQ (uR rE (oI (oH 4) oS)) (uR J5 (oI (oH 2) oS)))) K51.wc 100000)
 (qT (AG 4))))))))))
def C5:MF:=rG 1 7 Hi
def qW:MS:=(oM (oX 2 (qb K54.rh (oO (qb K54.C5 (oO (oW 1) pH)) pH))) (zC (tN (qe IT (oH 2) (rC .non))) (qT (AG 2)) qK))
def zT:MS:=(oM (xA 1 (qb K51.wB (oO (oW 0) pH)) qW)
 (qT (kSc (rC .non))))
def tQ:MF:=rG 1 3 zT
def EL:MS:=(qT (kSc (qe Xc (rOf (qb K43.Cd (oO (oW 0) pH))) (rC (.int 4)))))
def yn:MF:=rG 1 1 EL
def mb_L_piece_0:MS:=(oM (oX 7 (kSc (qe tP (oH 6) (rC (.int 7))))) (QD 8 3 (ZF 3 (Mf 3) (qe FG (oH 4) (GN vS (rC (.int 1))))) (E3 3 (B2 (tN (qe FQ (rC (.int 4)) (oH 7))) (yz (oH 5))) (Fl 3 (oX 9 (kSc (qe AY (uR rE (oI (oH 5) oS)) (rC (.int 1))))) (Fl 3 (zC (tN (oH 2)) (oX 9 (kSc (qe tP (qe A3 (oH 6) (rC (.int 7))) (uR rE (oI (oH 5) oS))))) qK) (Fz 3 (MB vS (Ay 5 (oH 9)))))) (E3 3 (B2 (tN (TF FQ FQ (rC (.int 1)) (oH 7) (rC (.int 4)))) (tN (qe Ml (uR rE (oI (oH 4) oS)) (rC (.int 1))))) (λ_=>(E9 (xX 4))) (E3 3 (yz (oH 1)) (Fl 3 (Dk 10 (Th wW (xX 1) (qe AY (rC (.int 1)) (qe wW (rC (.int 2)) (qe tP (qe A3 (oH 6) (rC (.int 7))) (rC (.int 2))))))) (λpath=>oM ((JG 3 (oW 10)) path) (zC (tN (qe FQ (oH 7) (rC (.int 2)))) (oM (uD 4 (kSc (uR rE (oI (oH 3) oS)))) (uD 3 (sm (oO (kSc (GN vS (oH 10))) pH)))) (uD 5 (oW 10))))) (λ_=>qK))))))
def mb_L_piece_1:MS:=(Fx 3 (ZF 3 (Mf 3) (qe FG (oH 4) (GN vS (rC (.int 1))))) (MB vS (xX 5)))
def Bc:MS:=(oM (oX 3 (sm (oO (sm pH) pH)))
 (oM (oX 4 (sm (oO (kSc (rC (.int 0))) pH)))
 (oM (oX 5 (sm pH))
 (oM (MV 6 (oW 0) mb_L_piece_0)
 (oM (yM (yz (oH 5)) mb_L_piece_1 100000)
 qK)))))
def yf:XI:=Dl 3 11 1 Bc (qb K72.zF (oO (oW 3) pH))
def tj:MS:=(oM (oX 3 (MW (lOf (qb K51.xY (oO (oW 0) pH))) yr (wA (oH 1))))
 (oM (oX 4 (MW (va 0) (wA (rC (.int 3))) (wA (rC (.int 66)))))
 (oM (oX 5 (kSc (ti Zl.oV (oI (oH 0) (oI (rC (.int 2)) oS)))))
 (oM (oX 6 (kSc (qe tP (qe A3 (oH 5) (rC (.int 8))) (qe vC (uR rE (oI (oH 4) oS)) (rC (.int 1))))))
 (oM (zC (tN (qe FQ (qe tP (oH 5) (rC (.int 8))) (rC (.int 3)))) (oX 6 (kSc (uR rE (oI (oH 4) oS)))) qK)
 (oM (K3 7 (DX 3 K54.yf (MW (va 4) yr (wA (oH 6))) (oO (kSc (SY (oH 2) (qe KC (qe tP (oH 5) (rC (.int 8))) (rC (.int 5))))) pH)))
 (oM (zC (tN (qe Ml (qe tP (oH 5) (rC (.int 8))) (rC (.int 2)))) (Ug 7 (DX 3 K54.yf (MW (va 4) (wA (oH 6)) yr) (oO (kSc (SY (oH 2) (qe KC (qe tP (oH 5) (rC (.int 8))) (rC (.int 6))))) pH))) qK)
 (oM (zC (tN (qe Ml (qe tP (oH 5) (rC (.int 8))) (rC (.int 4)))) (uD 7 (sm (oO (sm pH) pH))) qK)
 (qT (Fg (va 7)))))))))))
def rR:MF:=rG 3 8 tj
def xH:MS:=(QJ 1 (IQ 2))
def DA:MS:=(oM (oX 1 (sm pH))
 (oM (xA 2 (oW 0) xH)
 (qT (Ha (va 1)))))
def uT:MF:=rG 1 3 DA
def mb_L_lands_0:MS:=(oM (xg 2 (oH 5) (kSc (rC (.bl true)))) (oX 5 (kSc (Eg (oH 1) (GN vS (oH 5))))))
def mb_L_lands_1:MS:=(oM (zC (tN (qR (oH 4) (oH 2))) (oX 3 (kSc (qe vC (oH 3) (rC (.int 1))))) qK) (oM (oX 5 (oW 4)) (rH (tN (qR (oH 5) (oH 2))) mb_L_lands_0 100000)))
def mf_L_lands:MS:=(oM (oX 1 (qb K52.yH (oO (oW 0) pH)))
 (oM (oX 2 zu)
 (oM (oX 3 (kSc (uR rE (oI (rOf (vG (CL (oW 0)) [] (BP (yz (oH 0))) (oW 0))) oS))))
 (oM (Kv 4 1 mb_L_lands_1)
 (qT (AG 3))))))
def f_L_lands:MF:=rG 1 6 mf_L_lands
def wq:MS:=(oM (oX 1 (qb K54.uT (oO (oW 0) pH)))
 (oM (oX 2 (kSc (qe A3 (uR WS (oI (rOf (vG (CL (oW 1)) [] uz (kSc (uR rE (oI (oH 0) oS))))) oS)) (rC (.int 2)))))
 (qT (kSc (qe AY (qe vC (qe AY (qe wW (rC (.int 2)) (uR rE (oI (oH 0) oS))) (uR rE (oI (oH 1) oS))) (oH 2)) (ti K54.f_L_lands (oI (oH 1) oS)))))))
def qP:MF:=rG 1 3 wq
def uJ:MS:=(zC (tN (qe KC (qe WO (rOf (qb K54.tQ (oO (oW 5) pH))) (rC .non)) (qe FP (oH 3) (rC (.int 0))))) (qT (kSc (rC (.bl false)))) qK)
def Uv:MS:=(oM (oX 1 (qb K54.rR (oO (oW 0) (oO (kSc (rC (.int 67))) (oO (kSc (qe Ml (qe tP (ti Zl.oV (oI (oH 0) (oI (rC (.int 1)) oS))) (rC (.int 3))) (rC (.int 0)))) pH)))))
 (oM (zC (tN (qe FP (qe tP (ti Zl.oV (oI (oH 0) (oI (rC (.int 0)) oS))) (rC (.int 2))) (rC (.int 1)))) (oX 1 (Fg (lOf (qb K52.wj (oO (qb K75.BZ (oO (oW 0) (oO (kSc (rC (.int 30))) pH))) pH))))) qK)
 (oM (oX 2 (qb K54.uT (oO (oW 1) pH)))
 (oM (oX 3 (kSc (ti K54.qP (oI (oH 1) oS))))
 (oM (oX 4 (kSc (ti K54.yn (oI (rOf (qb K51.tx (oO (oW 2) pH))) oS))))
 (oM (zC (ON (BP (tN (ti K51.yg (oI (oH 4) oS)))) (ON (tN (qe FQ (oH 4) (rC (.int 0)))) (tN (qe KC (qe wW (rC (.int 2)) (oH 4)) (oH 3))))) (qT (kSc (rC (.bl false)))) qK)
 (oM (xA 5 (sm (oO (qb K51.tx (oO (oW 2) pH)) (oO (qb K15.qD (oO (qb K51.tx (oO (oW 2) pH)) pH)) (oO (qb K19.zN (oO (qb K51.tx (oO (oW 2) pH)) pH)) pH)))) uJ)
 (qT (kSc (rC (.bl true)))))))))))
def M7:MF:=rG 1 6 Uv
end K54
namespace K54
open PySem L2 Mr Z
seal PE PA PS KD PT PW PC PG PGs PI PO PF Ed uf UnR SR SK SL SQ SS DE SA UY SM EJ Ry BmD UnD
set_option hygiene false
local macro_rules|`(tactic|and_intros)=>do let x<-("Yg Nr zO qg oQ oK oU pv pB xv qZ yT qF zL Lh XR Xa wX He sV D8 BG Ht U9 Kf Cm ue Ya ZP Hz aaj ZC EH C6 Ra Do Se Ff NK Wv ve Af S4 DK Ag Uo W0 N8 tV Ac RW Jf xa vU ZT Lq HQ abY aaq vY Y7 Aa YO TN yO Sl Kq Z9 Gy tL Ft So Ig V5 Ll Mi BY A9 S6 Cc PW.pt".splitOn).toArray.mapM λs=>`(@$(Lean.mkIdent s.toName));`(tactic|apply_rules (maxDepth:=100000) only [$[$x:term],*])
local macro_rules|`(tactic|infer_instance)=>do let x<-("xP CN vd uH qu A8 sF qC SR.kSc DS uY xl SK.lOf SK.rOf Ua Yj Wz aad AQ W1 Y1 Zf TH HN VM XC NO YZ YQ TU ZX GR xB Li SN WQ Yo Mx Y8 IE P9 To VS RV abl Wc RL zZ aas XX KB RM RB JB Ts Ol WY Ys Ly Ec JO D3 AB C3 KL aa4 abd MU EC W5 SG Oy YU Zv XW aa3 NX Qv Vl Vb Vx W6 aae TR U6 VQ U8 UK Wk JU UN DI HL Sx RG Me YL TC aa6 Im CD SL.q".splitOn).toArray.mapM λs=>`(@$(Lean.mkIdent s.toName));`(tactic|((first | apply xP | apply HL | apply JU | apply TR) <;> apply_rules (maxDepth:=100000) [$[$x:term],*] <;> first | decide | exact λ_ _ _ h=>h))
local macro_rules|`(tactic|bv_omega)=>do let i:=λs:String=>(s.splitOn.map λs=>Lean.mkIdent s.toName).toArray;let x:=i "PassesOwn.never aS PySem.boot_len tR bh bj ri iu iE PySem.F.type_list_index Te PySem.F.slot_list_extend PySem.F.type_list_extend PH jN dE dF Io jv HH P5 Tg jO S.nd jP iR jI";let y:=i "Bt.len Bt.sorted Bt.enum Bt.min Bt.isi Bt.range Bt.zip Bt.abs Bt.int Bt.bool";let z:=i "jb gO OU Hk OL";let w:=i "Hj B1";`(tactic|(intro _ _ _ _ _ _ S hr hu hu65;apply Exists.intro;apply And.intro;infer_instance;((first|refine qg ?_|refine oQ ?_ ?_)<;>and_intros<;>(try ((with_reducible intro _ _ _ _);and_intros))<;>first|rfl|exact nobehind _ (by decide) (by decide)|assumption|exact vE _|decide|exact λ_=>rfl|exact λ_ _=>rfl|exact gO (jb rfl)|exact gO (gO rfl)|exact Ku hr|first|rfl|exact trivial|(intro _ _;rfl)|exact wQ.none (by decide +kernel)|(simp;done)|exact Xe.WG (pv 1)|first|exact uf.or QA Rq|(first $[|exact $x]*)|(first $[|exact $y ‹_›]*)|(first $[|exact $z rfl]*)|(first $[|exact $w hu]*)|decide +kernel|trivial)))
set_option hygiene true
noncomputable def top(i:Nat):Stmt:=PySem.Challenge.pw_mapround_k54_whole_no_crossing_no_handle.main.body.getD i (.Pass ⟨0,0,0,0⟩)
abbrev B9:Stmt:=top 4
def O5:oZ ["ends","start"] ["ends"] (oJ B9):=sC
abbrev Jc(P w K mg base):=Fn P w K mg base 1 "turned" B9 ["ends"] (sq K Zl.xV)
def Ox(D:yu K mg "turned" B9 ["ends"] f fd)(B:Bt mg):Jc P w K mg base f fd:=
 CA D O5 (by bv_omega)
abbrev wZ:Stmt:=top 5
def Ie:oZ ["turns","told","turn"] ["turns"] (oJ wZ):=sC
abbrev Dm(P w K mg base):=Fn P w K mg base 1 "told_ends" wZ ["turns"] (sq K Zl.xj)
def Hu(D:yu K mg "told_ends" wZ ["turns"] f fd)(B:Bt mg):Dm P w K mg base f fd:=
 CA D Ie (by bv_omega)
abbrev uq:Stmt:=top 6
def CS:oZ ["turns"] ["turns"] (oJ uq):=sC
abbrev vD(P w K mg base):=Fn P w K mg base 2 "in_good_order" uq ["turns"] (sq K Zl.sU)
def De(D:yu K mg "in_good_order" uq ["turns"] f fd)(B:Bt mg)(l:Jc P w K mg base u0 v0):vD P w K mg base f fd:=
 CA D CS (by bv_omega)
abbrev AE:Stmt:=top 7
def KS:oZ ["m"] ["m"] (oJ AE):=sC
abbrev CG(P w K mg base):=Fn P w K mg base 2 "ends_of" AE ["m"] (sq K Zl.xW)
def Lm(D:yu K mg "ends_of" AE ["m"] f fd)(B:Bt mg)(l:Dm P w K mg base u1 v1):CG P w K mg base f fd:=
 CA D KS (by bv_omega)
abbrev yC:Stmt:=top 8
def JP:oZ ["m"] ["m"] (oJ yC):=sC
abbrev Fk(P w K mg base):=Fn P w K mg base 3 "roads_of" yC ["m"] (sq K Zl.wR)
def IY(D:yu K mg "roads_of" yC ["m"] f fd)(B:Bt mg)(l:CG P w K mg base u3 v3):Fk P w K mg base f fd:=
 CA D JP (by bv_omega)
abbrev xw:Stmt:=top 9
def Hr:oZ ["m","places","place","turn","end"] ["m"] (oJ xw):=sC
abbrev zS(P w K mg base):=Fn P w K mg base 1 "places_at" xw ["m"] (sq K Zl.tD)
def Ij(D:yu K mg "places_at" xw ["m"] f fd)(B:Bt mg):zS P w K mg base f fd:=
 CA D Hr (by bv_omega)
abbrev D6:Stmt:=top 10
def Q6:oZ ["m","following","turn","end","behind"] ["m"] (oJ D6):=sC
abbrev Hq(P w K mg base):=Fn P w K mg base 1 "nexts" D6 ["m"] (sq K K51.Cs)
def RD(D:yu K mg "nexts" D6 ["m"] f fd)(B:Bt mg):Hq P w K mg base f fd:=
 CA D Q6 (by bv_omega)
abbrev Ai:Stmt:=top 12
def LA:oZ ["m","start","place_of","known","waiting","here","end","there"] ["m","start"] (oJ Ai):=sC
abbrev Gu(P w K mg base):=Fn P w K mg base 2 "reached" Ai ["m","start"] (sq K K51.yj)
def LG(D:yu K mg "reached" Ai ["m","start"] f fd)(B:Bt mg)(l:zS P w K mg base u5 v5):Gu P w K mg base f fd:=
 CA D LA (by bv_omega)
abbrev BE:Stmt:=top 13
def we:oZ ["m","known","found","start","places","place"] ["m"] (oJ BE):=sC
abbrev BS(P w K mg base):=Fn P w K mg base 3 "pieces" BE ["m"] (sq K K51.wB)
def P6(D:yu K mg "pieces" BE ["m"] f fd)(B:Bt mg)(l:Gu P w K mg base u7 v7):BS P w K mg base f fd:=
 YD D we λ_ _ _ _ _ _ hr s n=>⟨_,
   (oQ (qZ (i:=1) we Kf)
   (oQ (qZ (i:=2) we (ue oU))
   (oQ (Ac PassesOwn.never rfl (Af (by rfl) B.range (oK (sV tR (by rfl) B.len PySem.boot_len (oK (pv 0) oU)) oU)) (Do (i:=3) we)
    (qg (zL (TJ (Gj (Ku hr) (pv 3) (pv 1))) (oQ (qZ (i:=4) we (xv l hr (oK (pv 0) (oK (pv 3) oU)))) (oQ (Ac PassesOwn.never rfl (ve (pv 4)) (Do (i:=5) we)
    (qg (N8 (Ku hr) (pv 1) (pv 5) XR rfl))) (qg (tV (wX aS bh bj ri (pv 2) (oK (BG (N:=["place","m"]) (fr:=[0]) rfl rfl (by trivial) rfl (by trivial) rfl (wQ.of (by trivial) rfl rfl (by exact⟨rfl,trivial⟩) (by repeat (first|exact trivial|refine⟨(by first|exact λ_=>⟨_,rfl⟩|exact λh=>(by rcases h with h|h <;> cases h)),?_⟩)) (by exact⟨⟨rfl,rfl,rfl⟩,trivial⟩)) (ve (pv 4)) (λ_ _ _ _=>C6) (λ_ _ _ _=>(CB BO (by rfl) B.list iH (oK (Cm vY (pv 1) (pv 0) (λ_ _=>rfl)) oU)))) oU)))))) xa)))
   (qg (yT (pv 2)))))),by infer_instance⟩
abbrev qU:Stmt:=top 14
def yi:oZ ["m"] ["m"] (oJ qU):=sC
abbrev uB(P w K mg base):=Fn P w K mg base 4 "refuse_not_one_piece" qU ["m"] (sq K K54.qV)
def yq(D:yu K mg "refuse_not_one_piece" qU ["m"] f fd)(B:Bt mg)(l:BS P w K mg base u8 v8):uB P w K mg base f fd:=
 CA D yi (by bv_omega)
abbrev Iw:Stmt:=top 16
def Xi:oZ ["m","place_of","following","came_by","things","end","there"] ["m"] (oJ Iw):=sC
abbrev S0(P w K mg base):=Fn P w K mg base 5 "walk" Iw ["m"] (sq K K54.C5)
def Wh(D:yu K mg "walk" Iw ["m"] f fd)(B:Bt mg)(l:uB P w K mg base u9 v9)(n:zS P w K mg base u5 v5)(s:Hq P w K mg base u6 v6):S0 P w K mg base f fd:=
 CA D Xi (by bv_omega)
abbrev tX:Stmt:=top 17
def BD:oZ ["things","waiting","word","end","road","last"] ["things"] (oJ tX):=sC
abbrev yd(P w K mg base):=Fn P w K mg base 1 "first_crossing" tX ["things"] (sq K K54.rh)
def Bz(D:yu K mg "first_crossing" tX ["things"] f fd)(B:Bt mg):yd P w K mg base f fd:=
 CA D BD (by bv_omega)
abbrev yW:Stmt:=top 18
def Kp:oZ ["m","piece","found"] ["m"] (oJ yW):=sC
abbrev Ew(P w K mg base):=Fn P w K mg base 6 "crossing" yW ["m"] (sq K K54.tQ)
def JL(D:yu K mg "crossing" yW ["m"] f fd)(B:Bt mg)(n:BS P w K mg base u8 v8)(l:yd P w K mg base u11 v11)(s:S0 P w K mg base u10 v10):Ew P w K mg base f fd:=
 CA D Kp (by bv_omega)
abbrev As:Stmt:=top 20
def Le:oZ ["m","following","steps","end"] ["m"] (oJ As):=sC
abbrev GM(P w K mg base):=Fn P w K mg base 2 "onwards" As ["m"] (sq K K15.Aq)
def LQ(D:yu K mg "onwards" As ["m"] f fd)(B:Bt mg)(l:Hq P w K mg base u6 v6):GM P w K mg base f fd:=
 CA D Le (by bv_omega)
abbrev vR:Stmt:=top 21
def FR:oZ ["steps","end","ends","step"] ["steps","end"] (oJ vR):=sC
abbrev BF(P w K mg base):=Fn P w K mg base 1 "gone_round" vR ["steps","end"] (sq K K15.wa)
def FV(D:yu K mg "gone_round" vR ["steps","end"] f fd)(B:Bt mg):BF P w K mg base f fd:=
 CA D FR (by bv_omega)
abbrev D4:Stmt:=top 22
def Uz:oZ ["m","steps","known","found","start","land","end"] ["m"] (oJ D4):=sC
abbrev HA(P w K mg base):=Fn P w K mg base 3 "lands" D4 ["m"] (sq K K15.qD)
def QZ(D:yu K mg "lands" D4 ["m"] f fd)(B:Bt mg)(s:GM P w K mg base u13 v13)(t:CG P w K mg base u3 v3)(l:vD P w K mg base u2 v2)(n:BF P w K mg base u14 v14):HA P w K mg base f fd:=
 CA D Uz (by bv_omega)
abbrev BL:Stmt:=top 23
def PL:oZ ["m","place_count","road_count","land_count","piece_count","handle_count"] ["m"] (oJ BL):=sC
abbrev Ki(P w K mg base):=Fn P w K mg base 4 "counts" BL ["m"] (sq K K43.Cd)
def Pd(D:yu K mg "counts" BL ["m"] f fd)(B:Bt mg)(l:Fk P w K mg base u4 v4)(s:HA P w K mg base u15 v15)(n:BS P w K mg base u8 v8):Ki P w K mg base f fd:=
 CA D PL (by bv_omega)
abbrev Ar:Stmt:=top 24
def KY:oZ ["m"] ["m"] (oJ Ar):=sC
abbrev Gc(P w K mg base):=Fn P w K mg base 5 "handles" Ar ["m"] (sq K K54.yn)
def Mc(D:yu K mg "handles" Ar ["m"] f fd)(B:Bt mg)(l:Ki P w K mg base u16 v16):Gc P w K mg base f fd:=
 CA D KY (by bv_omega)
abbrev Bx:Stmt:=top 25
def O7:oZ ["m"] ["m"] (oJ Bx):=sC
abbrev Jr(P w K mg base):=Fn P w K mg base 3 "mirror" Bx ["m"] (sq K K19.zN)
def Pr(D:yu K mg "mirror" Bx ["m"] f fd)(B:Bt mg)(l:vD P w K mg base u2 v2):Jr P w K mg base f fd:=
 YD D O7 λ_ _ _ _ _ _ hr s n=>⟨_,
   (qg (yT (xv l hr (oK (BG (cl:=[]) (N:=["turn"]) (fr:=[]) rfl rfl (by trivial) rfl (by trivial) rfl (wQ.none (by trivial)) (ve (pv 0)) (λ_ _ _ _=>C6) (λ_ _ _ _=>(U3 rfl (by rfl) B.list (by rfl) B.reversed (oK (pv 0) oU)))) oU)))),
   (HL (DS (vd (IE (A8 0) RG (Vn (C3 0))) uY)))⟩
abbrev BK:Stmt:=top 27
def OV:oZ ["_law_script","_law_k"] ["_law_script","_law_k"] (oJ BK):=sC
abbrev yp(P w K mg base):=Fn P w K mg base 1 "_law_cell" BK ["_law_script","_law_k"] (sq K Zl.oV)
def Om(D:yu K mg "_law_cell" BK ["_law_script","_law_k"] f fd)(B:Bt mg):yp P w K mg base f fd:=
 CA D OV (by bv_omega)
abbrev Ax:Stmt:=top 28
def uw:oZ ["_law_script","_law_step","_law_shift","_law_a","_law_b"] ["_law_script"] (oJ Ax):=sC
abbrev GH(P w K mg base):=Fn P w K mg base 2 "_law_roads" Ax ["_law_script"] (sq K K51.xY)
def LF(D:yu K mg "_law_roads" Ax ["_law_script"] f fd)(B:Bt mg)(l:yp P w K mg base u19 v19):GH P w K mg base f fd:=
 YD D uw λ_ _ _ _ _ _ hr s n=>⟨_,
   (oQ (qZ (i:=1) uw pB)
   (oQ (qZ (i:=2) uw pB)
   (oQ (zL (vU Kq (qF tL (xv l hr (oK (pv 0) (oK pB oU))) pB) pB (vE _)) (oQ (qZ (i:=1) uw (qF Aa pB (qF tL (xv l hr (oK (pv 0) (oK pB oU))) (qF Ll pB pB)))) (qg (qZ (i:=2) uw (qF tL (xv l hr (oK (pv 0) (oK pB oU))) (qF Ll pB pB))))) xa)
   (oQ (qZ (i:=3) uw (qF Aa pB (qF tL (qF yO (xv l hr (oK (pv 0) (oK pB oU))) pB) pB)))
   (oQ (qZ (i:=4) uw (qF tL (qF yO (xv l hr (oK (pv 0) (oK pB oU))) pB) pB))
   (qg (yT (BG (N:=["_law_k","_law_shift","_law_step","_law_b","_law_a"]) (fr:=[2,1,4,3]) rfl rfl (by trivial) rfl (by trivial) rfl (wQ.of (by trivial) rfl rfl (by exact⟨rfl,rfl,rfl,rfl,trivial⟩) (by repeat (first|exact trivial|refine⟨(by first|exact λ_=>⟨_,rfl⟩|exact λh=>(by rcases h with h|h <;> cases h)),?_⟩)) (by exact⟨⟨rfl,rfl,rfl⟩,⟨rfl,rfl,rfl⟩,⟨rfl,rfl,rfl⟩,⟨rfl,rfl,rfl⟩,trivial⟩)) (Af (by rfl) B.range (oK pB oU)) (λ_ _ _ _=>C6) (λ_ _ _ _=>(qF Aa (qF Ft (pv 2) (qF Aa pB (qF tL (qF Aa (qF Ft (pv 4) (pv 0)) (pv 3)) pB))) (pv 1))))))))))),by infer_instance⟩
abbrev B7:Stmt:=top 29
def Pf:oZ ["_law_turns","_law_rows","_law_turn","_law_at"] ["_law_turns"] (oJ B7):=sC
abbrev Ef(P w K mg base):=Fn P w K mg base 1 "_law_good" B7 ["_law_turns"] (sq K K72.zF)
def P8(D:yu K mg "_law_good" B7 ["_law_turns"] f fd)(B:Bt mg):Ef P w K mg base f fd:=
 CA D Pf (by bv_omega)
abbrev AA:Stmt:=top 30
def rV:oZ ["_law_cells","_law_roads_here","_law_loose","_law_turns","_law_path","_law_opened","_law_cell_here","_law_kind","_law_turn","_law_at","_law_end"] ["_law_cells","_law_roads_here","_law_loose"] (oJ AA):=sC
abbrev GE(P w K mg base):=Fn P w K mg base 2 "_law_piece" AA ["_law_cells","_law_roads_here","_law_loose"] (Ph K 1 K54.yf)
def KP(D:yu K mg "_law_piece" AA ["_law_cells","_law_roads_here","_law_loose"] f fd)(B:Bt mg)(l:Ef P w K mg base u21 v21):GE P w K mg base f fd:=
 ⟨D,D.F.ok rV (λn H Q E h=>Sd h) λt A outer s H n Q E hr h=>⟨_,(oQ (qZ (i:=3) rV (ue (oK (ue oU) oU))) (oQ (qZ (i:=4) rV (ue (oK pB oU))) (oQ (qZ (i:=5) rV (ue oU)) (oQ (Ac PassesOwn.never rfl (ve (pv 0)) (Do (i:=6) rV) (oQ (qZ (i:=7) rV (qF tL (pv 6) pB)) (oQ (qZ (i:=8) rV (Cm vY (pv 3) (Cm vY (pv 4) (EH A9 pB) (λ_ _=>rfl)) (λ_ _=>rfl))) (qg (zL (PW.pt (Lq (vU Gy pB (pv 7) (vE _)) (HQ (Cc (pv 5) (λ_=>rfl))))) (oQ (qZ (i:=9) rV (qF Mi (sV tR (by rfl) B.len PySem.boot_len (oK (pv 5) oU)) pB)) (oQ (zL (S6 (pv 2)) (qg (qZ (i:=9) rV (qF tL (qF yO (pv 6) pB) (sV tR (by rfl) B.len PySem.boot_len (oK (pv 5) oU))))) xa) (qg (tV (wX aS bh bj ri (pv 8) (oK (EH A9 (wX aS dE dF Je (pv 5) (oK (pv 9) oU))) oU)))))) (qg (zL (PW.pt (Lq (QH Gy Gy pB (pv 7) pB) (HQ (vU Kq (sV tR (by rfl) B.len PySem.boot_len (oK (pv 4) oU)) pB (vE _))))) (qg (tV (He aS dE dF Io (pv 4)))) (qg (zL (Cc (pv 1) (λ_=>rfl)) (oQ (qZ (i:=10) rV (qF Ft (He aS dE dF Io (pv 1)) (qF Mi pB (qF Ft pB (qF tL (qF yO (pv 6) pB) pB))))) (oQ (tV (wX aS bh bj ri (pv 8) (oK (pv 10) oU))) (qg (zL (vU Gy (pv 7) pB (vE _)) (oQ (tV (wX aS bh bj ri (pv 4) (oK (sV tR (by rfl) B.len PySem.boot_len (oK (pv 3) oU)) oU))) (qg (tV (wX aS bh bj ri (pv 3) (oK (ue (oK (EH A9 (pv 10)) oU)) oU))))) (qg (tV (wX aS bh bj ri (pv 5) (oK (pv 10) oU)))))))) xa))))))))) (oQ (Jf PassesOwn.never (Cc (pv 5) (λ_=>rfl)) (qg (tV (wX aS bh bj ri (Cm vY (pv 3) (Cm vY (pv 4) (EH A9 pB) (λ_ _=>rfl)) (λ_ _=>rfl)) (oK (EH A9 (He aS dE dF Io (pv 5))) oU))))) (qg (yT (xv l hr (oK (pv 3) oU))))))))),KZ ["_law_cells","_law_roads_here","_law_loose","_law_turns","_law_path","_law_opened","_law_cell_here","_law_kind","_law_turn","_law_at","_law_end"] (K:=K) (BQ (DN (i:=3) (zZ (vd (zZ uY) uY))) (BQ (DN (i:=4) (zZ (vd (SR.kSc qC) uY))) (BQ (DN (i:=5) (zZ uY)) (BQ (Wq (A8 0) (M0 (DN (i:=7) (SR.kSc (sF xB (qu 6) qC))) (V8 (Sy (N1 3) (sF TU (qu 4) (NX CD qC))) (L9 (Me (yZ (sF GR qC (qu 7))) (Im (qu 5))) (HE (Ic (SR.kSc (sF Mx (EC AQ (uH (qu 5) xl)) qC)) ⋯) (HE (R7 (TC (qu 2)) (Ic (SR.kSc (sF xB (sF HN (qu 6) qC) (EC AQ (uH (qu 5) xl)))) ⋯) (Jy (λ_ _ _ h=>h))) (Su (Xq CD (JO (i:=5) (qu 9)))))) (L9 (Me (yZ (aaf GR GR qC (qu 7) qC abS)) (yZ (sF NO (EC AQ (uH (qu 4) xl)) qC))) (TZ (Pj (Ec (i:=4)))) (L9 (Im (qu 1)) (HE (Rx (aa2 Li (Ec (i:=1)) (sF Mx qC (sF Li qC (sF xB (sF HN (qu 6) qC) qC)))) ⋯) (Vh (Xk (A8 10)) (Y2 (yZ (sF GR (qu 7) qC)) (M0 (HU (i:=4) (SR.kSc (EC AQ (uH (qu 3) xl)))) (HU (i:=3) (zZ (vd (SR.kSc (NX CD (qu 10))) uY)))) (HU (i:=5) (A8 10))))) (TZ J6))))))) (BQ (Pi 100000 (Im (qu 5)) (OS (Sy (N1 3) (sF TU (qu 4) (NX CD qC))) (Xq CD (Ec (i:=5))))) (WJ (DS (vd (A8 3) uY)))))))) ⋯ h⟩⟩
abbrev zk:Stmt:=top 31
def tF:oZ ["_law_script","_law_most","_law_loose","_law_roads_here","_law_cells","_law_head","_law_cut","_law_found"] ["_law_script","_law_most","_law_loose"] (oJ zk):=sC
abbrev El(P w K mg base):=Fn P w K mg base 3 "_law_pieces" zk ["_law_script","_law_most","_law_loose"] (sq K K54.rR)
def JM(D:yu K mg "_law_pieces" zk ["_law_script","_law_most","_law_loose"] f fd)(B:Bt mg)(s:yp P w K mg base u19 v19)(t:GH P w K mg base u20 v20)(l:GE P w K mg base u22 v22):El P w K mg base f fd:=
 YD D tF λ_ _ _ _ _ _ hr u n=>⟨_,
   (oQ (qZ (i:=3) tF (zO BY (xv t hr (oK (pv 0) oU)) DK (Ag (pv 1))))
   (oQ (qZ (i:=4) tF (zO BY (pv 0) (Ag pB) (Ag pB)))
   (oQ (qZ (i:=5) tF (xv s hr (oK (pv 0) (oK pB oU))))
   (oQ (qZ (i:=6) tF (qF tL (qF yO (pv 5) pB) (qF Aa (sV tR (by rfl) B.len PySem.boot_len (oK (pv 4) oU)) pB)))
   (oQ (zL (vU Gy (qF tL (pv 5) pB) pB (vE _)) (qg (qZ (i:=6) tF (sV tR (by rfl) B.len PySem.boot_len (oK (pv 4) oU)))) xa)
   (oQ (qZ (i:=7) tF (ue (oK (xv l hr (oK (zO BY (pv 4) DK (Ag (pv 6))) (oK (pv 3) (oK (Lh (pv 2) (Hz (D8 So (qF tL (pv 5) pB) pB (vE _)))) oU)))) oU)))
   (oQ (zL (vU Kq (qF tL (pv 5) pB) pB (vE _)) (qg (tV (wX aS bh bj ri (pv 7) (oK (xv l hr (oK (zO BY (pv 4) (Ag (pv 6)) DK) (oK (pv 3) (oK (Lh (pv 2) (Hz (D8 So (qF tL (pv 5) pB) pB (vE _)))) oU)))) oU)))) xa)
   (oQ (zL (vU Kq (qF tL (pv 5) pB) pB (vE _)) (qg (tV (wX aS bh bj ri (pv 7) (oK (ue (oK (ue oU) oU)) oU)))) xa)
   (qg (yT (sV (B1 u) (by rfl) B.sorted iu (oK (pv 7) oU)))))))))))),
   (xP (CN (i:=3) (KB (SL.q (SK.lOf (DS (vd (A8 0) uY)))) D3 (AB (qu 1))))
   (xP (CN (i:=4) (KB (C3 0) (AB qC) (AB qC)))
   (xP (CN (i:=5) (SR.kSc (MU (uH (qu 0) (uH qC xl)))))
   (xP (CN (i:=6) (SR.kSc (sF xB (sF HN (qu 5) qC) (sF TH (EC AQ (uH (qu 4) xl)) qC))))
   (xP (JU (yZ (sF GR (sF xB (qu 5) qC) qC)) (CN (i:=6) (SR.kSc (EC AQ (uH (qu 4) xl)))) DI)
   (xP (Tf (i:=7) (GC (i:=3) (KB (C3 4) D3 (AB (qu 6))) (vd (SR.kSc (KL (qu 2) (sF SN (sF xB (qu 5) qC) qC))) uY)))
   (xP (JU (yZ (sF NO (sF xB (qu 5) qC) qC)) (Wg (i:=7) (GC (i:=3) (KB (C3 4) (AB (qu 6)) D3) (vd (SR.kSc (KL (qu 2) (sF SN (sF xB (qu 5) qC) qC))) uY))) DI)
   (xP (JU (yZ (sF NO (sF xB (qu 5) qC) qC)) (Qv (i:=7) (zZ (vd (zZ uY) uY))) DI)
   (HL (JB (C3 7)))))))))))⟩
abbrev yI:Stmt:=top 32
def Jd:oZ ["_law_lot","_law_turns","_law_piece_here"] ["_law_lot"] (oJ yI):=sC
abbrev Bk(P w K mg base):=Fn P w K mg base 1 "_law_joined" yI ["_law_lot"] (sq K K54.uT)
def J3(D:yu K mg "_law_joined" yI ["_law_lot"] f fd)(B:Bt mg):Bk P w K mg base f fd:=
 CA D Jd (by bv_omega)
abbrev Cg:Stmt:=top 33
def Py:oZ ["_law_turns"] ["_law_turns"] (oJ Cg):=sC
abbrev IK(P w K mg base):=Fn P w K mg base 1 "_law_copy" Cg ["_law_turns"] (sq K K51.tx)
def PD(D:yu K mg "_law_copy" Cg ["_law_turns"] f fd)(B:Bt mg):IK P w K mg base f fd:=
 YD D Py λ_ _ _ _ _ _ hr n l=>⟨_,
   (qg (yT (BG (cl:=[]) (N:=["_law_turn"]) (fr:=[]) rfl rfl (by trivial) rfl (by trivial) rfl (wQ.none (by trivial)) (ve (pv 0)) (λ_ _ _ _=>C6) (λ_ _ _ _=>(CB BO (by rfl) B.list iH (oK (pv 0) oU)))))),by infer_instance⟩
abbrev zi:Stmt:=top 34
def KA:oZ ["_law_turns","_law_follow_here","_law_turn","_law_k","_law_end"] ["_law_turns"] (oJ zi):=sC
abbrev E8(P w K mg base):=Fn P w K mg base 1 "_law_follow" zi ["_law_turns"] (sq K K52.yH)
def Jo(D:yu K mg "_law_follow" zi ["_law_turns"] f fd)(B:Bt mg):E8 P w K mg base f fd:=
 CA D KA (by bv_omega)
abbrev Al:Stmt:=top 35
def LP:oZ ["_law_turns","_law_follow_here","_law_met","_law_many","_law_start","_law_end"] ["_law_turns"] (oJ Al):=sC
abbrev Gi(P w K mg base):=Fn P w K mg base 2 "_law_lands" Al ["_law_turns"] (sq K K54.f_L_lands)
def LH(D:yu K mg "_law_lands" Al ["_law_turns"] f fd)(B:Bt mg)(l:E8 P w K mg base u26 v26):Gi P w K mg base f fd:=
 CA D LP (by bv_omega)
abbrev sY:Stmt:=top 36
def AX:oZ ["_law_lot","_law_turns","_law_roads_here"] ["_law_lot"] (oJ sY):=sC
abbrev xi(P w K mg base):=Fn P w K mg base 3 "_law_twice_handles" sY ["_law_lot"] (sq K K54.qP)
def A5(D:yu K mg "_law_twice_handles" sY ["_law_lot"] f fd)(B:Bt mg)(l:mg "sum" = none)(s:Bk P w K mg base u24 v24)(n:Gi P w K mg base u27 v27):xi P w K mg base f fd:=
 CA D AX (by bv_omega)
abbrev Ap:Stmt:=top 37
def Mz:oZ ["_law_found"] ["_law_found"] (oJ Ap):=sC
abbrev GG(P w K mg base):=Fn P w K mg base 1 "_law_whole" Ap ["_law_found"] (sq K K51.yg)
def LK(D:yu K mg "_law_whole" Ap ["_law_found"] f fd)(B:Bt mg):GG P w K mg base f fd:=
 CA D Mz (by bv_omega)
abbrev zl:Stmt:=top 38
def Ju:oZ ["_law_turns","_law_places_here","_law_place","_law_turn","_law_end"] ["_law_turns"] (oJ zl):=sC
abbrev Fh(P w K mg base):=Fn P w K mg base 1 "_law_places" zl ["_law_turns"] (sq K Zl.tD)
def JW(D:yu K mg "_law_places" zl ["_law_turns"] f fd)(B:Bt mg):Fh P w K mg base f fd:=
 CA D Ju (by bv_omega)
abbrev AC:Stmt:=top 39
def wG:oZ ["_law_cell_here","_law_many","_law_left","_law_order_here","_law_k"] ["_law_cell_here","_law_many"] (oJ AC):=sC
abbrev GF(P w K mg base):=Fn P w K mg base 1 "_law_order" AC ["_law_cell_here","_law_many"] (sq K K75.Aw)
def Lf(D:yu K mg "_law_order" AC ["_law_cell_here","_law_many"] f fd)(B:Bt mg):GF P w K mg base f fd:=
 YD D wG λ_ _ _ _ _ _ hr n l=>⟨_,
   (oQ (qZ (i:=2) wG (IU rfl (by rfl) B.list (by rfl) B.range (oK (pv 1) oU)))
   (oQ (qZ (i:=3) wG (ue oU))
   (oQ (Ac PassesOwn.never rfl (Af (by rfl) B.range (oK (pv 1) oU)) (Do (i:=4) wG)
    (oQ (tV (wX aS bh bj ri (pv 3) (oK (wX aS dE dF Je (pv 2) (oK (qF tL (pv 0) (sV tR (by rfl) B.len PySem.boot_len (oK (pv 2) oU))) oU)) oU))) (qg (qZ (i:=0) wG (qF yO (pv 0) (qF Aa (sV tR (by rfl) B.len PySem.boot_len (oK (pv 2) oU)) pB))))))
   (qg (yT (pv 3)))))),by infer_instance⟩
abbrev yB:Stmt:=top 40
def Jj:oZ ["_law_script","_law_many","_law_cell_here","_law_names","_law_name","_law_k","_law_room"] ["_law_script","_law_many"] (oJ yB):=sC
abbrev Fo(P w K mg base):=Fn P w K mg base 2 "_law_called" yB ["_law_script","_law_many"] (sq K K75.yU)
def JV(D:yu K mg "_law_called" yB ["_law_script","_law_many"] f fd)(B:Bt mg)(l:yp P w K mg base u19 v19):Fo P w K mg base f fd:=
 CA D Jj (by bv_omega)
abbrev DZ:Stmt:=top 41
def UI:oZ ["_law_script","_law_most","_law_many","_law_ends","_law_name","_law_order_here","_law_turns","_law_met","_law_end","_law_turn","_law_here"] ["_law_script","_law_most"] (oJ DZ):=sC
abbrev Nk(P w K mg base):=Fn P w K mg base 3 "_law_any" DZ ["_law_script","_law_most"] (sq K K75.BZ)
def SJ(D:yu K mg "_law_any" DZ ["_law_script","_law_most"] f fd)(B:Bt mg)(n:Fo P w K mg base u32 v32)(l:GF P w K mg base u31 v31)(s:Ef P w K mg base u21 v21)(t:yp P w K mg base u19 v19):Nk P w K mg base f fd:=
 CA D UI (by bv_omega)
abbrev Au:Stmt:=top 42
def rY:oZ ["_law_m","_law_places_here","_law_part","_law_turn","_law_end","_law_one","_law_other","_law_lot"] ["_law_m"] (oJ Au):=sC
abbrev G6(P w K mg base):=Fn P w K mg base 2 "_law_split" Au ["_law_m"] (sq K K52.wj)
def Mg(D:yu K mg "_law_split" Au ["_law_m"] f fd)(B:Bt mg)(l:mg "set" = none)(s:Fh P w K mg base u30 v30):G6 P w K mg base f fd:=
 YD D rY λ_ _ _ _ _ _ hr t n=>⟨_,
   (oQ (qZ (i:=1) rY (xv s hr (oK (pv 0) oU)))
   (oQ (qZ (i:=2) rY (IU rfl (by rfl) B.list (by rfl) B.range (oK (sV tR (by rfl) B.len PySem.boot_len (oK (pv 0) oU)) oU)))
   (oQ (Ac PassesOwn.never rfl (ve (pv 0)) (Do (i:=3) rY)
    (qg (Ac PassesOwn.never rfl (ve (pv 3)) (Do (i:=4) rY)
    (oQ (qZ (i:=5) rY (Cm vY (pv 2) (Ht (Ku hr) (pv 1) (pv 4) (by first|rfl|exact trivial|(intro _ _;rfl))) (λ_ _=>rfl))) (oQ (qZ (i:=6) rY (Cm vY (pv 2) (Ht (Ku hr) (pv 1) (EH A9 (pv 4)) (by first|rfl|exact trivial|(intro _ _;rfl))) (λ_ _=>rfl))) (qg (Nr (i:=2) (N:=["_law_k","_law_one","_law_other"]) (fr:=[5,6]) rfl rY.nd rfl (by trivial) rfl (by trivial) rfl (by trivial) rfl (wQ.of (by trivial) rfl rfl (by exact⟨rfl,rfl,trivial⟩) (by repeat (first|exact trivial|refine⟨(by first|exact λ_=>⟨_,rfl⟩|exact λh=>(by rcases h with h|h <;> cases h)),?_⟩)) (by exact⟨⟨rfl,rfl,rfl⟩,⟨rfl,rfl,rfl⟩,trivial⟩)) (ve (pv 2)) (λ_ _ _ _=>C6) (λ_ _ _ _=>(Cm vY (ue (oK (pv 0) (oK (pv 1) oU))) (CB Oh (by rfl) B.int iR (oK (D8 TN (pv 0) (pv 2) (vE _)) oU)) (λ_ _=>rfl))))))))))
   (oQ (qZ (i:=7) rY (ue oU))
   (oQ (Ac PassesOwn.never rfl (ve (VJ rfl (by rfl) B.sorted (by rfl) l (oK (pv 2) oU))) (Do (i:=5) rY)
    (qg (tV (wX aS bh bj ri (pv 7) (oK (Qs (N:=["_law_turn","_law_k","_law_one"]) (fr:=[5]) rfl rfl (by trivial) rfl (by trivial) rfl rfl (En.of (by trivial) rfl rfl rfl (by exact⟨rfl,trivial⟩) (by repeat (first|exact trivial|refine⟨(by first|exact λ_=>⟨_,rfl⟩|exact λh=>(by rcases h with h|h <;> cases h)),?_⟩)) (by exact⟨⟨rfl,rfl,rfl⟩,trivial⟩)) (S4 (by rfl) B.zip (oK (pv 0) (oK (pv 2) oU))) (λ_ _ _ _=>Ra (vU TN (pv 1) (pv 2) (vE _))) (λ_ _ _ _=>(pv 0))) oU)))))
   (qg (yT (Yd (pv 7) (Hz (ue (oK (ue (oK (ue oU) oU)) oU))))))))))),by infer_instance⟩
abbrev AN:Stmt:=top 43
def Yq:oZ ["_law_script","_law_lot","_law_m","_law_twice","_law_many","_law_each"] ["_law_script"] (oJ AN):=sC
abbrev abj(P w K mg base):=Fn P w K mg base 7 "law" AN ["_law_script"] (sq K K54.M7)
def ZJ(D:yu K mg "law" AN ["_law_script"] f fd)(B:Bt mg)(G:El P w K mg base u23 v23)(H:Bk P w K mg base u24 v24)(I:xi P w K mg base u28 v28)(n:Gc P w K mg base u17 v17)(u:IK P w K mg base u25 v25)(t:HA P w K mg base u15 v15)(s:Jr P w K mg base u18 v18)(J:yp P w K mg base u19 v19)(x:G6 P w K mg base u34 v34)(z:GG P w K mg base u29 v29)(E:Nk P w K mg base u33 v33)(l:Ew P w K mg base u12 v12):abj P w K mg base f fd:=
 CA D Yq (by bv_omega)
end K54
namespace K51
open PySem L2 Mr Z Xe Zl
noncomputable def rd(st sh a b k:Int):Int:=st*(1+(a*k+b) % 67)+sh
def rds(st sh a b:Int):Ϝ:=(aF 67).map λk:Nat=>rd st sh a b k
def EA(t:1<=a)(u:a<=66):rS uz (kSc (qe vC (qe wW (oH 2) (qe vC (rC (.int 1)) (qe tP (qe vC (qe wW (oH 4) (oH 0)) (oH 3)) (rC (.int 67))))) (oH 1))) [i0 sh,i0 st,i0 b,i0 a] (qr 0 67)=some ((rds st sh a b).map λz=>.sh (.int z)):=by
 have key:=uj (te:=kSc (qe vC (qe wW (oH 2) (qe vC (rC (.int 1)) (qe tP (qe vC (qe wW (oH 4) (oH 0)) (oH 3)) (rC (.int 67))))) (oH 1))) (cap:=[i0 sh,i0 st,i0 b,i0 a])
  (λd=>match d with|.int k=>.sh (.int (rd st sh a b k))|_=>.sh .non) (ds:=qr 0 67) (by
  intro d hd;rw[Dy]at hd;obtain⟨k,_,rfl⟩:=mMq.mp hd;have n:=Kn (i:=a) (j:=(k)) ∅ ∅
  have s:=XU (i:=st) (j:=1+(a*(k)+b) % 67) ∅ ∅
  have l:=λi=>sJ (i:=i) (j:=67) ⋯
  refine⟨[i0 (k),i0 sh,i0 st,i0 b,i0 a],?_⟩
  simp_arith [n,s,l,rd])
 rw[key];rfl
def roads_ok ns:∃st sh a b:Int,1<=st/\st<=10 ^ 57/\0<=sh/\sh<10 ^ 59/\1<=a/\a<=66/\0<=b/\b<67/\xY [.scr ns]=some (aI (rds st sh a b)):=by
 have L:0<=cell ns 0 / 3 % 66:=cg _ ⋯
 have M:cell ns 0 / 3 % 66<66:=bI _ ⋯
 have b1:0<=cell ns 0 / 198 % 67:=cg _ ⋯
 have b2:cell ns 0 / 198 % 67<67:=bI _ ⋯
 have O:0<=cell ns 1 % 10 ^ 57:=cg _ ⋯
 have P:cell ns 1 % 10 ^ 57<10 ^ 57:=bI _ ⋯
 have I:0<=cell ns 2 % 10 ^ 59:=cg _ ⋯
 have J:cell ns 2 % 10 ^ 59<10 ^ 59:=bI _ ⋯
 have E:=λi:Int=>sJ (i:=i) (j:=3) ⋯
 have s:=λi:Int=>sJ (i:=i) (j:=66) ⋯
 have t:=λi:Int=>sJ (i:=i) (j:=67) ⋯
 have z:=λi:Int=>sJ (i:=i) (j:=10 ^ 57) ⋯
 have B:=λi:Int=>sJ (i:=i) (j:=10 ^ 59) ⋯
 have G:=λi:Int=>za (i:=i) (j:=3) ⋯ ⋯
 have l:=λi:Int=>za (i:=i) (j:=198) ⋯ ⋯
 have u:CU [.int 67]=some (qr 0 67):=yD (n:=67) ⋯
 have x:(qr 0 67).length<=qM:=by show 67<=16777216;decide
 by_cases H:0<cell ns 0 % 3
 .refine⟨1+cell ns 1 % 10 ^ 57,cell ns 2 % 10 ^ 59,1+cell ns 0 / 3 % 66,cell ns 0 / 198 % 67,by lia,by lia,I,J,by lia,by lia,b1,b2,?_⟩
  have rc:=EA (st:=1+cell ns 1 % 10 ^ 57) (sh:=cell ns 2 % 10 ^ 59) (a:=1+cell ns 0 / 3 % 66) (b:=cell ns 0 / 198 % 67) ∅ ∅
  simp_arith [xY,Ba,Xw,aby,aco,H,E,s,t,z,B,G,l,p57,p59,u,x,rc]
 .refine⟨1,0,1+cell ns 0 / 3 % 66,cell ns 0 / 198 % 67,by decide,by decide,by decide,by decide,by lia,by lia,b1,b2,?_⟩
  have rc:=EA (st:=1) (sh:=0) (a:=1+cell ns 0 / 3 % 66) (b:=cell ns 0 / 198 % 67) ∅ ∅
  simp_arith [xY,Ba,Xw,H,E,s,t,G,l,u,x,rc]
def Zo(z:1<=st)(B:1<=a)(E:a<=66){j k:Nat}(G:j<67)(hk:k<67)(h:rd st sh a b j=rd st sh a b k):j=k:=by
 unfold rd at h;have n:st*(1+(a*j+b) % 67)=st*(1+(a*k+b) % 67):=by lia
 have H:=Int.eq_of_mul_eq_mul_left ∅ n
 have s:((a*j+b)-(a*k+b)) % 67=0:=Int.emod_eq_emod_iff_emod_sub_eq_zero.mp ∅
 have t:(a*((j:Int)-k)) % 67=0:=by
  rw[←s];congr 1;rw[Int.mul_sub];lia
 obtain⟨l,rfl⟩:∃l:Nat,a=(l:Int)+1:=⟨(a-1).toNat,by lia⟩
 rcases hW j k with q|q|q
 .exfalso;refine Mr.NU ⟨l,by lia⟩ ⟨k-j,by lia⟩ (by show 0<k-j;lia) ?_
  show(l+1)*(k-j) % 67=0;have u:(((l:Int)+1)*((k)-j)) % 67=0:=by
   have:((l:Int)+1)*((k)-j) = -(((l)+1)*((j)-k)):=by
    rw[←Int.mul_neg];congr 1;lia
   lia
  have x:(((l+1)*(k-j) % 67:Nat):Int)=0:=by
   rw[←u];push_cast [cT q];rfl
  lia
 .exact q
 .exfalso;refine Mr.NU ⟨l,by lia⟩ ⟨j-k,by lia⟩ (by show 0<j-k;lia) ?_
  show(l+1)*(j-k) % 67=0;have x:(((l+1)*(j-k) % 67:Nat):Int)=0:=by
   rw[←t];push_cast [cT q];rfl
  lia
def rds_len st sh a b:(rds st sh a b).length=67:=by unfold rds;rw[lMq,aB]
def OY(l:1<=st)(n:1<=a)(s:a<=66):(rds st sh a b).Nodup:=by
 unfold rds;rw[bp,bx];refine bu.imp_of_mem (λ{x y} hx hy hne e=>hne (Zo l n s (bA.mp hx) (bA.mp hy) e)) (bp.mp cY)
def Vu(l:1<=st)(n:0<=sh)(h:z∈rds st sh a b):1<=z:=by
 obtain⟨k,_,rfl⟩:=mMq.mp h;have:1*1<=st*(1+(a*(k)+b) % 67):=Int.mul_le_mul l ∅ ⋯ ∅
 show 1<=st*(1+(a*(k)+b) % 67)+sh;lia
def Vp(hl:rs.length<=500000):tx [dM rs]=some (.ow (rs.map aI)):=by
 have key:=uj (te:=Et (va 0)) (cap:=[]) (λd=>match d with|.list l=>.ow (l.map .sh)|_=>.sh .non) (ds:=rs.map dI) (by
  intro d hd;obtain⟨r,_,rfl⟩:=mMq.mp hd;refine⟨[some (.sh (dI r))],?_⟩
  simp_arith [dI])
 have n:rs.length<=qM:=by lia
 have e:(rs.map dI).map (λd=>match d with|D.list l=>AV.ow (l.map .sh)|_=>.sh .non)=rs.map aI:=by
  rw[mPq];refine mCq λr _=>?_
  show AV.ow ((r.map D.int).map .sh)=aI r;rw[mPq];rfl
 rw[e]at key
 simp_arith [tx,GB,dM,key,n]
noncomputable def AR(x:String×Int):AV:=.sh (.tup [.str x.1,.int x.2])
def kd(ks:Θ):List (pQ×D):=ks.map λk:Nat=>((aN (k:Int):pQ),D.bl true)
def wd(ws:Θ):List AV:=ws.map λk:Nat=>AV.sh (.int (k:Int))
def K4 ks(t:Nat):(kd ks).any (λkv=>decide (kv.1=(aN (t:Int):pQ)))=decide (t∈ks):=by
 induction ks with
 |nil=>simp[kd]
 |cons k ks l=>
  unfold kd at l ⊢;rw[aw,dW,l]
  by_cases h:t=k
  .subst h;simp
  .have n:¬ (aN (k):pQ)=aN (t:Int):=λq=>h (by have:=aN.inj q;lia)
   simp[n,h]
def Rc ks(t:Nat):(getD (kd ks) (aN (t:Int))).isSome=decide (t∈ks):=by
 unfold getD;rw[dQ,←K4,cE,fD,fN]
def Q3{ks:Θ}(h:t∉ks):xC (kd ks) (aN (t:Int)) (.bl true)=kd (ks++[t]):=by
 unfold xC;rw[K4,d4 h];simp[kd]
def Ma{t:Nat}(s:getD kvs (aN (-e))=some (.int (t:Int)))(hk:ks.length<500000)(hw:ws.length<500000) :
  tY [v0,v1,some (.owd kvs),some (.owd (kd ks)),some (.ow (wd ws)),v5,i0 e,v7]=some (.nx [v0,v1,some (.owd kvs),some (.owd (kd (if t∈ks then ks else ks++[t]))),some (.ow (wd (if t∈ks then ws else ws++[t]))),v5,i0 e,i0 (t:Int)]):=by
 have u:(kd ks).length<qM:=by unfold kd;rw[lMq];show _<16777216;lia
 have x:(wd ws).length<qM:=by unfold wd;rw[lMq];show _<16777216;lia
 have l:=Rc ks t
 by_cases h:t∈ks
 .simp_arith [tY,s,l,h]
 .have z:=Q3 h;have n:wd ws++[.sh (.int (t))]=wd (ws++[t]):=by simp[wd]
  simp_arith [tY,s,l,h,z,u,x,n]
noncomputable def DY(pl:Int->Nat)(x:List Nat×Θ)(e:Int):List Nat×Θ:=if pl (-e)∈x.1 then x else (x.1++[pl (-e)],x.2++[pl (-e)])
theorem Nq pl:∀(r:Ϝ) x,(r.foldl (DY pl) x).1.length<=x.1.length+r.length/\(r.foldl (DY pl) x).2.length<=x.2.length+r.length
 | [],x=>⟨af _,af _⟩
 |e::r,x=>by
  obtain⟨l,n⟩:=Nq pl r (DY pl x e);have s:(DY pl x e).1.length<=x.1.length+1/\(DY pl x e).2.length<=x.2.length+1:=by
   unfold DY;split
   .exact⟨bP _,bP _⟩
   .simp
  rw[dh,lCq];lia
def Pm{r:Ϝ}(z:∀e∈r,getD kvs (aN (-e))=some (.int (pl (-e):Int)))(hk:ks.length+r.length<500000)(hw:ws.length+r.length<500000) :
  ∃n l,rZ 6 tY (r.map D.int) [v0,v1,some (.owd kvs),some (.owd (kd ks)),some (.ow (wd ws)),v5,v6,v7]=some (.nx [v0,v1,some (.owd kvs),some (.owd (kd (r.foldl (DY pl) (ks,ws)).1)),some (.ow (wd (r.foldl (DY pl) (ks,ws)).2)),v5,n,l]):=by
 have key:=tO (x:=6) (body:=tY) (λi S=>∃n l,S=[v0,v1,some (.owd kvs),some (.owd (kd ((r.take i).foldl (DY pl) (ks,ws)).1)),some (.ow (wd ((r.take i).foldl (DY pl) (ks,ws)).2)),v5,n,l]) (ds:=r.map D.int) (S:=[v0,v1,some (.owd kvs),some (.owd (kd ks)),some (.ow (wd ws)),v5,v6,v7])
  ⟨v6,v7,rfl⟩ (by
  rintro i d S hd ⟨n,l,rfl⟩;rw[gMq]at hd;obtain⟨e,s,rfl⟩:=oMq.mp hd;have hi:i<r.length:=(gSq.mp s).1;have B:e∈r:=mGq s;obtain⟨t,u⟩:=Nq pl (r.take i) (ks,ws);rw[lTq]at t u;have E:((r.take i).foldl (DY pl) (ks,ws)).1.length<=ks.length+min i r.length:=t;have G:((r.take i).foldl (DY pl) (ks,ws)).2.length<=ws.length+min i r.length:=u;have step:=Ma (v0:=v0) (v1:=v1) (v5:=v5) (v7:=l) (z e B) (ks:=((r.take i).foldl (DY pl) (ks,ws)).1) (ws:=((r.take i).foldl (DY pl) (ks,ws)).2) ∅ ∅
  have H:(r.take (i+1)).foldl (DY pl) (ks,ws)=DY pl ((r.take i).foldl (DY pl) (ks,ws)) e:=by
   have:r[i]'hi=e:=by rw[gEg hi]at s;exact aA.inj s
   rw[gA hi,ij,this];rfl
  refine⟨_,step,i0 e,i0 (pl (-e):Int),?_⟩;rw[H];unfold DY;split <;> rfl)
 obtain⟨I,e,n,l,rfl⟩:=key;rw[lMq,aK]at e;exact⟨n,l,e⟩
theorem XG:∀N (l:Θ),l.Nodup->(∀x∈l,x<N)->l.length<=N
 |0,l,_,h=>by
  cases l with
  |nil=>exact af _
  |cons x l=>exact absurd (h x (ah ..)) (cG _)
 |N+1,l,hn,h=>by
  have n:=XG N (l.erase N) (hn.erase N) (λx s=>by
   have:=(hn.mem_erase_iff).mp s;have:=h x this.2;lia)
  rw[List.length_erase]at n;split at n <;> lia
def plc(rs:Λ)(e:Int):Nat:=rs.findIdx λr=>decide (e∈r)
def same_place{rs:Λ}(hn:rs.flatten.Nodup){i:Nat}{r s:Ϝ}(hi:rs[i]?=some r)(l:rs[j]?=some s)(n:e∈r)(t:e∈s):i=j:=by
 have a:=Az 0 hn hi n;have b:=Az 0 hn l t;rw[a]at b;have:=D.int.inj (aA.inj b);lia
def plc_eq(hn:rs.flatten.Nodup){r:Ϝ}(hi:rs[i]?=some r)(l:e∈r):plc rs e=i:=by
 have hl:rs.findIdx (λr=>decide (e∈r))<rs.length:=gw ⟨r,mGq hi,d0 l⟩
 have n:=iW (w:=hl);exact same_place hn (gEg hl) hi (of_decide_eq_true n) l
structure Mp (rs:Λ):Prop where
 hn:rs.flatten.Nodup
 hl:rs.flatten.length<=1000
 hr:rs.length<=1000
 hneg:∀e∈rs.flatten, -e∈rs.flatten
def Mp.at(h:Mp rs)(s:e∈rs.flatten):∃r,rs[plc rs e]?=some r/\e∈r:=by
 obtain⟨r,t,l⟩:=mFq.mp s;obtain⟨i,n⟩:=ay.mp t;exact⟨r,by rw[plc_eq h.hn n l];exact n,l⟩
def Mp.other(h:Mp rs){k:Nat}{r:Ϝ}(hk:rs[k]?=some r)(l:e∈r):-e∈rs.flatten:=h.hneg e (mFq.mpr ⟨r,mGq hk,l⟩)
def Mp.kv(h:Mp rs)(l:e∈rs.flatten):getD (qv 0 rs) (aN e)=some (.int (plc rs e:Int)):=by
 obtain⟨r,n,s⟩:=h.at l;have:=Az 0 h.hn n s
 rwa [cH]at this
def Mp.lt(h:Mp rs)(l:e∈rs.flatten):plc rs e<rs.length:=by
 obtain⟨r,n,_⟩:=h.at l;exact(gSq.mp n).1
def Mp.row(h:Mp rs){k:Nat}{r:Ϝ}(hk:rs[k]?=some r):r.length<=1000:=by
 have:=bZ.length_le (aT (mGq hk));have:=h.hl;lia
inductive tZ (rs:Λ)(s:Nat):Nat->Prop
 |base:tZ rs s s
 |step {k:Nat}{r:Ϝ}{e:Int}:tZ rs s k->rs[k]?=some r->e∈r->tZ rs s (plc rs (-e))
theorem Fc pl:∀(r:Ϝ) (ks ws:Θ),∃a,r.foldl (DY pl) (ks,ws)=(ks++a,ws++a)/\(∀k∈a,∃e∈r,k=pl (-e))/\(∀e∈r,pl (-e)∈ks++a)/\(ks.Nodup->(ks++a).Nodup)
 | [],ks,ws=>⟨[],by simp,by simp,by simp,by simp⟩
 |e::r,ks,ws=>by
  rw[dh]
  by_cases h:pl (-e)∈ks
  .have n:DY pl (ks,ws) e=(ks,ws):=by unfold DY;rw[pO h]
   rw[n];obtain⟨a,s,t,u,z⟩:=Fc pl r ks ws;refine⟨a,s,λk hk=>?_,λx l=>?_,z⟩
   .obtain⟨x,l,q⟩:=t k hk;exact⟨x,mCo _ l,q⟩
   .rcases aa.mp l with rfl|l
    .exact mAq.mpr (.inl h)
    .exact u x l
  .have n:DY pl (ks,ws) e=(ks++[pl (-e)],ws++[pl (-e)]):=by unfold DY;rw[pK h]
   rw[n];obtain⟨a,s,t,u,z⟩:=Fc pl r (ks++[pl (-e)]) (ws++[pl (-e)]);refine⟨pl (-e)::a,by rw[s,ae,ae];rfl,λk hk=>?_,λx l=>?_,λhn=>?_⟩
   .rcases aa.mp hk with rfl|hk
    .exact⟨e,ah ..,rfl⟩
    .obtain⟨x,l,q⟩:=t k hk;exact⟨x,mCo _ l,q⟩
   .rcases aa.mp l with rfl|l
    .exact mAq.mpr (.inr (ah ..))
    .have:=u x l
     rwa [ae]at this
   .have:=z (by
     rw[nAq];exact⟨hn,by simp,λx l y B q=>h (by rw[mSq.mp B]at q;rw[←q];exact l)⟩)
    rwa [ae]at this
structure Inv (rs:Λ)(s:Nat)(ks ws:Θ):Prop where
 nd:ks.Nodup
 lt:∀k∈ks,k<rs.length
 st:s∈ks
 rc:∀k∈ks,tZ rs s k
 sub:∀w∈ws,w∈ks
 cl:∀k∈ks,k∉ws->∀r e,rs[k]?=some r->e∈r->plc rs (-e)∈ks
 few:2*(rs.length-ks.length)+ws.length<=2*rs.length+1
def Inv.go(t:Mp rs){r:Ϝ}(hi:Inv rs s ks (ws++[h]))(hr:rs[h]?=some r):∃a,r.foldl (DY (plc rs)) (ks,ws)=(ks++a,ws++a)/\Inv rs s (ks++a) (ws++a)/\2*(rs.length-(ks++a).length)+(ws++a).length<2*(rs.length-ks.length)+(ws++[h]).length:=by
 obtain⟨a,x,u,B,E⟩:=Fc (plc rs) r ks ws;have hh:=hi.sub h ⋯
 have nd:=E hi.nd;have lt:∀k∈ks++a,k<rs.length:=by
  intro k hk;rcases mAq.mp hk with q|q
  .exact hi.lt k q
  .obtain⟨e,n,rfl⟩:=u k q;exact t.lt (t.other hr n)
 have pl:=XG _ _ nd lt;have I:=hi.few;rw[lAq]at pl;have key:2*(rs.length-(ks++a).length)+(ws++a).length<2*(rs.length-ks.length)+(ws++[h]).length:=by
  rw[lAq,lAq,lAq,lSq];lia
 refine⟨a,x,⟨nd,lt,mAq.mpr (.inl hi.st),λk hk=>?_,λw hw=>?_,λk hk hw=>?_,?_⟩,key⟩
 .rcases mAq.mp hk with q|q
  .exact hi.rc k q
  .obtain⟨e,n,rfl⟩:=u k q;exact .step (hi.rc h hh) hr n
 .rcases mAq.mp hw with q|q
  .exact mAq.mpr (.inl (hi.sub w (mAq.mpr (.inl q))))
  .exact mAq.mpr (.inr q)
 .intro G e l n;have H:=(mAq.mp hk).resolve_right λq=>hw (mAq.mpr (.inr q))
  by_cases q:k=h
  .subst q;rw[hr]at l;cases l;exact B e n
  .exact mAq.mpr (.inl (hi.cl k H (λz=>by
    rcases mAq.mp z with z|z
    .exact hw (mAq.mpr (.inl z))
    .exact q (mSq.mp z)) G e l n))
 .rw[lAq,lAq]at key ⊢;lia
noncomputable def mu(N:Nat):AS->Nat
 | [_,_,_,some (.owd kv),some (.ow w),_,_,_]=>2*(N-kv.length)+w.length
 |_=>0
def Lc(n:Mp rs)(hs:s<rs.length):∃S',rH (tN (qe Ml (uR rE (oI (oH 4) oS)) (rC (.int 0)))) vL 100000 [some (.sh (dM rs)),i0 (s:Int),some (.owd (qv 0 rs)),some (.owd (kd [s])),some (.ow (wd [s])),none,none,none]=some (.nx S') /\
  ∃ks v5 v6 v7,S'=[some (.sh (dM rs)),i0 (s:Int),some (.owd (qv 0 rs)),some (.owd (kd ks)),some (.ow (wd [])),v5,v6,v7]/\Inv rs s ks []:=by
 have t:=n.hr;refine uK (c:=tN (qe Ml (uR rE (oI (oH 4) oS)) (rC (.int 0)))) (body:=vL) (λS=>∃ks l v5 v6 v7,S=[some (.sh (dM rs)),i0 (s:Int),some (.owd (qv 0 rs)),some (.owd (kd ks)),some (.ow (wd l)),v5,v6,v7]/\Inv rs s ks l) (mu rs.length) (λS'=>∃ks v5 v6 v7,S'=[some (.sh (dM rs)),i0 (s:Int),some (.owd (qv 0 rs)),some (.owd (kd ks)),some (.ow (wd [])),v5,v6,v7]/\Inv rs s ks []) ?_ 100000 _ ⟨[s],[s],none,none,none,rfl,?_⟩ ?_
 .rintro S ⟨ks,l,v5,v6,v7,rfl,hi⟩;rcases fE l with rfl|⟨l,h,rfl⟩
  .refine⟨false,_,?_,λq=>(nomatch q),λ_=>⟨ks,v5,v6,v7,rfl,hi⟩⟩
   simp_arith [wd]
   rfl
  .rw[fF]at hi ⊢;have u:h<rs.length:=hi.lt h (hi.sub h ⋯)
   have hr:rs[h]?=some rs[h]:=gEg u;obtain⟨a,I,x,z⟩:=hi.go n hr;have few:=hi.few;have P:=XG _ _ hi.nd hi.lt;have Q:=n.row hr;rw[lAq,lSq]at few;obtain⟨B,E,H⟩:=Pm (kvs:=qv 0 rs) (ks:=ks) (ws:=l) (r:=rs[h]) (pl:=plc rs) (v0:=some (.sh (dM rs))) (v1:=i0 (s:Int)) (v5:=i0 (h:Int)) (v6:=v6) (v7:=v7) (λe J=>n.kv (n.other hr J)) ∅ ∅
   rw[I]at H;have hw:wd (l++[h])=wd l++[.sh (.int (h:Int))]:=by simp[wd]
   have R:(wd l).length=l.length:=by simp[wd]
   have L:(0:Int)<((wd l++[AV.sh (.int (h:Int))]).length:Int):=by
    rw[lAq,lSq];lia
   have M:(wd l++[AV.sh (.int (h:Int))])[(wd l++[AV.sh (.int (h:Int))]).length-1]?=i0 (h:Int):=by
    rw[lAq,lSq,gYq ∅]
    simp
   have O:(wd l++[AV.sh (.int (h:Int))]).dropLast=wd l:=eQ;have G:atI (rs.map dI) (h:Int)=some (dI rs[h]):=uC (by rw[gMq,hr];rfl)
   refine⟨true,[some (.sh (dM rs)),i0 (s:Int),some (.owd (qv 0 rs)),some (.owd (kd ks)),some (.ow (wd l++[.sh (.int (h:Int))])),v5,v6,v7],?_,λ_=>⟨[some (.sh (dM rs)),i0 (s:Int),some (.owd (qv 0 rs)),some (.owd (kd (ks++a))),some (.ow (wd (l++a))),i0 (h:Int),B,E],?_,⟨_,_,_,_,_,rfl,x⟩,?_⟩,λq=>(nomatch q)⟩
   .simp_arith [hw,L]
   .simp_arith [vL,M,O,dM,G,H]
   .show 2*(rs.length-(kd (ks++a)).length)+(wd (l++a)).length<2*(rs.length-(kd ks).length)+(wd (l++[h])).length;unfold kd wd;rw[lMq,lMq,lMq,lMq];exact z
 .refine⟨by simp,?_,by simp,?_,λw h=>h,?_,?_⟩
  .intro k hk;rw[mSq.mp hk];exact hs
  .intro k hk;rw[mSq.mp hk];exact .base
  .intro k hk hn;exact absurd hk hn
  .simp only[lSq];lia
 .show 2*(rs.length-(kd [s]).length)+(wd [s]).length<100000;simp only[kd,wd,lMq,lSq];lia
def Lu(l:Mp rs)(hs:s<rs.length):∃ks,Inv rs s ks []/\yj [dM rs,.int (s:Int)]=some (aI (sk (ks.map λk:Nat=>(k:Int)))):=by
 obtain⟨B,e,ks,E,G,H,rfl,hi⟩:=Lc l hs;have hl:=l.hl;have n:=yN l.hn ∅
 have t:[((aN (s:Int)),D.bl true)]=kd [s]:=rfl;have u:[AV.sh (.int (s))]=wd [s]:=rfl;have x:Dn (kd ks)=some (ks.map λk:Nat=>(k:Int)):=GU (λk:Nat=>(k)) (λ_=>D.bl true) ks
 have z:(wd [s]).length<=qM:=by show 1<=16777216;decide
 refine⟨ks,hi,?_⟩
 simp_arith [yj,ET,n,t,u,e,x,z]
def VX(ks:Θ):∃ps:Θ,ps.Perm ks/\ps.Pairwise (·<=·)/\sk (ks.map λk:Nat=>(k:Int))=ps.map λk:Nat=>(k:Int):=by
 have l:=rJ (ks.map λk:Nat=>(k))
 have hs:=Dh (ks.map λk:Nat=>(k))
 have n:(sk (ks.map λk:Nat=>(k)))=((sk (ks.map λk:Nat=>(k))).map jj).map λk:Nat=>(k:Int):=by
  rw[mPq]
  conv=>lhs;rw[←fv (sk (ks.map λk:Nat=>(k)))]
  refine mCq λz s=>?_
  obtain⟨k,_,rfl⟩:=mMq.mp (l.mem_iff.mp s);rfl
 refine⟨(sk (ks.map λk:Nat=>(k))).map jj,?_,?_,n⟩
 .have:=l.map jj;rw[mPq]at this;have e:ks.map (jj∘λk:Nat=>(k))=ks:=by
   conv=>rhs;rw[←fv ks]
   refine mCq λk _=>?_
   exact bF k
  rwa [e]at this
 .rw[bx];refine bu.imp (λh=>?_) hs
  lia
structure Pc (rs:Λ)(s:Nat)(ps:Θ):Prop where
 nd:ps.Nodup
 so:ps.Pairwise (·<=·)
 lt:∀k∈ps,k<rs.length
 iff:∀k,k∈ps↔tZ rs s k
def Mn(n:Mp rs)(hs:s<rs.length):∃ps,Pc rs s ps/\yj [dM rs,.int (s:Int)]=some (aI (ps.map λk:Nat=>(k:Int))):=by
 obtain⟨ks,hi,e⟩:=Lu n hs;obtain⟨ps,l,t,u⟩:=VX ks;rw[u]at e;refine⟨ps,⟨l.symm.nodup hi.nd,t,λk hk=>hi.lt k (l.mem_iff.mp hk),λk=>⟨λhk=>hi.rc k (l.mem_iff.mp hk),λhk=>l.mem_iff.mpr ?_⟩⟩,e⟩
 induction hk with
 |base=>exact hi.st
 |step _ a b c=>exact hi.cl _ c (bL) _ _ a b
noncomputable def xR(kn:Θ)(t:Nat):Θ:=if t∈kn then kn else kn++[t]
def WA ks(t:Nat):xC (kd ks) (aN (t:Int)) (.bl true)=kd (xR ks t):=by
 unfold xR
 by_cases h:t∈ks
 .rw[pO h];unfold xC;rw[K4,d0 h];unfold kd;rw[mPq];refine mCq λk _=>?_
  show(if _ then _ else _)=_
  split <;> rfl
 .rw[pK h];exact Q3 h
def RK(kn)t:(xR kn t).length<=kn.length+1:=by
 unfold xR;split
 .lia
 .simp
theorem Jh:∀(ps kn:Θ),(ps.foldl xR kn).length<=kn.length+ps.length
 | [],kn=>af _
 |p::ps,kn=>by
  have l:=Jh ps (xR kn p);have n:=RK kn p;rw[dh,lCq];lia
def SE:k∈xR kn t↔k∈kn∨k=t:=by
 unfold xR;split
 .rename_i h;exact⟨.inl,λq=>q.elim id λq=>q ▸ h⟩
 .simp
theorem wx:∀{ps kn:Θ}{k},k∈ps.foldl xR kn↔k∈kn∨k∈ps
 | [],kn,k=>by simp
 |p::ps,kn,k=>by
  rw[dh,wx,SE,aa,or_assoc]
def Vj(h:kn.Nodup):(xR kn t).Nodup:=by
 unfold xR;split
 .exact h
 .rename_i q;rw[nAq];exact⟨h,by simp,λx l y n z=>q (by rw[mSq.mp n]at z;rw[←z];exact l)⟩
theorem NQ:∀{ps kn:Θ},kn.Nodup->(ps.foldl xR kn).Nodup
 | [],kn,h=>h
 |p::ps,kn,h=>by
  rw[dh];exact NQ (Vj h)
def P4{ps:Θ}(hk:kn.length+ps.length<500000):∃l,rZ 5 wY ((ps.map λk:Nat=>(k:Int)).map D.int) [v0,some (.owd (kd kn)),v2,v3,v4,v5]=some (.nx [v0,some (.owd (kd (ps.foldl xR kn))),v2,v3,v4,l]):=by
 have key:=tO (x:=5) (body:=wY) (λi S=>∃l,S=[v0,some (.owd (kd ((ps.take i).foldl xR kn))),v2,v3,v4,l]) (ds:=(ps.map λk:Nat=>(k:Int)).map D.int) (S:=[v0,some (.owd (kd kn)),v2,v3,v4,v5]) ⟨v5,rfl⟩ (by
  rintro i d S hd ⟨l,rfl⟩;rw[gMq,gMq]at hd;obtain⟨z,t,rfl⟩:=oMq.mp hd;obtain⟨k,n,rfl⟩:=oMq.mp t;have hi:i<ps.length:=(gSq.mp n).1;have u:=Jh (ps.take i) kn;rw[lTq]at u;have B:(kd ((ps.take i).foldl xR kn)).length<qM:=by unfold kd;rw[lMq];show _<16777216;lia
  have E:(ps.take (i+1)).foldl xR kn=xR ((ps.take i).foldl xR kn) k:=by
   have:ps[i]'hi=k:=by rw[gEg hi]at n;exact aA.inj n
   rw[gA hi,ij,this];rfl
  have s:=WA ((ps.take i).foldl xR kn) k;rw[←E]at s;refine⟨_,?_,i0 (k:Int),rfl⟩
  simp_arith [wY,B,s])
 obtain⟨G,e,l,rfl⟩:=key;rw[lMq,lMq,aK]at e;exact⟨l,e⟩
def L8{ps:Θ}(h:∀k∈ps,k<rs.length):rS uz (Et (lOf (kIx (va 1) (oH 0)))) [some (.sh (dM rs))] ((ps.map λk:Nat=>(k:Int)).map D.int)=some (ps.map λk=>aI (rs.getD k [])):=by
 have key:=uj (te:=Et (lOf (kIx (va 1) (oH 0)))) (cap:=[some (.sh (dM rs))]) (λd=>match d with|.int k=>aI (rs.getD k.toNat [])|_=>.sh .non) (ds:=(ps.map λk:Nat=>(k:Int)).map D.int) (by
  intro d hd;rw[mPq]at hd;obtain⟨k,hk,rfl⟩:=mMq.mp hd;have l:=abz (h k hk);refine⟨[i0 (k),some (.sh (dM rs))],?_⟩
  simp_arith [dM,l,Function.comp,bF,dI,aI,mPq]
  rfl)
 rw[key,mPq,mPq];rfl
def pA(rs:Λ)(ps:Θ):AV:=.ow (ps.map λk=>aI (rs.getD k []))
def tZ.trans(h:tZ rs a b)(l:tZ rs b c):tZ rs a c:=by
 induction l with
 |base=>exact h
 |step _ p q r=>exact .step r p q
def tZ.symm(l:Mp rs)(h:tZ rs a b):tZ rs b a:=by
 induction h with
 |base=>exact .base
 | @step k r e _ p q n=>
  obtain⟨u,s,t⟩:=l.at (l.other p q);have:=tZ.step .base s t;rw[bw,plc_eq l.hn p q]at this;exact this.trans n
structure Ps (rs:Λ)(i:Nat)(kn:Θ)(PS:List Θ):Prop where
 sub:∀ps∈PS,∀k∈ps,k∈kn
 dj:PS.Pairwise λa b=>∀k∈a,k∉b
 pc:∀ps∈PS,∃s,s<rs.length/\Pc rs s ps
 all:∀k,k<i->k∈kn
 mem:∀k,k∈kn->∃ps∈PS,k∈ps
 nd:kn.Nodup
 lt:∀k∈kn,k<rs.length
 len:PS.length<=i
def pieces_ok(J:Mp rs):∃kn PS,Ps rs rs.length kn PS/\wB [dM rs]=some (.ow (PS.map (pA rs))):=by
 have L:=J.hr;have key:=tO (x:=3) (body:=xo) (λi S=>∃kn PS M H E,S=[some (.sh (dM rs)),some (.owd (kd kn)),some (.ow (PS.map (pA rs))),M,H,E]/\Ps rs i kn PS) (ds:=qr 0 rs.length) (S:=[some (.sh (dM rs)),some (.owd []),some (.ow []),none,none,none])
  ⟨[],[],none,none,none,rfl,⟨by simp,by simp,by simp,by simp,by simp,by simp,by simp,by simp⟩⟩ (by
  rintro i d S hd ⟨kn,PS,M,H,E,rfl,l⟩;have hi:i<rs.length:=by
   have:=(gSq.mp hd).1
   rwa [qh]at this
  rw[wI hi,gR]at hd;cases hd;have I:=Rc kn i
  by_cases c:i∈kn
  .rw[d0 c]at I;refine⟨[some (.sh (dM rs)),some (.owd (kd kn)),some (.ow (PS.map (pA rs))),i0 (i:Int),H,E],?_,kn,PS,_,_,_,rfl,l.sub,l.dj,l.pc,?_,l.mem,l.nd,l.lt,?_⟩
   .simp_arith [xo,I]
   .intro k hk;rcases bT.mp hk with q|rfl
    .exact l.all k q
    .exact c
   .have:=l.len;lia
  .rw[d4 c]at I;obtain⟨t,z,Q⟩:=Mn J hi;have p1:=XG _ _ l.nd l.lt;have p2:=XG _ _ z.nd z.lt;have p3:=l.len;have R:t.length<=qM:=by show _<=16777216;lia
   have U:PS.length<qM:=by show _<16777216;lia
   obtain⟨O,X⟩:=P4 (ps:=t) (kn:=kn) (v0:=some (.sh (dM rs))) (v2:=some (.ow (PS.map (pA rs)))) (v3:=i0 (i:Int)) (v4:=some (.sh (dI (t.map λk:Nat=>(k:Int))))) (v5:=E) ∅
   have Y:=L8 z.lt;refine⟨[some (.sh (dM rs)),some (.owd (kd (t.foldl xR kn))),some (.ow ((PS++[t]).map (pA rs))),i0 (i:Int),some (.sh (dI (t.map λk:Nat=>(k:Int)))),O],?_,t.foldl xR kn,PS++[t],_,_,_,rfl,?_,?_,?_,?_,?_,NQ l.nd,?_,?_⟩
   .simp_arith [xo,I,Q,X,Y,R,U,mBq,pA]
   .intro u B k hk;rcases mAq.mp B with q|q
    .exact wx.mpr (.inl (l.sub u q k hk))
    .rw[mSq.mp q]at hk;exact wx.mpr (.inr hk)
   .rw[aU];refine⟨l.dj,List.pairwise_singleton ..,λu B b hb k hk G=>c ?_⟩
    rw[mSq.mp hb]at G;obtain⟨s,hs,P⟩:=l.pc u B;exact l.sub u B i ((P.iff i).mpr (((P.iff k).mp hk).trans (((z.iff k).mp G).symm J)))
   .intro u B;rcases mAq.mp B with q|q
    .exact l.pc u q
    .rw[mSq.mp q];exact⟨i,hi,z⟩
   .intro k hk;rcases bT.mp hk with q|rfl
    .exact wx.mpr (.inl (l.all k q))
    .exact wx.mpr (.inr ((z.iff k).mpr .base))
   .intro k hk;rcases wx.mp hk with q|q
    .obtain⟨u,a,b⟩:=l.mem k q;exact⟨u,mAq.mpr (.inl a),b⟩
    .exact⟨t,mAq.mpr (.inr (mSq.mpr rfl)),q⟩
   .intro k hk;rcases wx.mp hk with q|q
    .exact l.lt k q
    .exact z.lt k q
   .rw[lAq,lSq];lia)
 obtain⟨S',e,kn,PS,M,H,E,rfl,l⟩:=key;rw[qh]at l;have r1:=yD (n:=rs.length) ∅
 refine⟨kn,PS,l,?_⟩
 simp_arith [wB,G8,dM,r1,e]
noncomputable def rot(r:Ϝ):Ϝ:=r.drop 1++r.take 1
def rD(r:Ϝ):List (pQ×Int):=(r.zip (rot r)).map λp=>(.inl p.1,p.2)
def pE(rs:Λ):List (pQ×Int):=(rs.map rD).flatten
noncomputable def ud(ps:List (pQ×Int)):List (pQ×D):=ps.map λp=>(p.1,D.int p.2)
def Ck r:(rot r).length=r.length:=by
 unfold rot;rw[lAq,aJ,lTq];lia
def rot_perm r:(rot r).Perm r:=by
 refine aG.trans ?_;rw[aZ]
def vo r:(rD r).length=r.length:=by
 unfold rD;rw[lMq,jq,Ck,jH]
def Cv r:(rD r).map (·.1)=r.map aN:=by
 unfold rD;rw[mPq];have:r.map aN=((r.zip (rot r)).map jJ).map (aN:Int->pQ):=by rw[List.map_fst_zip (by rw[Ck];exact af _)]
 rw[this,mPq];rfl
def HR r:(rD r).map (·.2)=rot r:=by
 unfold rD;rw[mPq];have:rot r=(r.zip (rot r)).map Prod.snd:=by rw[List.map_snd_zip (by rw[Ck];exact af _)]
 exact this.symm
theorem uW:∀rs,(pE rs).map (·.1)=rs.flatten.map aN
 | []=>rfl
 |r::rs=>by
  show(rD r++pE rs).map (·.1)=_;rw[mBq,Cv,uW rs,fCq,mBq]
theorem Bf:∀rs,((pE rs).map (·.2)).Perm rs.flatten
 | []=>.nil
 |r::rs=>by
  show((rD r++pE rs).map (·.2)).Perm _;rw[mBq,HR];exact(rot_perm r).append (Bf rs)
def G0 rs:(pE rs).length=rs.flatten.length:=by
 have:=congrArg bJ (uW rs)
 rwa [lMq,lMq]at this
def A0(rs)r:pE (rs++[r])=pE rs++rD r:=by
 unfold pE;simp
def NL ps:(ud ps).length=ps.length:=lMq _
def Wr a b:ud (a++b)=ud a++ud b:=mBq
def QG ps:(ud ps).map (·.1)=ps.map (·.1):=by
 unfold ud;rw[mPq];rfl
def Fw{j:Nat}(h:r[j]?=some z)(l:(rot r)[j]?=some y):(rD r)[j]?=some (.inl z,y):=by
 unfold rD;rw[gMq,eO (z:=(z,y)).mpr ⟨h,l⟩];rfl
def Ej{rs:Λ}{r:Ϝ}(hn:rs.flatten.Nodup)(hr:rs[i]?=some r)(hz:r[j]?=some z)(u:(rot r)[j]?=some y) :
  xC (ud (pE (rs.take i)++(rD r).take j)) (.inl z) (.int y)=ud (pE (rs.take i)++(rD r).take (j+1)):=by
 have n:=rL hr;have l:((rs.take i).flatten++r).Nodup:=by
  rw[←n];have B:rs.flatten=(rs.take (i+1)).flatten++(rs.drop (i+1)).flatten:=by rw[←fAq,aZ]
  rw[B]at hn;exact(nAq.mp hn).1
 rw[Er]
 .rw[qt (Fw hz u),←ae,Wr (_++_) [_]];rfl
 .rw[QG,mBq,uW,ie,Cv,←ie];intro m;rcases mAq.mp m with m|m
  .obtain⟨x,s,t⟩:=mMq.mp m;cases t;exact(nAq.mp l).2.2 _ s _ (mGq hz) rfl
  .obtain⟨x,s,t⟩:=mMq.mp m;cases t;have:=bu.sublist (bB (j+1) r) (nAq.mp l).2.1;rw[qt hz]at this;exact(nAq.mp this).2.2 _ s _ ⋯ rfl
def CC{rs:Λ}{r:Ϝ}(hl:rs.flatten.length<=1000)(hr:rs[i]?=some r):(ud (pE (rs.take i)++(rD r).take j)).length<qM:=by
 have l:=uo rs (i+1);rw[rL hr,lAq]at l;rw[NL,lAq,G0,lTq,vo];lia
def ac0(r:Ϝ):zf (r.map D.int) (some 1) none=(r.drop 1).map D.int:=by
 rw[tE];cases r with
 |nil=>rfl
 |cons x r=>rw[show(some 1)=some ((1:Nat):Int)from rfl,ye _ _ ⋯]
def adp(r:Ϝ):zf (r.map D.int) none (some 1)=(r.take 1).map D.int:=by
 rw[tE];cases r with
 |nil=>rfl
 |cons x r=>rw[show(some 1)=some ((1:Nat):Int)from rfl,Am _ _ ⋯]
def Km(hn:rs.flatten.Nodup)(hl:rs.flatten.length<=1000):Cs [dM rs]=some (.owd (ud (pE rs))):=by
 have key:=tO (x:=2) (body:=AW) (λi S=>∃E l n,S=[some (.sh (dM rs)),some (.owd (ud (pE (rs.take i)))),E,l,n]) (ds:=rs.map dI) (S:=[some (.sh (dM rs)),some (.owd []),none,none,none]) ⟨none,none,none,rfl⟩ (by
  rintro i d S hd ⟨E,l,n,rfl⟩;obtain⟨r,hr,rfl⟩:=BU hd;have I:r.length<=1000:=by
   have J:=uo rs (i+1);rw[rL hr,lAq]at J;lia
  have t:(r.map D.int).length=((rot r).map D.int).length:=by rw[lMq,lMq,Ck]
  have L:=Xz (x:=3) (y:=4) (k:=0) (body:=Bj) (λj S=>∃l n,S=[some (.sh (dM rs)),some (.owd (ud (pE (rs.take i)++(rD r).take j))),some (.sh (dI r)),l,n]) (S:=[some (.sh (dM rs)),some (.owd (ud (pE (rs.take i)))),some (.sh (dI r)),l,n]) t ⟨l,n,by simp⟩ (by
   rintro j d e S hd M ⟨l,n,rfl⟩;obtain⟨z,O,rfl⟩:=HB hd;obtain⟨y,P,rfl⟩:=HB M;have Q:=CC (j:=j) hl hr;have u:=Ej hn hr O P;refine⟨_,?_,i0 z,i0 y,rfl⟩
   simp_arith [Bj,Q,u])
  obtain⟨X,H,R,U,rfl⟩:=L;rw[cH,lMq,←vo,aK]at H;refine⟨_,?_,some (.sh (dI r)),R,U,rfl⟩;rw[qt hr,A0];have G:(r.drop 1).length+(r.take 1).length<=qM:=uS (by rw[aJ,lTq];lia)
  have B:(r.drop 1).map D.int++(r.take 1).map D.int=(rot r).map D.int:=by unfold rot;rw[mBq]
  have s:=(Ck r).symm
  simp_arith [AW,ac0,adp,G,B,s,H])
 obtain⟨Y,e,E,l,n,rfl⟩:=key;rw[lMq,aK]at e
 simp_arith [Cs,IR,e]
def G3{PS}(l:Ps rs rs.length kn PS)(n:0<rs.length)(u:∀s k,s<rs.length->k<rs.length->tZ rs s k):PS.length=1:=by
 obtain⟨a,ha,_⟩:=l.mem 0 (l.all 0 n);cases PS with
 |nil=>cases ha
 |cons x PS=>
  cases PS with
  |nil=>rfl
  |cons y PS=>
   exfalso;obtain⟨s,hs,z⟩:=l.pc x ⋯
   obtain⟨t,ht,B⟩:=l.pc y ⋯
   have E:=(fh.mp l.dj).1 y ⋯ s ((z.iff s).mpr .base)
   exact E ((B.iff s).mpr (u t s ht hs))
end K51
namespace K15
open PySem L2 Mr Z Xe Zl
def BB(hn:(ps.map (·.1)).Nodup)(h:(k,n)∈ps):Z.getD (K51.ud ps) k=some (.int n):=by
 induction ps with
 |nil=>cases h
 |cons p ps l=>
  rw[aw,aq]at hn;show(((p.1,D.int p.2)::K51.ud ps).find? _).map _=_;rcases aa.mp h with e|e
  .rw[←e,fo ⋯]
   rfl
  .rw[dZ (by
    intro z;have s:=by simpa using z
    exact hn.1 (by rw[s];exact mMq.mpr ⟨_,e,rfl⟩))]
   exact l hn.2 e
def RF{ps:List (pQ×Int)}(hn:(ps.map (·.2)).Nodup)(h:(k,n)∈ps)(h':(s,n)∈ps):k=s:=by
 induction ps with
 |nil=>cases h
 |cons p ps t=>
  rw[aw,aq]at hn;rcases aa.mp h with e|e
  .rcases aa.mp h' with l|l
   .rw[←e]at l;exact(congrArg jJ l).symm
   .exact absurd (mMq.mpr ⟨_,l,by rw[←e]⟩) hn.1
  .rcases aa.mp h' with l|l
   .exact absurd (mMq.mpr ⟨_,e,by rw[←l]⟩) hn.1
   .exact t hn.2 e l
def nx(rs:Λ)(e:Int):Int:=match Z.getD (K51.ud (K51.pE rs)) (.inl e)with
 |some (.int n)=>n
 |_=>0
def fw(rs:Λ)(e:Int):Int:=nx rs (-e)
def HM(hn:rs.flatten.Nodup):((K51.pE rs).map (·.1)).Nodup:=by
 rw[K51.uW,bp,bx];exact bu.imp (λh e=>h (aN.inj e)) (bp.mp hn)
def D5(hn:rs.flatten.Nodup)(s:e∈rs.flatten):(aN e,nx rs e)∈K51.pE rs:=by
 have hk:(aN e)∈(K51.pE rs).map (·.1):=by rw[K51.uW];exact mMq.mpr ⟨e,s,rfl⟩
 obtain⟨⟨k,n⟩,l,rfl⟩:=mMq.mp hk;have:=BB (HM hn) l;unfold nx;rw[this];exact l
def xQ(hn:rs.flatten.Nodup)(l:e∈rs.flatten):Z.getD (K51.ud (K51.pE rs)) (.inl e)=some (.int (nx rs e)):=BB (HM hn) (D5 hn l)
def ED(hn:rs.flatten.Nodup)(l:e∈rs.flatten):nx rs e∈rs.flatten:=(K51.Bf rs).mem_iff.mp (mMq.mpr ⟨_,D5 hn l,rfl⟩)
def QN(hn:rs.flatten.Nodup)(ha:a∈rs.flatten)(hb:b∈rs.flatten)(h:nx rs a=nx rs b):a=b:=by
 have l:=D5 hn ha;have n:=D5 hn hb;rw[h]at l;exact aN.inj (RF ((K51.Bf rs).symm.nodup hn) l n)
def tI(l:Mp rs):JZ (fw rs) rs.flatten:=⟨l.hn,λe n=>ED l.hn (l.hneg e n),λa ha b hb h=>by
 have:=QN l.hn (l.hneg a ha) (l.hneg b hb) h;lia⟩
def stp(rs:Λ)(E:Ϝ):List (pQ×D):=E.map λe=>(aN e,.int (fw rs e))
def WI(hn:rs.flatten.Nodup)(l:e∈rs.flatten):Z.getD (stp rs rs.flatten) (.inl e)=some (.int (fw rs e)):=by
 have h:=BB (ps:=rs.flatten.map λe=>(aN e,fw rs e)) (by
  rw[mPq,bp,bx];exact bu.imp (λh e=>h (aN.inj e)) (bp.mp hn)) (mMq.mpr ⟨e,l,rfl⟩)
 unfold K51.ud at h;rw[mPq]at h;exact h
def Jw rs:(K51.ud (K51.pE rs)).map (λp=>kD p.1)=rs.flatten.map D.int:=by
 have:(K51.ud (K51.pE rs)).map (λp=>kD p.1)=((K51.pE rs).map (·.1)).map kD:=by
  unfold K51.ud;rw[mPq,mPq];rfl
 rw[this,K51.uW,mPq];rfl
def MC(l:Mp rs):Aq [dM rs]=some (.owd (stp rs rs.flatten)):=by
 have B:=K51.Km l.hn l.hl;have hl:=l.hl;have key:=tO (x:=3) (body:=zr) (λi S=>∃n,S=[some (.sh (dM rs)),some (.sh (.fd (K51.ud (K51.pE rs)))),some (.owd (stp rs (rs.flatten.take i))),n]) (ds:=rs.flatten.map D.int) (S:=[some (.sh (dM rs)),some (.sh (.fd (K51.ud (K51.pE rs)))),some (.owd []),none]) ⟨none,rfl⟩ (by
  rintro i d S hd ⟨n,rfl⟩;rw[gMq]at hd;obtain⟨e,s,rfl⟩:=oMq.mp hd;have t:=mGq s;have E:=xQ l.hn (l.hneg e t);have G:(stp rs (rs.flatten.take i)).length<qM:=by unfold stp;rw[lMq,lTq];show _<16777216;lia
  have u:xC (stp rs (rs.flatten.take i)) (.inl e) (.int (nx rs (-e)))=stp rs (rs.flatten.take (i+1)):=by
   rw[Er]
   .unfold stp;rw[qt s,mBq];rfl
   .intro m;obtain⟨p,u,H⟩:=mMq.mp m;obtain⟨x,I,rfl⟩:=mMq.mp u;have J:=aN.inj H;subst J;have:=bu.sublist (bB (i+1) rs.flatten) l.hn;rw[qt s]at this;exact(nAq.mp this).2.2 x I x ⋯ rfl
  refine⟨_,?_,i0 e,rfl⟩
  simp_arith [zr,E,G,u])
 obtain⟨M,e,n,rfl⟩:=key;rw[lMq,aK]at e;have L:=Jw rs;have z:((3)≠1)=True:=by simp
 simp_arith [Aq,EE,B,z,L,e]
noncomputable def mu(N:Nat):AS->Nat
 | [_,_,some (.ow l),_]=>N+1-l.length
 |_=>0
def VA(f)e n:((aF n).map λk=>itr f k e)++[itr f n e]=(aF (n+1)).map λk=>itr f k e:=by rw[List.range_succ,mBq];rfl
def Vc(u:Mp rs)(E:e∈rs.flatten):∃l,Cy (fw rs) e l/\l.length<=rs.flatten.length/\wa [.dict (stp rs rs.flatten),.int e]=some (aI l):=by
 have one:=tI u;obtain⟨l,cy,x,s⟩:=one.cy E;have hl:=u.hl;refine⟨l,cy,x,?_⟩;have t:∀n,Z.getD (stp rs rs.flatten) (.inl (itr (fw rs) n e))=some (.int (itr (fw rs) (n+1) e)):=λn=>WI u.hn (one.itr_mem E n)
 have key:=uK (c:=tN (qe KC (oH 3) (oH 1))) (body:=vF) (λS=>∃n,1<=n/\n<=l.length/\S=[some (.sh (.dict (stp rs rs.flatten))),i0 e,some (aI ((aF n).map λk=>itr (fw rs) k e)),i0 (itr (fw rs) n e)]) (mu l.length) (λS=>∃G,S=[some (.sh (.dict (stp rs rs.flatten))),i0 e,some (aI l),G]) (by
  rintro S ⟨n,P,Q,rfl⟩
  by_cases hn:n<l.length
  .have z:¬ itr (fw rs) n e=e:=s n ∅ hn
   have hs:=t n;have H:n<qM:=by show _<16777216;lia
   have I:((aF n).map λk=>itr (fw rs) k e).map (λn=>AV.sh (.int n))++[.sh (.int (itr (fw rs) n e))]=((aF (n+1)).map λk=>itr (fw rs) k e).map λn=>.sh (.int n):=by rw[←VA,mBq];rfl
   refine⟨true,[some (.sh (.dict (stp rs rs.flatten))),i0 e,some (aI ((aF n).map λk=>itr (fw rs) k e)),i0 (itr (fw rs) n e)],?_,λ_=>⟨[some (.sh (.dict (stp rs rs.flatten))),i0 e,some (aI ((aF (n+1)).map λk=>itr (fw rs) k e)),i0 (itr (fw rs) (n+1) e)],?_,⟨n+1,by lia,by lia,rfl⟩,?_⟩,λq=>(nomatch q)⟩
   .simp_arith [z]
   .simp_arith [vF,aB,H,I,hs]
   .show l.length+1-_<l.length+1-_;simp only[lMq,aB];lia
  .have J:n=l.length:=by lia
   subst J;have hb:=cy.back;have L:=cy.get;refine⟨false,[some (.sh (.dict (stp rs rs.flatten))),i0 e,some (aI ((aF l.length).map λk=>itr (fw rs) k e)),i0 (itr (fw rs) l.length e)],?_,λq=>(nomatch q),λ_=>⟨i0 (itr (fw rs) l.length e),by rw[←L]⟩⟩
   simp_arith [hb])
 have M:=t 0;obtain⟨R,O,G,rfl⟩:=key 100000 [some (.sh (.dict (stp rs rs.flatten))),i0 e,some (.ow [.sh (.int e)]),i0 (itr (fw rs) (0+1) e)] ⟨1,af _,cy.len,rfl⟩ (by
  show l.length+1-1<100000;lia)
 have B:Z.getD (stp rs rs.flatten) (.inl e)=some (.int (itr (fw rs) (0+1) e)):=M
 simp_arith [wa,AL,B,O]
noncomputable def kI(ks:Ϝ):List (pQ×D):=ks.map λk=>((aN k:pQ),D.bl true)
def kI_any(ks)t:(kI ks).any (λkv=>decide (kv.1=(aN t:pQ)))=decide (t∈ks):=by
 induction ks with
 |nil=>simp[kI]
 |cons k ks l=>
  unfold kI at l ⊢;rw[aw,dW,l]
  by_cases h:t=k
  .subst h;simp
  .have n:¬ (aN k:pQ)=aN t:=λq=>h (aN.inj q).symm
   simp[n,h]
def kI_get(ks)t:(Z.getD (kI ks) (aN t)).isSome=decide (t∈ks):=by
 unfold Z.getD;rw[dQ,←kI_any,cE,fD,fN]
def kI_new(h:t∉ks):xC (kI ks) (aN t) (.bl true)=kI (ks++[t]):=by
 unfold xC;rw[kI_any,d4 h];simp[kI]
def kI_len ks:(kI ks).length=ks.length:=by unfold kI;rw[lMq]
structure Rd (f:Int->Int)(E:Ϝ)(kn:Ϝ)(L:Λ):Prop where
 cy:∀l∈L,∃e,Cy f e l
 fl:L.flatten=kn
 nd:kn.Nodup
 sub:∀x∈kn,x∈E
 cl:∀x∈kn,f x∈kn
theorem Rd.itr(h:Rd f E kn L)(l:x∈kn):∀n,itr f n x∈kn
 |0=>l
 |n+1=>h.cl _ (h.itr l n)
def Rd.out(h:Rd f E kn L)(c:Cy f e l)(t:e∉kn):∀x∈l,x∉kn:=by
 intro x u hk;obtain⟨j,n⟩:=ay.mp u;have s:=(gSq.mp n).1;rw[c.at s]at n;have z:=aA.inj n;subst z;have:=h.itr hk (l.length-j);rw[←yy,show l.length-j+j=l.length by lia,c.back]at this
 exact t this
def Rd.add(G:JZ f E)(h:Rd f E kn L)(c:Cy f e l)(s:e∈E)(H:e∉kn):Rd f E (kn++l) (L++[l]):=by
 have I:=h.out c H;refine⟨λm J=>?_,by rw[fAq,h.fl,aQ],?_,λx t=>?_,λx t=>?_⟩
 .rcases mAq.mp J with q|q
  .exact h.cy m q
  .rw[mSq.mp q];exact⟨e,c⟩
 .rw[nAq];exact⟨h.nd,c.nd,λa ha b hb q=>I b hb (q ▸ ha)⟩
 .rcases mAq.mp t with q|q
  .exact h.sub x q
  .rw[c.get]at q;obtain⟨n,_,rfl⟩:=mMq.mp q;exact G.itr_mem s n
 .rcases mAq.mp t with q|q
  .exact mAq.mpr (.inl (h.cl x q))
  .refine mAq.mpr (.inr ?_);obtain⟨j,u⟩:=ay.mp q;have z:=(gSq.mp u).1;rw[c.at z]at u;rw[←aA.inj u];show Zl.itr f (j+1) e∈l
   by_cases B:j+1<l.length
   .exact mGq (c.at B)
   .rw[show j+1=l.length by lia,c.back]
    exact c.self
def Rd.orb(h:Rd f E kn L)(l:∀x∈E,x∈kn):CK f E L:=⟨h.cy,by rw[h.fl];exact h.nd,λx=>by rw[h.fl];exact⟨h.sub x,l x⟩⟩
noncomputable def tu(rs:Λ):Λ:=(rs.filter λr=>decide (r=[])).map λ_=>[]
def Td rs:rS (tN (qe FP (uR rE (oI (oH 0) oS)) (rC (.int 0)))) (sm pH) [] (rs.map dI)=some ((tu rs).map aI):=by
 rw[Z.vk (λd=>decide (yt d=[])) (λ_=>.ow [])]
 .unfold tu;rw[fR,mPq,mPq];have:(λd=>decide (yt d=[]))∘dI=λr=>decide (r=[]):=by funext r;show decide (yt (dI r)=[])=_;rw[tW]
  rw[this];rfl
 .intro d hd;obtain⟨r,hr,rfl⟩:=Bh hd;rw[tW];refine⟨[some (.sh (dI r))],?_,λ_=>⟨[some (.sh (dI r))],?_⟩⟩
  .by_cases h:r=[]
   .subst h;have z:((0:Nat):Int)=0:=rfl
    simp_arith [dI,z]
   .have l:¬ ((r.length):Int)=0:=λq=>h (bV.mp ∅)
    simp_arith [dI,l,h]
  .simp_arith []
def Og(hn:(kn++l).Nodup)(hl:kn.length+l.length<500000):∃n,rZ 6 zp (l.map D.int) [v0,v1,some (.owd (kI kn)),v3,v4,v5,v6]=some (.nx [v0,v1,some (.owd (kI (kn++l))),v3,v4,v5,n]):=by
 have key:=tO (x:=6) (body:=zp) (λi S=>∃n,S=[v0,v1,some (.owd (kI (kn++l.take i))),v3,v4,v5,n]) (ds:=l.map D.int) (S:=[v0,v1,some (.owd (kI kn)),v3,v4,v5,v6]) ⟨v6,by simp⟩ (by
  rintro i d S hd ⟨n,rfl⟩;rw[gMq]at hd;obtain⟨e,t,rfl⟩:=oMq.mp hd;have s:=λm=>by
   have u:=bu.sublist (bZ.append (bZ.refl kn) (bB (i+1) l)) hn;rw[qt t,←ae]at u;exact(nAq.mp u).2.2 e m e ⋯ rfl
  have z:=kI_new s;rw[ae,←qt t]at z;have B:(kI (kn++l.take i)).length<qM:=by rw[kI_len,lAq,lTq];show _<16777216;lia
  refine⟨_,?_,i0 e,rfl⟩
  simp_arith [zp,B,z])
 obtain⟨E,e,n,rfl⟩:=key;rw[lMq,aK]at e;exact⟨n,e⟩
def FH(B L:Λ):AV:=.ow (B.map aI++L.map λl=>.sh (dI l))
def lands_loop(G:Mp rs):∃v1 v2 v4 v5 v6 L,rZ 4 wH ((sk rs.flatten).map D.int) [some (.sh (dM rs)),some (.owd (stp rs rs.flatten)),some (.owd []),some (FH (tu rs) []),none,none,none]=some (.nx [some (.sh (dM rs)),v1,v2,some (FH (tu rs) L),v4,v5,v6])/\CK (fw rs) rs.flatten L:=by
 have one:=tI G;have hl:=G.hl;have J:=G.hr;have M:=rJ rs.flatten;have key:=tO (x:=4) (body:=wH) (λi S=>∃kn L v1 v4 v5 v6,S=[some (.sh (dM rs)),some v1,some (.owd (kI kn)),some (FH (tu rs) L),v4,v5,v6]/\oN v1 = .dict (stp rs rs.flatten)/\(∀x,v1=x->(x = .owd (stp rs rs.flatten)∨x = .sh (.dict (stp rs rs.flatten))))/\Rd (fw rs) rs.flatten kn L/\L.length<=i/\∀j x,j<i->(sk rs.flatten)[j]?=some x->x∈kn) (ds:=(sk rs.flatten).map D.int) (S:=[some (.sh (dM rs)),some (.owd (stp rs rs.flatten)),some (.owd []),some (FH (tu rs) []),none,none,none]) ⟨[],[],.owd (stp rs rs.flatten),none,none,none,rfl,rfl,λx h=>.inl h.symm,⟨by simp,rfl,bb,by simp,by simp⟩,af _,λj x h=>absurd h (cG _)⟩ (by
  rintro i d S hd ⟨kn,L,v1,v4,v5,v6,rfl,u,z,hr,R,n⟩;rw[gMq]at hd;obtain⟨e,H,rfl⟩:=oMq.mp hd;have O:=(gSq.mp H).1;rw[M.length_eq]at O;have B:e∈rs.flatten:=M.mem_iff.mp (mGq H);have I:=kI_get kn e
  by_cases c:e∈kn
  .rw[d0 c]at I;refine⟨[some (.sh (dM rs)),some v1,some (.owd (kI kn)),some (FH (tu rs) L),i0 e,v5,v6],?_,kn,L,v1,_,_,_,rfl,u,z,hr,by lia,λj x t s=>?_⟩
   .simp_arith [wH,I]
   .rcases bT.mp t with q|rfl
    .exact n j x q s
    .rw[H]at s;cases s;exact c
  .rw[d4 c]at I;obtain⟨l,cy,U,X⟩:=Vc G B;have E:=hr.add one cy B c;have Y:=Mb _ _ hr.nd hr.sub;obtain⟨P,Q⟩:=Og (kn:=kn) (l:=l) (v0:=some (.sh (dM rs))) (v1:=some (.sh (.dict (stp rs rs.flatten)))) (v3:=some (FH (tu rs) L)) (v4:=i0 e) (v5:=some (.sh (dI l))) (v6:=v6) E.nd ∅
   have sl:=pd l;have lb:(tu rs).length<=rs.length:=by unfold tu;rw[lMq];exact gG _ _
   have l1:((tu rs).map aI++L.map λl=>AV.sh (dI l)).length<qM:=by rw[lAq,lMq,lMq];show _<16777216;lia
   have ea:((tu rs).map aI++L.map λl=>AV.sh (dI l))++[.sh (dI l)]=(tu rs).map aI++(L++[l]).map λl=>.sh (dI l):=by rw[ae,mBq];rfl
   refine⟨[some (.sh (dM rs)),some (.sh (.dict (stp rs rs.flatten))),some (.owd (kI (kn++l))),some (FH (tu rs) (L++[l])),i0 e,some (.sh (dI l)),P],?_,kn++l,L++[l],.sh (.dict (stp rs rs.flatten)),_,_,_,rfl,rfl,λx h=>.inr h.symm,E,by rw[lAq,lSq];lia,λj x t s=>?_⟩
   .unfold FH at Q ⊢
    simp_arith [wH,I,u,X,sl,Q,l1,ea]
   .rcases bT.mp t with q|rfl
    .exact mAq.mpr (.inl (n j x q s))
    .rw[H]at s;cases s;exact mAq.mpr (.inr cy.self))
 obtain⟨S',e,kn,L,v1,v4,v5,v6,rfl,_,_,hr,_,n⟩:=key;refine⟨_,_,_,_,_,L,e,hr.orb λx s=>?_⟩
 obtain⟨j,t⟩:=ay.mp (M.mem_iff.mpr s);exact n j x (by rw[lMq];exact(gSq.mp t).1) t
def Br rs:(tu rs).length<=rs.length:=by unfold tu;rw[lMq];exact gG _ _
def G7 B L:oN (FH B L)=dM (B++L):=by
 unfold FH;rw[rM,mBq,mPq,mPq];show D.list _=D.list ((B++L).map dI);rw[mBq];congr 2
 .exact mCq λr _=>pd r
def DV(s:Mp rs)(h:CK (fw rs) rs.flatten L):(∀l∈L,l.length<=1000)/\L.length<=1000:=by
 have p:=(aL h.dj s.hn).mpr h.all;have hl:=s.hl;refine⟨λl n=>?_,?_⟩
 .have:=bZ.length_le (aT n);rw[p.length_eq]at this;lia
 .have:∀{L:Λ},(∀l∈L,1<=l.length)->L.length<=L.flatten.length:=λ{L} h=>by
   induction L with
   |nil=>exact af _
   |cons a L t=>
    have u:=h a (ah ..);have x:=t λl hl=>h l (mCo _ hl)
    rw[lCq,fCq,lAq];lia
  have:=this λl hl=>by obtain⟨e,c⟩:=h.cy l hl;exact c.len
  rw[p.length_eq]at this;lia
def vi(l:Mp rs):∃L,CK (fw rs) rs.flatten L/\qD [dM rs]=some (.ow ((srt ((tu rs++L).map good)).map aI)):=by
 obtain⟨H,I,J,M,O,L,e,s⟩:=lands_loop l;have hl:=l.hl;have n:=l.hr;have ow:=MC l;have t:=Td rs;have u:=Nj (rs:=rs) ∅
 have lr:rs.length<=qM:=by show _<=16777216;lia
 have z:AV.ow ((tu rs).map aI)=FH (tu rs) []:=by unfold FH;rw[fI,aNq]
 have st:=G7 (tu rs) L;obtain⟨B,P⟩:=DV l s;have bl:=Br rs;have E:=xT (rs:=tu rs++L) (λr hr=>by
  rcases mAq.mp hr with q|q
  .obtain⟨x,_,rfl⟩:=mMq.mp q;exact aX _
  .have:=B r q;lia) (by rw[lAq];show _<=16777216;lia)
 refine⟨L,s,?_⟩;have G:=pd (sk rs.flatten)
 simp_arith [qD,Kl,ow,dM,t,lr,z,u,G,dI,e,st,E]
end K15
namespace K13
open PySem L2 Mr Z Xe Zl
def Wy(hl:ns.length<=500000):zY [dI ns]=some (aI (good ns)):=by
 cases ns with
 |nil=>
  simp_arith [zY,Df,AF]
  rfl
 |cons n ns=>
  obtain⟨t,u⟩:=CF;have e:=xh t u;have l:=zt (n::ns);have x:IP [dI (n::ns)]=some (.int (ns.foldl min n)):=by
   show(rz ((n::ns).map D.int)).bind (λns=>(DQ ns).map D.int)=_
   rw[rp];rfl
  have z:xD (dI (n::ns)) [.int (ns.foldl min n)]=some (.int (pW (n::ns) (n::ns).length)):=by
   show(rz ((n::ns).map D.int)).bind _=_;rw[rp];show(if _ then _ else _)=_
   rw[pO t,e]
  have ht:AF (dI (n::ns))=some true:=rfl;generalize B:n::ns=N at *;have s:(N.drop (pW N N.length)).length+(N.take (pW N N.length)).length<=qM:=by rw[aJ,lTq];show _<=16777216;lia
  simp_arith [zY,Df,ht,x,z,tE,Am N _ l,ye N _ l,s,←mBq,Ca]
  rfl
def P7{rs:Λ}(hl:∀r∈rs,r.length<=500000):rS uz (qb zY (oO (oW 0) pH)) [] (rs.map dI)=some ((rs.map good).map aI):=by
 rw[Z.uj λd=>aI (good (yt d))]
 .rw[EN λr=>aI (good r),mPq]
  rfl
 .intro d hd;obtain⟨r,hr,rfl⟩:=Bh hd;refine⟨[some (.sh (dI r))],?_⟩
  simp_arith [Wy (hl r hr),tW]
def X2(hl:∀r∈rs,r.length<=500000)(l:rs.length<=qM):HF [dM rs]=some (.ow ((srt (rs.map good)).map aI)):=by
 simp_arith [HF,Ko,P7 hl,l]
end K13
namespace K15
open PySem L2 Mr Z Xe Zl
def Ih(l:j<r.length):(K51.rot r)[j]?=r[(j+1) % r.length]?:=by
 unfold K51.rot
 by_cases h:j+1<r.length
 .rw[cP h,gZq (by rw[aJ];lia),cV,gc]
 .have e:j+1=r.length:=by lia
  rw[e,dU,gYq (by rw[aJ];lia),aJ,eT ∅]
  congr 1;lia
def Ge(t:Mp rs):CQ [dM rs]=some (.owd (K51.ud (K51.pE rs))):=by
 have hn:=t.hn;have hl:=t.hl;have key:=tO (x:=2) (body:=zj) (λi S=>∃u l,S=[some (.sh (dM rs)),some (.owd (K51.ud (K51.pE (rs.take i)))),u,l]) (ds:=rs.map dI) (S:=[some (.sh (dM rs)),some (.owd []),none,none]) ⟨none,none,rfl⟩ (by
  rintro i d S hd ⟨u,l,rfl⟩;obtain⟨r,hr,rfl⟩:=BU hd;have H:=t.row hr;have I:=tO (x:=3) (body:=zo) (λj S=>∃l,S=[some (.sh (dM rs)),some (.owd (K51.ud (K51.pE (rs.take i)++(K51.rD r).take j))),some (.sh (dI r)),l]) (ds:=qr 0 r.length) (S:=[some (.sh (dM rs)),some (.owd (K51.ud (K51.pE (rs.take i)))),some (.sh (dI r)),l]) ⟨l,by simp⟩ (by
   rintro j d S hd ⟨l,rfl⟩;have z:j<r.length:=by
    have:=(gSq.mp hd).1
    rwa [qh]at this
   rw[wI z,gR]at hd;cases hd;have E:r[j]?=some r[j]:=gEg z;have n:(j+1) % r.length<r.length:=fu _ ∅
   have J:(K51.rot r)[j]?=some r[(j+1) % r.length]:=by rw[Ih z];exact gEg n
   have L:=K51.CC (j:=j) hl hr;have s:=K51.Ej hn hr E J;have M:atI (r.map D.int) (j:Int)=some (.int r[j]):=uC (by rw[gMq,E];rfl)
   have G:=sJ (i:=(j)+1) (j:=(r.length)) ∅
   have O:((j:Int)+1) % (r.length)=(((j+1) % r.length:Nat)):=by rfl
   rw[O]at G;have P:atI (r.map D.int) (((j+1) % r.length:Nat))=some (.int r[(j+1) % r.length]):=uC (by rw[gMq,gEg n];rfl)
   refine⟨_,?_,i0 (j),rfl⟩
   simp_arith [zo,dI,M,G,P,L,s])
  obtain⟨U,B,Q,rfl⟩:=I;rw[qh,←K51.vo,aK]at B;have R:CU [.int (r.length)]=some (qr 0 r.length):=yD ∅
  rw[K51.vo]at B;refine⟨_,?_,some (.sh (dI r)),Q,rfl⟩;rw[qt hr,K51.A0]
  simp_arith [zj,dI,R,B])
 obtain⟨X,e,u,l,rfl⟩:=key;rw[lMq,aK]at e
 simp_arith [CQ,EG,e]
def P3 rs:rS (BP (yz (oH 0))) (sm pH) [] (rs.map dI)=some ((tu rs).map aI):=by
 rw[Z.vk (λd=>decide (yt d=[])) (λ_=>.ow [])]
 .unfold tu;rw[fR,mPq,mPq];have:(λd=>decide (yt d=[]))∘dI=λr=>decide (r=[]):=by funext r;show decide (yt (dI r)=[])=_;rw[tW]
  rw[this];rfl
 .intro d hd;obtain⟨r,hr,rfl⟩:=Bh hd;rw[tW];refine⟨[some (.sh (dI r))],?_,λ_=>⟨[some (.sh (dI r))],?_⟩⟩
  .cases r with
   |nil=>
    have t0:AF (dI [])=some false:=rfl
    simp_arith [t0]
   |cons x r=>
    have l:AF (dI (x::r))=some true:=rfl
    simp_arith [l]
  .simp_arith []
noncomputable def mu2(N:Nat):AS->Nat
 | [_,_,_,_,_,some (.ow l),_]=>N+1-l.length
 |_=>0
def round_ok(B:Mp rs)(hr:Rd (fw rs) rs.flatten s I)(x:e∈rs.flatten)(J:e∉s):∃l v6,Cy (fw rs) e l/\rH (tN (qR (oH 6) (oH 2))) mb_L_lands_0 100000 [v0,some (.sh (.fd (K51.ud (K51.pE rs)))),some (.owd (kI s)),v3,i0 e,some (.ow []),i0 e]=some (.nx [v0,some (.sh (.fd (K51.ud (K51.pE rs)))),some (.owd (kI (s++l))),v3,i0 e,some (aI l),v6]):=by
 have one:=tI B;obtain⟨l,cy,L,G⟩:=one.cy x;have hl:=B.hl;have M:=Mb _ _ hr.nd hr.sub;have O:=hr.out cy J;have E:∀n,Z.getD (K51.ud (K51.pE rs)) (.inl (-(itr (fw rs) n e)))=some (.int (itr (fw rs) (n+1) e)):=λn=>xQ B.hn (B.hneg _ (one.itr_mem x n))
 have key:=uK (c:=tN (qR (oH 6) (oH 2))) (body:=mb_L_lands_0) (λS=>∃n,n<=l.length/\S=[v0,some (.sh (.fd (K51.ud (K51.pE rs)))),some (.owd (kI (s++l.take n))),v3,i0 e,some (aI (l.take n)),i0 (itr (fw rs) n e)]) (mu2 l.length) (λS=>∃v6,S=[v0,some (.sh (.fd (K51.ud (K51.pE rs)))),some (.owd (kI (s++l))),v3,i0 e,some (aI l),v6]) (by
  rintro S ⟨n,Y,rfl⟩;have z:=kI_get (s++l.take n) (itr (fw rs) n e)
  by_cases hn:n<l.length
  .have t:=cy.at hn;have u:itr (fw rs) n e∉s++l.take n:=λm=>by
    rcases mAq.mp m with q|q
    .exact O _ (mGq t) q
    .have:=bu.sublist (bB (n+1) l) cy.nd;rw[qt t]at this;exact(nAq.mp this).2.2 _ q _ ⋯ rfl
   rw[d4 u]at z;have H:=kI_new u;rw[ae,←qt t]at H;have hs:=E n;have P:(kI (s++l.take n)).length<qM:=by rw[kI_len,lAq,lTq];show _<16777216;lia
   have Q:(l.take n).length<qM:=by rw[lTq];show _<16777216;lia
   have R:(l.take n).map (λn=>AV.sh (.int n))++[.sh (.int (itr (fw rs) n e))]=(l.take (n+1)).map λn=>.sh (.int n):=by rw[qt t,mBq];rfl
   refine⟨true,[v0,some (.sh (.fd (K51.ud (K51.pE rs)))),some (.owd (kI (s++l.take n))),v3,i0 e,some (aI (l.take n)),i0 (itr (fw rs) n e)],?_,λ_=>⟨[v0,some (.sh (.fd (K51.ud (K51.pE rs)))),some (.owd (kI (s++l.take (n+1)))),v3,i0 e,some (aI (l.take (n+1))),i0 (itr (fw rs) (n+1) e)],?_,⟨n+1,by lia,rfl⟩,?_⟩,λq=>(nomatch q)⟩
   .simp_arith [z]
   .simp_arith [mb_L_lands_0,P,H,Q,R,hs]
   .show l.length+1-_<l.length+1-_;simp only[lMq,lTq];lia
  .have U:n=l.length:=by lia
   subst U;have hb:=cy.back;rw[hb,aK]at z ⊢;rw[d0 (mAq.mpr (.inr cy.self))]at z;refine⟨false,[v0,some (.sh (.fd (K51.ud (K51.pE rs)))),some (.owd (kI (s++l))),v3,i0 e,some (aI l),i0 e],?_,λq=>(nomatch q),λ_=>⟨_,rfl⟩⟩
   simp_arith [z])
 obtain⟨S',X,v6,rfl⟩:=key 100000 [v0,some (.sh (.fd (K51.ud (K51.pE rs)))),some (.owd (kI s)),v3,i0 e,some (.ow []),i0 e] ⟨0,aX _,by simp[itr]⟩ (by
  show l.length+1-0<100000;lia)
 exact⟨l,v6,cy,X⟩
def JT(B:Mp rs):∃v2 v4 v5 v6 L,rZ 4 mb_L_lands_1 (rs.flatten.map D.int) [some (.sh (dM rs)),some (.sh (.fd (K51.ud (K51.pE rs)))),some (.owd []),some (FH (tu rs) []),none,none,none]=some (.nx [some (.sh (dM rs)),some (.sh (.fd (K51.ud (K51.pE rs)))),v2,some (FH (tu rs) L),v4,v5,v6])/\CK (fw rs) rs.flatten L:=by
 have one:=tI B;have hl:=B.hl;have H:=B.hr;have key:=tO (x:=4) (body:=mb_L_lands_1) (λi S=>∃s L v4 v5 v6,S=[some (.sh (dM rs)),some (.sh (.fd (K51.ud (K51.pE rs)))),some (.owd (kI s)),some (FH (tu rs) L),v4,v5,v6]/\Rd (fw rs) rs.flatten s L/\L.length<=i/\∀j x,j<i->rs.flatten[j]?=some x->x∈s) (ds:=rs.flatten.map D.int) (S:=[some (.sh (dM rs)),some (.sh (.fd (K51.ud (K51.pE rs)))),some (.owd []),some (FH (tu rs) []),none,none,none]) ⟨[],[],none,none,none,rfl,⟨by simp,rfl,bb,by simp,by simp⟩,af _,λj x h=>absurd h (cG _)⟩ (by
  rintro i d S hd ⟨s,L,v4,v5,v6,rfl,hr,O,n⟩;rw[gMq]at hd;obtain⟨e,E,rfl⟩:=oMq.mp hd;have hi:=(gSq.mp E).1;have z:e∈rs.flatten:=mGq E;have G:=kI_get s e
  by_cases c:e∈s
  .rw[d0 c]at G;refine⟨[some (.sh (dM rs)),some (.sh (.fd (K51.ud (K51.pE rs)))),some (.owd (kI s)),some (FH (tu rs) L),i0 e,v5,v6],?_,s,L,_,_,_,rfl,hr,by lia,λj x u t=>?_⟩
   .simp_arith [mb_L_lands_1,G]
   .rcases bT.mp u with q|rfl
    .exact n j x q t
    .rw[E]at t;cases t;exact c
  .rw[d4 c]at G;obtain⟨l,I,cy,M⟩:=round_ok B hr z c (v0:=some (.sh (dM rs))) (v3:=some (FH (tu rs) L));have J:=hr.add one cy z c;have P:=pd l;have lb:=Br rs;have Q:((tu rs).map aI++L.map λl=>AV.sh (dI l)).length<qM:=by rw[lAq,lMq,lMq];show _<16777216;lia
   have R:((tu rs).map aI++L.map λl=>AV.sh (dI l))++[.sh (dI l)]=(tu rs).map aI++(L++[l]).map λl=>.sh (dI l):=by rw[ae,mBq];rfl
   refine⟨[some (.sh (dM rs)),some (.sh (.fd (K51.ud (K51.pE rs)))),some (.owd (kI (s++l))),some (FH (tu rs) (L++[l])),i0 e,some (.sh (dI l)),I],?_,s++l,L++[l],_,_,_,rfl,J,by rw[lAq,lSq];lia,λj x u t=>?_⟩
   .unfold FH at M ⊢
    simp_arith [mb_L_lands_1,G,M,P,Q,R]
   .rcases bT.mp u with q|rfl
    .exact mAq.mpr (.inl (n j x q t))
    .rw[E]at t;cases t;exact mAq.mpr (.inr cy.self))
 obtain⟨U,e,s,L,v4,v5,v6,rfl,hr,_,n⟩:=key;refine⟨_,_,_,_,L,e,hr.orb λx t=>?_⟩
 obtain⟨j,u⟩:=ay.mp t;exact n j x (by rw[lMq];exact(gSq.mp u).1) u
def G1(l:Mp rs):∃L,CK (fw rs) rs.flatten L/\f_L_lands [dM rs]=some (.ow ((srt ((tu rs++L).map good)).map aI)):=by
 obtain⟨I,J,M,O,L,e,t⟩:=JT l;have n:=l.hr;have u:=Ge l;have z:=Jw rs;have B:=P3 rs;have lr:rs.length<=qM:=by show _<=16777216;lia
 have E:AV.ow ((tu rs).map aI)=FH (tu rs) []:=by unfold FH;rw[fI,aNq]
 have st:=G7 (tu rs) L;obtain⟨G,P⟩:=DV l t;have bl:=Br rs;have H:=K13.X2 (rs:=tu rs++L) (λr hr=>by
  rcases mAq.mp hr with q|q
  .obtain⟨x,_,rfl⟩:=mMq.mp q;exact aX _
  .have:=G r q;lia) (by rw[lAq];show _<=16777216;lia)
 refine⟨L,t,?_⟩;have s:((4)≠1)=True:=by simp
 simp_arith [f_L_lands,mf_L_lands,u,dM,B,lr,E,s,z,e,st,H]
def LO(n:Mp rs):∃G:Λ,qD [dM rs]=some (.ow (G.map aI))/\f_L_lands [dM rs]=some (.ow (G.map aI))/\G.flatten.Perm rs.flatten/\G.length<=1000+rs.length:=by
 obtain⟨L,s,t⟩:=vi n;obtain⟨M,u,z⟩:=G1 n;have B:((tu rs++L).map good).Perm ((tu rs++M).map good):=by
  rw[mBq,mBq];exact aE.append_left _ (s.perm (tI n) u)
 refine⟨srt ((tu rs++L).map good),t,by rw[z,Dc B],?_,?_⟩
 .refine(pI (pV _)).trans ((qj qJ _).trans ?_);have E:=(aL s.dj n.hn).mpr s.all;have hb:(tu rs).flatten=[]:=by
   refine fg.mpr λl hl=>?_
   obtain⟨x,_,rfl⟩:=mMq.mp hl;rfl
  rw[fAq,hb];exact E
 .have:=(DV n s).2;have:=Br rs;rw[qB,lMq,lAq];lia
end K15
namespace K12
open PySem L2 Mr Z Xe Zl
abbrev aP(part:Λ):AV:=.ow (part.map aI)
def Ru{α β:Type}(f:α->β)(l:List α)i a:(l.map f).set i (f a)=(l.set i a).map f:=by rw[List.map_set]
structure Wd where
 P0:List Λ
 last:Λ
 t0:Θ
 h:Nat
 left:Ϝ
 used:Nat
abbrev cN(ks:Θ):Ϝ:=ks.map λn:Nat=>(n:Int)
def st(v0 v1:Option AV)(w:Wd)(v6 v7 v8 v9:Option AV):AS:=[v0,v1,some (.ow ((w.P0++[w.last]).map aP)),some (aI (cN (w.t0++[w.h]))),some (aI w.left),i0 (w.used:Int),v6,v7,v8,v9]
def Fp(r:Ϝ)e:(r.map λn=>AV.sh (.int n))++[.sh (.int e)]=(r++[e]).map λn=>.sh (.int n):=by rw[mBq];rfl
def NC(l:Λ)e:l.map aI++[.ow [.sh (.int e)]]=(l++[[e]]).map aI:=by rw[mBq];rfl
def TM(ks)n:(cN ks).map (λn=>AV.sh (.int n))++[.sh (.int (n:Int))]=(cN (ks++[n])).map λn=>.sh (.int n):=by unfold cN;rw[mBq,mBq];rfl
theorem Ir{α β:Type}(f:α->β):∀(l:List α) i,(l.map f).eraseIdx i=(l.eraseIdx i).map f
 | [],i=>rfl
 |x::l,0=>rfl
 |x::l,i+1=>by rw[aw,dS,dS,Ir f l i,aw]
noncomputable def aaQ(nm:Ϝ)(k:Nat):Ϝ:=(nm.take k).flatMap λx=>[x, -x]
theorem vN{x r:Ϝ}a:∀{l:Λ}{h:Nat},l[h]?=some r->(l.set h (r++x)).flatten.count a=l.flatten.count a+x.count a
 | [],_,h=>by simp at h
 |s::l,0,h=>by
  cases h;rw[eh,fCq,fCq,cAq,cAq,cAq];lia
 |s::l,h+1,e=>by
  rw[fj,fCq,fCq,cAq,cAq,vN a (by simpa using e)]
  lia
theorem Da a:∀{l:Ϝ}{j},j<l.length->(l.eraseIdx j).count a+[l.getD j 0].count a=l.count a
 | [],_,h=>by simp at h
 |x::l,0,_=>by
  rw[show x::l=[x]++l from rfl,cAq]
  show l.count a+[x].count a=_;lia
 |x::l,j+1,h=>by
  have n:=Da a (by simpa using h)
  rw[dS,show x::l.eraseIdx j=[x]++l.eraseIdx j from rfl,show(x::l).getD (j+1) 0=l.getD j 0 from rfl,show x::l=[x]++l from rfl,cAq,cAq]
  lia
def B6{l:Λ}{h:Nat}{r:Ϝ}(e:l[h]?=some r):r.length<=l.flatten.length:=bZ.length_le (aT (mGq e))
noncomputable def nmk(st sh a b k:Int):Int:=st*((a*k+b) % 67+1)+sh
structure Nm (nm:Ϝ):Prop where
 len:nm.length=66
 nd:nm.Nodup
 lo:∀x∈nm,1<=x
 hi:∀x∈nm,x<10 ^ 60
theorem pm_nodup:∀{l:Ϝ},l.Nodup->(∀x∈l,1<=x)->(l.flatMap λx=>[x, -x]).Nodup
 | [],_,_=>bb
 |x::l,hn,hp=>by
  have n:=aq.mp hn;have t:=hp x (ah ..);rw[bO,nAq];refine⟨?_,pm_nodup n.2 λy s=>hp y (mCo _ s),λa ha b hb e=>?_⟩
  .rw[aq];refine⟨?_,by simp⟩
   rw[mSq];lia
  .obtain⟨y,s,q⟩:=bf.mp hb;have py:=hp y (mCo _ s);simp at ha q;have:y=x:=by lia
   exact n.1 (this ▸ s)
abbrev gm(p:Λ):Λ:=srt (p.map good)
def DW p:(gm p).Perm (p.map good):=pV _
theorem Nh:∀{PS:List Θ},(∀ps∈PS,ps.Nodup)->(PS.Pairwise λa b=>∀k∈a,k∉b)->PS.flatten.Nodup
 | [],_,_=>bb
 |p::PS,h1,h2=>by
  obtain⟨n,s⟩:=fh.mp h2;rw[fCq,nAq];refine⟨h1 p (ah ..),Nh (λps t=>h1 ps (mCo _ t)) s,λa ha b hb e=>?_⟩
  obtain⟨q,u,l⟩:=mFq.mp hb;exact n q u a ha (e ▸ l)
def tJ{PS}(l:K51.Ps rs rs.length kn PS):(PS.map λps=>ps.map λk=>rs.getD k []).flatten.Perm rs:=by
 have n:(PS.map λps=>ps.map λk=>rs.getD k []).flatten=PS.flatten.map λk=>rs.getD k []:=by rw[←List.map_flatten]
 rw[n];have nd:=Nh (λps h=>by obtain⟨s,_,q⟩:=l.pc ps h;exact q.nd) l.dj
 have pm:=(aL nd cY).mpr λk=>by
  rw[bA,mFq];constructor
  .rintro⟨ps,t,u⟩;obtain⟨s,_,q⟩:=l.pc ps t;exact q.lt k u
  .intro hk;exact l.mem k (l.all k hk)
 have x:(aF rs.length).map (λk=>rs.getD k [])=rs:=by
  refine cS λi=>?_
  rw[gMq]
  by_cases hi:i<rs.length
  .rw[cj hi,cI,gDq,gEg hi];rfl
  .rw[aO (by simpa using hi),aO ∅]
   rfl
 have:=pm.map (λk=>rs.getD k [])
 rwa [x]at this
end K12
namespace K16
open PySem L2 Mr Z Xe Zl
noncomputable def pm(l:Ϝ):Ϝ:=l.flatMap λx=>[x, -x]
noncomputable def kvI(M:List (Int×Int)):List (pQ×D):=M.map λp=>(.inl p.1,.int p.2)
end K16
namespace K16
open PySem L2 Mr Z Xe Zl K15
def FE(hn:rs.flatten.Nodup){r:Ϝ}(hr:r∈rs)(hz:r[j]?=some z)(l:r[(j+1) % r.length]?=some y):nx rs z=y:=by
 have n:=(gSq.mp hz).1;have s:=K51.Fw hz ((Ih n).trans l);have t:(aN z,y)∈K51.pE rs:=by
  unfold K51.pE;exact mFq.mpr ⟨_,mMq.mpr ⟨r,hr,rfl⟩,mGq s⟩
 have u:=BB (HM hn) t;unfold nx;rw[u]
theorem NM(hn:rs.flatten.Nodup){r:Ϝ}(hr:r∈rs)(l:r[0]?=some e):∀n,r[n % r.length]?=some (itr (nx rs) n e)
 |0=>by exact l
 |n+1=>by
  have u:=(gSq.mp l).1;have x:=NM hn hr l n;have z:(n+1) % r.length<r.length:=fu _ u;have s:(n % r.length+1) % r.length=(n+1) % r.length:=by rw[jr]
  obtain⟨y,t⟩:∃y,r[(n+1) % r.length]?=some y:=⟨_,gEg z⟩;have:=FE hn hr x (s ▸ t);rw[t,←this];rfl
def LS(hn:rs.flatten.Nodup){r:Ϝ}(hr:r∈rs)(l:r[0]?=some e):Cy (nx rs) e r:=by
 have s:=(gSq.mp l).1;have n:=NM hn hr l;refine⟨s,?_,?_,bu.sublist (aT hr) hn⟩
 .refine cS λi=>?_
  rw[gMq]
  by_cases hi:i<r.length
  .rw[cj hi,cI,←n i,cP hi]
  .rw[aO ∅,aO (by rw[aB];lia)]
   rfl
 .have:=n r.length;rw[dU,l]at this;exact(aA.inj this).symm
noncomputable def ne(rs:Λ):Λ:=rs.filter λr=>!decide (r=[])
theorem DO:∀rs:Λ,(ne rs).flatten=rs.flatten
 | []=>rfl
 | []::rs=>DO rs
 | (x::r)::rs=>by
  show((x::r)::ne rs).flatten=_;rw[fCq,fCq,DO rs]
theorem HP:∀rs:Λ,(tu rs++ne rs).Perm rs
 | []=>.nil
 | []::rs=>(HP rs).cons []
 | (x::r)::rs=>eZ.trans ((HP rs).cons (x::r))
def aal{r:Ϝ}:r∈ne rs↔r∈rs/\r≠[]:=by
 unfold ne;simp
def Tz(hn:rs.flatten.Nodup):CK (nx rs) rs.flatten (ne rs):=by
 refine⟨λl hl=>?_,by rw[DO];exact hn,λx=>by rw[DO]⟩
 obtain⟨n,s⟩:=aal.mp hl;cases l with
 |nil=>exact absurd rfl s
 |cons x l=>exact⟨x,LS hn n rfl⟩
def QF(hn:rs.flatten.Nodup):JZ (nx rs) rs.flatten:=⟨hn,λe l=>ED hn l,λa ha b hb h=>QN hn ha hb h⟩
def SV(hn:rs.flatten.Nodup)(h:∀l∈rs,l=[]∨∃e,Cy f e l)(z:x∈rs.flatten):nx rs x=f x:=by
 obtain⟨l,hl,n⟩:=mFq.mp z;rcases h l hl with rfl|⟨e,c⟩
 .cases n
 .obtain⟨j,s⟩:=ay.mp n;have t:=(gSq.mp s).1;have u:=c.at t;rw[s]at u;have B:=aA.inj u;refine FE hn hl s ?_;rw[B];show _=some (itr f (j+1) e)
  by_cases q:j+1<l.length
  .rw[cP q];exact c.at q
  .have E:j+1=l.length:=by lia
   rw[E,dU,c.back];exact c.at ∅
theorem GV(l:JZ f E)(h:∀x∈E,f x=g x)(s:e∈E):∀n,itr f n e=itr g n e
 |0=>rfl
 |n+1=>by
  show f (itr f n e)=g (itr g n e);rw[h _ (l.itr_mem s n),GV l h s n]
def Rb(t:JZ f E)(h:∀x∈E,f x=g x)(u:e∈E)(c:Cy f e l):Cy g e l:=by
 have s:=GV t h u;refine⟨c.len,?_,by rw[←s];exact c.back,c.nd⟩
 rw[←mCq λn _=>s n]
 exact c.get
def Oi(s:JZ f E)(h:∀x∈E,f x=g x)(t:∀x,x∈E↔x∈n)(o:CK f E L):CK g n L:=by
 refine⟨λl hl=>?_,o.dj,λx=>(o.all x).trans (t x)⟩
 obtain⟨e,c⟩:=o.cy l hl;exact⟨e,Rb s h ((o.all e).mp (mFq.mpr ⟨l,hl,c.self⟩)) c⟩
def Hh(c:Cy f e l):∃n,Cy f n (good l):=by
 unfold good
 by_cases h:pW l l.length<l.length
 .exact⟨_,c.rot h⟩
 .refine⟨e,?_⟩;unfold Mr.rot;rw[bR ∅,cf ∅]
  exact c
theorem vZ:∀rs:Λ,tu rs=aV (rs.count []) []
 | []=>rfl
 | []::rs=>by
  rw[gN,iY,←vZ rs];rfl
 | (x::r)::rs=>by
  rw[fG ⋯,←vZ rs]
  rfl
theorem E6:∀{L:Λ},(∀l∈L,1<=l.length)->L.length<=L.flatten.length
 | [],_=>af _
 |a::L,h=>by
  have n:=h a (ah ..);have s:=E6 λl hl=>h l (mCo _ hl)
  rw[lCq,fCq,lAq];lia
theorem Ee:∀{L:Λ},(∀l∈L,1<=l.length)->(L.map good).count []=0
 | [],_=>rfl
 |a::L,h=>by
  have s:=h a (ah ..);have n:good a≠[]:=λq=>by
   have:=congrArg bJ q;rw[Di,cF]at this;lia
  rw[aw,fG n];exact Ee λl hl=>h l (mCo _ hl)
def W7{T:Λ}(h:T.flatten.Nodup):∀r∈T,r.Nodup:=λr hr=>bu.sublist (aT hr) h
def JN(u:Mp rs)(Q:rs.length+rs.flatten.length<=1000):∃M:Λ,qD [dM rs]=some (.ow (M.map aI))/\Mp M/\qD [dM M]=some (.ow ((srt (rs.map good)).map aI))/\M.flatten.Perm rs.flatten/\srt (M.map good)=M/\M.count []=rs.count []/\M.length<=rs.length+rs.flatten.length:=by
 obtain⟨L,B,R⟩:=vi u;have S:=(aL B.dj u.hn).mpr B.all;have E:∀l∈L,1<=l.length:=λl hl=>by obtain⟨e,c⟩:=B.cy l hl;exact c.len
 have I:=E6 E;rw[S.length_eq]at I;have hb:(tu rs).flatten=[]:=by
  refine fg.mpr λl hl=>?_
  obtain⟨x,_,rfl⟩:=mMq.mp hl;rfl
 have G:(tu rs++L).flatten=L.flatten:=by rw[fAq,hb,cU]
 have z:(srt ((tu rs++L).map good)).flatten.Perm rs.flatten:=by
  refine(pI (pV _)).trans ((qj qJ _).trans ?_);rw[G];exact S
 have U:=L7 (by rw[G];exact B.dj)
 have n:(srt ((tu rs++L).map good)).count []=rs.count []:=by
  rw[(pV _).count_eq,mBq,cAq,Ee E,vZ,eF,Cb,iq];rfl
 have H:(srt ((tu rs++L).map good)).length<=rs.length+rs.flatten.length:=by
  have:=Br rs;rw[qB,lMq,lAq];lia
 have t:∀l∈srt ((tu rs++L).map good),l=[]∨∃e,Cy (fw rs) e l:=λl hl=>by
  obtain⟨m,J,rfl⟩:=mMq.mp ((pV _).mem_iff.mp hl);rcases mAq.mp J with q|q
  .left;obtain⟨x,_,rfl⟩:=mMq.mp q;rfl
  .right;obtain⟨e,c⟩:=B.cy m q;exact Hh c
 generalize srt ((tu rs++L).map good)=M at R z U n H t;have X:=z.nodup_iff.mpr u.hn;have s:Mp M:=⟨X,by rw[z.length_eq];exact u.hl,by lia,λe Y=>z.mem_iff.mpr (u.hneg e (z.mem_iff.mp Y))⟩
 obtain⟨L2,o2,e2⟩:=vi s;have O:∀x∈M.flatten,fw M x=nx rs x:=λx hx=>by
  show nx M (-x)=_;rw[SV X t (s.hneg x hx)];show nx rs (- -x)=_;rw[bw]
 have P:=Oi (tI s) O (λx=>z.mem_iff) o2
 have hp:=P.perm (QF u.hn) (Tz u.hn);refine⟨M,R,s,?_,z,U,n,H⟩;rw[e2];have hq:((tu M++L2).map good).Perm (rs.map good):=by
  rw[mBq,vZ M,n,←vZ rs];refine(aE.append_left _ hp).trans ?_;rw[←mBq];exact(HP rs).map good
 rw[Dc hq]
end K16
namespace K18
open PySem L2 Mr Z Xe Zl
noncomputable def pp:Ϝ->List (Int×Int)
 | []=>[]
 | [_]=>[]
 |x::y::r=>(x,y)::pp (y::r)
def cp:Ϝ->List (Int×Int)
 | []=>[]
 |x::r=>pp (x::r++[x])
noncomputable def PC(X:Λ):List (Int×Int):=X.flatMap cp
theorem CI:∀l x y (r:Ϝ),pp (l++x::y::r)=pp (l++[x])++(x,y)::pp (y::r)
 | [],x,y,r=>rfl
 | [a],x,y,r=>rfl
 |a::b::l,x,y,r=>by
  show(a,b)::pp (b::l++x::y::r)=(a,b)::pp (b::l++[x])++_;rw[CI (b::l)];rfl
def um{l r:Ϝ}{a:Int}{r':Ϝ}(hl:l=l'++[a])(hr:r=h::r'):pp (l++r)=pp l++(a,h)::pp r:=by
 rw[hl,hr,ae];exact CI l' a h r'
def sZ{l:Ϝ}{a:Int}{l'':Ϝ}(hl:l=l'++[a])(hh:l=h::l''):cp l=pp l++[(a,h)]:=by
 rw[hh];show pp (h::l''++[h])=_;rw[←hh,um hl rfl];rfl
def uM{l:Ϝ}(h:l≠[]):∃l' a,l=l'++[a]:=⟨l.dropLast,l.getLast h,(List.dropLast_concat_getLast h).symm⟩
def vg{l:Ϝ}(h:l≠[]):∃a l',l=a::l':=by
 cases l with
 |nil=>exact absurd rfl h
 |cons a l=>exact⟨a,l,rfl⟩
def tq(a b)q:(cp (a++b)).count q=(cp (b++a)).count q:=by
 by_cases ha:a=[]
 .rw[ha,aNq,cU]
 .by_cases hb:b=[]
  .rw[hb,aNq,cU]
  .obtain⟨la,u,l⟩:=uM ha;obtain⟨lb,x,n⟩:=uM hb;obtain⟨z,B,s⟩:=vg ha;obtain⟨E,G,t⟩:=vg hb;rw[sZ (by rw[n,ae]) (by rw[s];rfl),sZ (by rw[l,ae]) (by rw[t];rfl),um l t,um n s]
   simp only[cAq,cJ,bH];lia
theorem QX:∀(l:Ϝ) x,(pp (l++[x])).map (·.1)=l
 | [],x=>rfl
 | [a],x=>rfl
 |a::b::l,x=>by
  show a::(pp (b::l++[x])).map (·.1)=_;rw[QX (b::l)]
def Zd l:(cp l).map (·.1)=l:=by
 cases l with
 |nil=>rfl
 |cons x r=>exact QX (x::r) x
theorem UA:∀(l:Ϝ) x,(pp (x::l)).map (·.2)=l
 | [],x=>rfl
 |a::l,x=>by
  show a::(pp (a::l)).map (·.2)=_;rw[UA l]
def Yy l:((cp l).map (·.2)).Perm l:=by
 cases l with
 |nil=>exact .refl _
 |cons x r=>
  show((pp (x::(r++[x]))).map (·.2)).Perm _;rw[UA];exact aG
def FB X:(PC X).map (·.1)=X.flatten:=by
 induction X with
 |nil=>rfl
 |cons r X l=>
  show((cp r++PC X)).map _=_;rw[mBq,l,Zd];rfl
def FC X:((PC X).map (·.2)).Perm X.flatten:=by
 induction X with
 |nil=>exact .refl _
 |cons r X l=>
  show((cp r++PC X).map _).Perm (r++X.flatten);rw[mBq];exact(Yy r).append l
def qa(r:Ϝ)(X:Λ)q:(PC (r::X)).count q=(cp r).count q+(PC X).count q:=by
 show(cp r++PC X).count q=_;rw[cAq]
def xJ(X Y)q:(PC (X++Y)).count q=(PC X).count q+(PC Y).count q:=by
 unfold PC;rw[fP,cAq]
theorem zI{r r':Ϝ}q:∀{X:Λ}{i:Nat},X[i]?=some r->(PC (X.set i r')).count q+(cp r).count q=(PC X).count q+(cp r').count q
 | [],_,h=>by simp at h
 |t::X,0,h=>by
  simp only[ff,aA.injEq]at h;subst h;rw[eh,qa,qa];lia
 |t::X,i+1,h=>by
  rw[fj,qa,qa];have:=zI (r':=r') q (by simpa using h)
  lia
def vV(h:X.Perm Y)q:(PC X).count q=(PC Y).count q:=(h.flatMap_right cp).count_eq q
noncomputable def ct(u v x y:Int):Nat:=[(u,v)].count (x,y)
def vc u v x y:ct u v (-x) y=ct (-u) v x y:=by
 unfold ct;rw[cJ,cJ,bH,bH];have:((u,v) == (-x,y))=((-u,v) == (x,y)):=by
  rw[cE,beq_iff_eq,beq_iff_eq,Prod.mk.injEq,Prod.mk.injEq];constructor <;> rintro⟨n,l⟩ <;> exact⟨by lia,l⟩
 rw[this]
def ct_:[(u,v)].count (x,y)=ct u v x y:=rfl
def rO:((u,v)::l).count (x,y)=ct u v x y+l.count (x,y):=by
 rw[show(u,v)::l=[(u,v)]++l from rfl,cAq]
 rfl
def vb:q∈PC X↔0<(PC X).count q:=bg.symm
def Q7(h:(u,v)∈cp c):∃w B,(∀q,(cp (w++[u])).count q=(cp c).count q)/\w++[u]=v::B:=by
 cases c with
 |nil=>cases h
 |cons x r=>
  have key:∀{l:Ϝ},(u,v)∈pp l->∃a b,l=a++u::v::b:=by
   intro l
   induction l with
   |nil=>intro h;cases h
   |cons y l E=>
    cases l with
    |nil=>intro h;cases h
    |cons z l=>
     intro h;rcases aa.mp (h)with e|h
     .cases e;exact⟨[],l,rfl⟩
     .obtain⟨a,b,e⟩:=E h;exact⟨y::a,b,by rw[e];rfl⟩
  obtain⟨a,b,e⟩:=key (h)
  by_cases hb:b=[]
  .subst hb;have t:(x::r)++[x]=(a++[u])++[v]:=by rw[e,ae];rfl
   obtain⟨s,G⟩:=iB t rfl;cases G;exact⟨a,r,λq=>by rw[←s],s.symm⟩
  .obtain⟨n,k,rfl⟩:=uM hb;have t:(x::r)++[x]=(a++u::v::n)++[k]:=by rw[e,ae];rfl
   obtain⟨s,_⟩:=iB t rfl;refine⟨v::n++a,n++a++[u],λq=>?_,by simp⟩
   rw[s];have:=tq (a++[u]) (v::n) q;rw[ae]at this;rw[show a++u::v::n=a++([u]++v::n)from rfl,this,ae]
def Fy{n}z(h:(u,v)∈PC n)(ne:∀c∈n,c≠[]):∃l:Λ,l.length=n.length/\(∀c∈l,c≠[])/\∀x y,(PC l).count (x,y)+ct u v x y=(PC n).count (x,y)+ct u z x y+ct z v x y:=by
 obtain⟨c,E,G⟩:=bf.mp h;obtain⟨i,hi⟩:=ay.mp E;obtain⟨w,I,H,t⟩:=Q7 G;refine⟨n.set i (w++[u]++[z]),lZq,λd hd=>?_,λx y=>?_⟩
 .rcases eK hd with q|q
  .exact ne d q
  .rw[q];simp
 .have s:=zI (r':=w++[u]++[z]) (x,y) hi;have B:=H (x,y);rw[sZ rfl t]at B;rw[sZ rfl (by rw[t];rfl),um rfl rfl]at s
  simp only[cAq,rO,bH,pp]at s B;lia
def ab5{k:Int}{W G:Ϝ}(hz:W=z::G)(hk:W=W''++[k])(h:(u,v)∈PC t)(ne:∀c∈t,c≠[]):∃n:Λ,n.length=t.length/\(∀c∈n,c≠[])/\∀x y,(PC n).count (x,y)+ct u v x y=(PC t).count (x,y)+ct u z x y+(pp W).count (x,y)+ct k v x y:=by
 obtain⟨c,H,I⟩:=bf.mp h;obtain⟨i,hi⟩:=ay.mp H;obtain⟨w,L,J,B⟩:=Q7 I;refine⟨t.set i (w++[u]++W),lZq,λd hd=>?_,λx y=>?_⟩
 .rcases eK hd with q|q
  .exact ne d q
  .rw[q];simp
 .have s:=zI (r':=w++[u]++W) (x,y) hi;have E:=J (x,y);rw[sZ rfl B]at E;rw[sZ (l:=w++[u]++W) (a:=k) (l':=w++[u]++W'') (by rw[hk];simp) (by rw[B];rfl),um rfl hz]at s
  simp only[cAq,rO,bH]at s E;lia
structure Ln (C LL:Λ):Prop where
 cnt:∀x y,(PC LL).count (x,y)=(PC C).count (-x,y)
 ne:∀c∈LL,c≠[]
section
variable {i:Nat}
def Ln.mem(h:Ln C LL)(q:(x,y)∈PC C):(-x,y)∈PC LL:=by
 rw[vb,h.cnt,bw];exact vb.mp q
def uv{r:Ϝ}(hi:C[i]?=some r)(h:q∈cp r):q∈PC C:=bf.mpr ⟨r,mGq hi,h⟩
theorem BR{r r':Ϝ}:∀{X:Λ}{i:Nat},X[i]?=some r->(X.set i r').count []+(if r=[]then 1 else 0)=X.count []+(if r'=[]then 1 else 0)
 | [],_,h=>by simp at h
 |t::X,0,h=>by
  simp only[ff,aA.injEq]at h;subst h;rw[eh,cJ,cJ];simp only[beq_iff_eq];lia
 |t::X,i+1,h=>by
  rw[fj,cJ,cJ];have:=BR (r':=r') (by simpa using h)
  lia
noncomputable def nL(C LL:Λ):Nat:=LL.length+C.count []
def UR{r L:Ϝ}(h:¬ L++r≠[]):r=[]/\L=[]:=by
 have:=Classical.not_not.mp h;rw[cQ]at this;exact⟨this.2,this.1⟩
def Ln.open(h:Ln C LL){r:Ϝ}(hi:C[i]?=some (r++L))e:∃t,Ln (C.set i (r++[e]++(-e::L))) t/\nL (C.set i (r++[e]++(-e::L))) t=nL C LL+1:=by
 have H:=BR (r':=r++[e]++(-e::L)) hi;have Q:r++[e]++(-e::L)≠[]:=by simp
 rw[pK Q]at H;have st:=λx y=>zI (r':=r++[e]++(-e::L)) (x,y) hi
 have u:=λq=>tq r L q
 have B:=λq=>tq (r++[e]++[-e]) L q
 have J:r++[e]++(-e::L)=(r++[e]++[-e])++L:=by simp
 by_cases E:L++r≠[]
 .obtain⟨l',a,M⟩:=uM E;obtain⟨f,I,O⟩:=vg E;have P:cp (L++r)=pp (L++r)++[(a,f)]:=sZ M O;have R:cp (L++(r++[e]++[-e]))=pp (L++r)++[(a,e),(e, -e),(-e,f)]:=by
   have S:L++(r++[e]++[-e])=(L++r)++[e, -e]:=by simp
   rw[S,sZ (l:=(L++r)++[e, -e]) (a:=-e) (h:=f) (l':=(L++r)++[e]) (l'':=I++[e, -e]) ⋯ (by rw[O];rfl),um M (r:=[e, -e]) rfl]
   simp[pp]
  have m:=h.mem (x:=a) (y:=f) (uv hi (bg.mp (by rw[u,P,cAq];simp)))
  obtain⟨t,l1,U,k⟩:=Fy e m h.ne;refine⟨[-e]::t,⟨λx y=>?_,λc n=>?_⟩,?_⟩
  .have s:=st (-x) y;rw[J,B,u,P,R]at s;have:=k x y;have n:=h.cnt x y;rw[qa,J];simp only[cAq,rO,bH,vc,bw]at s;have G:(cp [-e]).count (x,y)=ct (-e) (-e) x y:=rfl;rw[G];lia
  .rcases aa.mp n with rfl|n
   .simp
   .exact U c n
  .unfold nL;have X:r++L≠[]:=λq=>E (by rw[cQ]at q ⊢;exact⟨q.2,q.1⟩)
   rw[pK X]at H;rw[lCq];lia
 .obtain⟨hr,Y⟩:=UR E;subst hr;subst Y;refine⟨[e]::[-e]::LL,⟨λx y=>?_,λc n=>?_⟩,?_⟩
  .have s:=st (-x) y;have n:=h.cnt x y;rw[qa,qa];have G:∀z,(cp [z]).count (x,y)=ct z z x y:=λ_=>rfl
   have c3:(cp ([]++[e]++(-e::[]))).count (-x,y)=ct e (-e) (-x) y+ct (-e) e (-x) y:=by
    show[(e, -e),(-e,e)].count (-x,y)=_;rw[rO,ct_]
   have c4:(cp ([]++[])).count (-x,y)=0:=rfl;rw[c3,vc,vc,bw]at s;rw[G,G];lia
  .rcases aa.mp n with rfl|n
   .simp
   .rcases aa.mp n with rfl|n
    .simp
    .exact h.ne c n
  .unfold nL;rw[aNq,pO rfl]at H;rw[lCq,lCq];lia
def Ln.newp(h:Ln C LL)(hn:C.flatten.Nodup){r:Ϝ}(hi:C[i]?=some (r++L))(e:Int):∃n,Ln (C.set i (r++[e])++[-e::L]) n/\nL (C.set i (r++[e])++[-e::L]) n=nL C LL:=by
 have E:=BR (r':=r++[e]) hi;have n1:r++[e]≠[]:=by simp
 rw[pK n1]at E;have st:=λx y=>zI (r':=r++[e]) (x,y) hi
 have t:∀X,nL (C.set i (r++[e])++[-e::L]) X=X.length+(C.set i (r++[e])).count []:=λX=>by
  unfold nL;rw[cAq];rfl
 have pn:∀x y,(PC (C.set i (r++[e])++[-e::L])).count (x,y)=(PC (C.set i (r++[e]))).count (x,y)+(cp (-e::L)).count (x,y):=λx y=>by
  rw[xJ,qa];rfl
 by_cases hr:r=[]
 .subst hr
  by_cases B:L=[]
  .subst B;refine⟨[e, -e]::LL,⟨λx y=>?_,λc G=>?_⟩,?_⟩
   .have s:=st (-x) y;have G:=h.cnt x y;rw[qa,pn];have P:(cp [e, -e]).count (x,y)=ct e (-e) x y+ct (-e) e x y:=by
     show[(e, -e),(-e,e)].count (x,y)=_;rw[rO,ct_]
    have c3:(cp ([]++[e])).count (-x,y)=ct e e (-x) y:=rfl;have S:(cp [-e]).count (-x,y)=ct (-e) (-e) (-x) y:=rfl;have c4:(cp ([]++[]:Ϝ)).count (-x,y)=0:=rfl;rw[c3,c4]at s;rw[S,P];simp only[vc,bw]at s ⊢;lia
   .rcases aa.mp G with rfl|G
    .simp
    .exact h.ne c G
   .rw[t];unfold nL;rw[aNq,pO rfl]at E;rw[lCq];lia
  .obtain⟨Q,l,H⟩:=uM B;obtain⟨f,U,J⟩:=vg B;have u:cp L=pp L++[(l,f)]:=sZ H J;rw[cU]at hi;have m:=h.mem (x:=l) (y:=f) (uv hi (bg.mp (by rw[u,cAq];simp)))
   obtain⟨n,l1,M,I⟩:=ab5 (W:=[-e,e]) (W'':=[-e]) rfl rfl m h.ne;refine⟨n,⟨λx y=>?_,M⟩,?_⟩
   .have s:=st (-x) y;have G:=h.cnt x y;have k:=I x y;rw[pn];have Y:cp (-e::L)=(-e,f)::pp L++[(l, -e)]:=by
     rw[sZ (l:=-e::L) (a:=l) (h:=-e) (l':=-e::Q) (l'':=L) (by rw[H];rfl) rfl,show -e::L=[-e]++L from rfl,um (l:=[-e]) (l':=[]) rfl J]
     rfl
    have s:(PC (C.set i ([]++[e]))).count (-x,y)+(cp L).count (-x,y)=(PC C).count (-x,y)+ct e e (-x) y:=s;rw[u]at s;rw[Y];simp only[cAq,rO,bH,vc,bw,pp,eW]at s k ⊢;lia
   .rw[t];unfold nL;have E:(C.set i ([]++[e])).count []+(if L=[]then 1 else 0)=C.count []+0:=E
    rw[pK B]at E;lia
 .obtain⟨r',a,R⟩:=uM hr;obtain⟨g,O,eg⟩:=vg hr;have P:cp (r++[e])=pp r++[(a,e),(e,g)]:=by
   rw[sZ (l:=r++[e]) (a:=e) (h:=g) (l':=r) (l'':=O++[e]) rfl (by rw[eg];rfl),um R (r:=[e]) rfl]
   simp[pp]
  by_cases B:L=[]
  .subst B;have u:cp r=pp r++[(a,g)]:=sZ R eg;rw[aNq]at hi;have m:=h.mem (x:=a) (y:=g) (uv hi (bg.mp (by rw[u,cAq];simp)))
   obtain⟨n,l1,M,I⟩:=ab5 (W:=[e, -e]) (W'':=[e]) rfl rfl m h.ne;refine⟨n,⟨λx y=>?_,M⟩,?_⟩
   .have s:=st (-x) y;have G:=h.cnt x y;have k:=I x y;rw[pn];have S:(cp [-e]).count (-x,y)=ct (-e) (-e) (-x) y:=rfl;rw[aNq,u,P]at s;rw[S];simp only[cAq,rO,bH,vc,bw,pp]at s k ⊢;lia
   .rw[t];unfold nL;rw[aNq,pK hr]at E;lia
  .obtain⟨Q,l,H⟩:=uM B;obtain⟨f,U,J⟩:=vg B;have u:cp (r++L)=pp r++(a,f)::pp L++[(l,g)]:=by
    rw[sZ (l:=r++L) (a:=l) (h:=g) (l':=r++Q) (l'':=O++L) (by rw[H,ae]) (by rw[eg];rfl),um R J]
   have Y:cp (-e::L)=(-e,f)::pp L++[(l, -e)]:=by
    rw[sZ (l:=-e::L) (a:=l) (h:=-e) (l':=-e::Q) (l'':=L) (by rw[H];rfl) rfl,show -e::L=[-e]++L from rfl,um (l:=[-e]) (l':=[]) rfl J]
    rfl
   have m:=h.mem (x:=a) (y:=f) (uv hi (by rw[u];simp))
   have m':=h.mem (x:=l) (y:=g) (uv hi (by rw[u];simp))
   obtain⟨L1,l1,M,I⟩:=Fy e m h.ne;have al:a≠l:=λq=>by
    have:=hn.sublist (aT (mGq hi));have:=(nAq.mp this).2.2 a (by rw[R];simp) l (by rw[H];simp)
    exact this q
   have m1:(-l,g)∈PC L1:=vb.mpr (by
    have k:=I (-l) g;have z:ct (-a) f (-l) g=0:=by
     unfold ct;rw[dG];intro q;have:=mSq.mp q;rw[Prod.mk.injEq]at this;exact al ∅
    have:=vb.mp m';lia)
   obtain⟨L2,l2,n3,k2⟩:=Fy (-e) m1 M;refine⟨L2,⟨λx y=>?_,n3⟩,?_⟩
   .have s:=st (-x) y;have G:=h.cnt x y;have k:=I x y;have k':=k2 x y;rw[pn];rw[u,P]at s;rw[Y];simp only[cAq,rO,bH,vc,bw,eW]at s k k' ⊢;lia
   .rw[t];unfold nL;rw[pK (by simp[hr])]at E
    lia
end
end K18
namespace K18
open PySem L2 Mr Z Xe Zl K15 K16
theorem Ak:∀{l:List (Int×Int)},(l.map (·.2)).Nodup->∀{p q},p∈l->q∈l->p.2=q.2->p=q
 | [],_,_,_,h,_,_=>by cases h
 |w::l,h,x,y,E,u,e=>by
  obtain⟨z,G⟩:=aq.mp h;rcases aa.mp E with B|s
  .rcases aa.mp u with t|n
   .rw[B,t]
   .rw[B]at e;exact absurd (mMq.mpr ⟨y,n,e.symm⟩) z
  .rcases aa.mp u with t|n
   .rw[t]at e;exact absurd (mMq.mpr ⟨x,s,e⟩) z
   .exact Ak G s n e
def XT(h:(x,y)∈cp r):∃j,r[j]?=some x/\r[(j+1) % r.length]?=some y:=by
 cases r with
 |nil=>cases h
 |cons a r=>
  have key:∀{l:Ϝ},(x,y)∈pp l->∃j,l[j]?=some x/\l[j+1]?=some y:=by
   intro l
   induction l with
   |nil=>intro h;cases h
   |cons b l t=>
    cases l with
    |nil=>intro h;cases h
    |cons c l=>
     intro h;rcases aa.mp (show(x,y)∈(b,c)::pp (c::l)from h)with e|h
     .cases e;exact⟨0,rfl,rfl⟩
     .obtain⟨j,s,n⟩:=t h;exact⟨j+1,by simpa using s,by simpa using n⟩
  obtain⟨j,s,n⟩:=key (show(x,y)∈pp (a::r++[a])from h)
  have lt:=(gSq.mp n).1;rw[lAq,lSq]at lt;refine⟨j,?_,?_⟩
  .rw[gZq ∅]at s
   exact s
  .by_cases c:j+1<(a::r).length
   .rw[gZq c]at n;rw[cP c];exact n
   .have e:j+1=(a::r).length:=by lia
    rw[e,gYq (af _),dA]at n;rw[e,dU];exact n
def Ce(hn:X.flatten.Nodup)(h:(x,y)∈PC X):nx X x=y:=by
 obtain⟨r,hr,q⟩:=bf.mp h;obtain⟨j,l,n⟩:=XT q;exact FE hn hr l n
def Ln.flat(h:Ln C LL)(hneg:∀e∈C.flatten, -e∈C.flatten)(hn:C.flatten.Nodup):LL.flatten.Perm C.flatten:=by
 have n:=FC LL;have s:=FC C;refine n.symm.trans (aE.trans ?_ s);have:(PC LL).Perm ((PC C).map λq=>(-q.1,q.2)):=by
  refine dX.mpr λq=>?_
  obtain⟨x,y⟩:=q;rw[h.cnt];generalize PC C=l
  induction l with
  |nil=>rfl
  |cons p l t=>
   obtain⟨u,v⟩:=p;rw[aw,rO,rO,t,vc]
 refine(this.map (·.2)).trans ?_;rw[mPq];exact .refl _
def Ln.orb(h:Ln C LL)(mp:Mp C):CK (fw C) C.flatten LL:=by
 have s:=h.flat mp.hneg mp.hn;have nd:=s.nodup_iff.mpr mp.hn;have eq:∀x∈LL.flatten,nx LL x=fw C x:=λx t=>by
  rw[←FB LL]at t;obtain⟨⟨u,v⟩,z,rfl⟩:=mMq.mp t;have q:(-u,v)∈PC C:=by
   rw[vb,←h.cnt];exact vb.mp z
  show nx LL u=nx C (-u);rw[Ce nd z,Ce mp.hn q]
 refine⟨λl hl=>?_,nd,λx=>s.mem_iff⟩
 obtain⟨a,G,B⟩:=vg (h.ne l hl);have cy:=LS nd hl (show l[0]?=some a by rw[B];rfl)
 have ha:a∈LL.flatten:=mFq.mpr ⟨l,hl,by rw[B];exact ah ..⟩
 have same:∀n,itr (nx LL) n a=itr (fw C) n a:=λn=>by
  induction n with
  |zero=>rfl
  |succ n E=>
   show nx LL (itr (nx LL) n a)=fw C (itr (fw C) n a);rw[←E];exact eq _ ((QF nd).itr_mem ha n)
 refine⟨a,cy.len,?_,?_,cy.nd⟩
 .have:=cy.get;rw[mCq λn _=>same n]at this
  exact this
 .rw[←same];exact cy.back
def U2 C:(tu C).length=C.count []:=by
 unfold tu;rw[lMq,List.count_eq_countP,dY];congr 1;refine jk λr _=>?_
 cases r <;> rfl
def Ln.lands(h:Ln C LL)(mp:Mp C):∃G:Λ,K15.qD [dM C]=some (.ow (G.map aI))/\G.length=nL C LL:=by
 obtain⟨L,o,e⟩:=vi mp;refine⟨_,e,?_⟩;have p:=(CK.perm (tI mp) o (h.orb mp)).length_eq;rw[lMq,lMq]at p;rw[qB,lMq,lAq,U2,p];unfold nL;lia
end K18
namespace K23
open PySem L2 Mr Z Xe Zl
noncomputable def ade(z:Int)(t:Ϝ):Ϝ:=t.filter λe=>!decide (e∈[z, -z])
def C(z:Int)(rs:Λ):Λ:=rs.map (ade z)
end K23
namespace K25
open PySem L2 Mr Z Xe Zl K15 K16
def Rt(rs:Λ)(x:Int)(w:Ϝ):Prop:=∃u v,u++x::v∈rs/\w=v++u
def Rt.of(h:x∈rs.flatten):∃w,Rt rs x w:=by
 obtain⟨r,hr,l⟩:=mFq.mp h;obtain⟨u,v,rfl⟩:=bS l;exact⟨v++u,u,v,hr,rfl⟩
def Rt.mem(h:Rt rs x w):x∈rs.flatten:=by
 obtain⟨u,v,hr,_⟩:=h;exact mFq.mpr ⟨_,hr,by simp⟩
def Rt.row(h:Rt rs x w):∃r∈rs,∀y,y∈r↔y∈x::w:=by
 obtain⟨u,v,hr,rfl⟩:=h;exact⟨_,hr,λy=>(aG (l₁:=x::v) (l₂:=u)).symm.mem_iff⟩
def Rt.to(hn:rs.flatten.Nodup)(h:Rt rs x w):nx rs x=w.headD x:=by
 obtain⟨u,v,hr,rfl⟩:=h;refine FE hn hr (j:=u.length) ⋯ ?_
 cases v with
 |nil=>
  rw[show(u++[x]).length=u.length+1 by simp,dU]
  cases u <;> rfl
 |cons y v=>
  rw[cP ⋯]
  simp
def Rt.step{w:Ϝ}(h:Rt rs x (a::w)):Rt rs a (w++[x]):=by
 obtain⟨u,v,hr,e⟩:=h;cases v with
 |nil=>
  rw[cU]at e;subst e;exact⟨[],w++[x],hr,by simp⟩
 |cons y v=>
  obtain⟨rfl,rfl⟩:=ji.inj e;exact⟨u++[x],v,by simpa using hr,by simp⟩
noncomputable def pz(z e:Int):Bool:=!decide (e∈[z, -z])
def trg(z:Int)(f:Int->Int)(x:Int):Int:=if pz z (f x)=true then f x else if pz z (f (-f x))=true then f (-f x)else f (-f (-f x))
structure Due (rs:Λ)(z:Int)(D:Λ):Prop where
 nd:D.flatten.Nodup
 mem:∀x,x∈D.flatten↔x∈rs.flatten/\pz z x=true
 on:∀x∈D.flatten,nx D x=trg z (nx rs) x
 br:bare D=bare rs+((if nx rs (-z)=z then 1 else 0)+(if nx rs z = -z then 1 else 0)+(if nx rs (-z) = -z/\nx rs z=z then 1 else 0))
 len:D.length<=rs.length+2
def IV rs:bare rs=rs.count []:=by
 unfold bare;congr 1;funext r;cases r <;> rfl
def QS rs:(tu rs).flatten=[]:=by
 refine fg.mpr λl hl=>?_
 obtain⟨x,_,rfl⟩:=mMq.mp hl;rfl
def WV(z:Mp rs):∃M:Λ,qD [dM rs]=some (.ow (M.map aI))/\M.flatten.Perm rs.flatten/\bare M=bare rs/\M.length<=rs.length+rs.flatten.length/\∀x∈M.flatten,nx M x=fw rs x:=by
 obtain⟨L,u,O⟩:=vi z;have I:=(aL u.dj z.hn).mpr u.all;have n:∀l∈L,1<=l.length:=λl hl=>by obtain⟨e,c⟩:=u.cy l hl;exact c.len
 have B:=E6 n;rw[I.length_eq]at B;have E:(tu rs++L).flatten=L.flatten:=by rw[fAq,QS,cU]
 have J:(srt ((tu rs++L).map good)).flatten.Perm rs.flatten:=by
  refine(pI (pV _)).trans ((qj qJ _).trans ?_);rw[E];exact I
 have s:(srt ((tu rs++L).map good)).count []=rs.count []:=by
  rw[(pV _).count_eq,mBq,cAq,Ee n,vZ,eF,show good []=[]from rfl,iq]
  rfl
 have G:(srt ((tu rs++L).map good)).length<=rs.length+rs.flatten.length:=by
  have:=Br rs;rw[qB,lMq,lAq];lia
 have t:∀l∈srt ((tu rs++L).map good),l=[]∨∃e,Cy (fw rs) e l:=λl hl=>by
  obtain⟨m,H,rfl⟩:=mMq.mp ((pV _).mem_iff.mp hl);rcases mAq.mp H with q|q
  .left;obtain⟨x,_,rfl⟩:=mMq.mp q;rfl
  .right;obtain⟨e,c⟩:=u.cy m q;exact Hh c
 refine⟨_,O,J,by rw[IV,IV,s],G,λx P=>SV (J.nodup_iff.mpr z.hn) t P⟩
end K25
namespace K43
open PySem L2 Mr Z Xe Zl
open K51 (tZ Ps Pc)
section
variable {B:Λ}
def vz(h:Mp rs):K51.Mp rs:=⟨h.hn,h.hl,h.hr,h.hneg⟩
structure Ind (rs:Λ)(l:Θ):Prop where
 lt:∀k∈l,k<rs.length
 pw:l.Pairwise λa b=>¬ tZ rs a b
noncomputable def emp(B:Λ):Θ:=(aF B.length).filter λk=>decide (B.getD k []=[])
def qm(h:k<B.length):B[k]?=some (B.getD k []):=by rw[gDq,gEg h];rfl
def rW(B:Λ):(aF B.length).map (λk=>B.getD k [])=B:=by
 refine cS λi=>?_
 rw[gMq]
 by_cases h:i<B.length
 .rw[cj h,qm h];rfl
 .rw[aO (by rw[aB];lia),aO ∅]
  rfl
end
end K43
namespace K11
open PySem L2 Mr Z Xe Zl K12
def DF(p:Λ):Prop:=∀k,0<k->k<p.length->∃j e,j<k/\e∈p.getD j []/\-e∈p.getD k []
structure Cn (p:Λ):Prop where
 ne:p≠[]
 clo:∀z∈p.flatten, -z∈p.flatten
 tr:DF p
def B0{l:Λ}{r x:Ϝ}(hr:l[h]?=some r)(n:e∈l.getD k []):e∈(l.set h (r++x)).getD k []:=by
 rw[gDq]at n ⊢
 by_cases q:h=k
 .subst q;have s:=(gSq.mp hr).1;rw[aW s];rw[hr]at n;exact ao _ n
 .rw[aC q];exact n
def Hc{l:Λ}{r x:Ϝ}(hr:l[h]?=some r)(s:e∈x):e∈(l.set h (r++x)).getD h []:=by
 have n:=(gSq.mp hr).1;rw[gDq,aW n];exact aj _ s
theorem DF.set{r x:Ϝ}(t:DF l)(hr:l[h]?=some r):DF (l.set h (r++x)):=λk n hk=>by
 rw[lZq]at hk;obtain⟨j,e,s,u,z⟩:=t k n hk;exact⟨j,e,s,B0 hr u,B0 hr z⟩
def getD_app{l:Λ}{x:Ϝ}(h:k<l.length):(l++[x]).getD k []=l.getD k []:=by
 rw[gDq,gDq,gZq h]
def DF.add(t:DF l)(hh:h<l.length)(n:e∈l.getD h []):DF (l++[[-e]]):=λk s hk=>by
 rw[lAq,lSq]at hk
 by_cases q:k<l.length
 .obtain⟨j,u,x,z,B⟩:=t k s q;exact⟨j,u,x,by rw[getD_app ∅];exact z,by rw[getD_app q];exact B⟩
 .have E:k=l.length:=by lia
  subst E;exact⟨h,e,hh,by rw[getD_app hh];exact n,by simp⟩
def UB(r:Ϝ):DF [r]:=λk l hk=>by
 rw[lSq]at hk;lia
end K11
namespace K31
open PySem L2 Mr Z Xe Zl K12
def BJ{T:Λ}{r:Ϝ}(hr:T[h]?=some r):qH (.ow (T.map aI)) [h]=some (r.map λn=>.sh (.int n)):=by
 rw[Jq,gMq,hr];rfl
def Sg{T:Λ}{r r':Ϝ}(hr:T[h]?=some r):putAt (.ow (T.map aI)) [h] (r'.map λn=>.sh (.int n)) = .ow ((T.set h r').map aI):=by
 rw[LU (by rw[gMq,hr];rfl)]
 show AV.ow ((T.map aI).set h (aI r'))=_;rw[Ru]
structure Wd where
 T:Λ
 t0:Θ
 h:Nat
 loose:Ϝ
 left:Ϝ
noncomputable def atL(l:Bool)(c:Int)(loose:Ϝ):Nat:=if l then (c / 8 % loose.length).toNat else loose.length-1
noncomputable def sg(c x:Int):Int:=x*(1-2*(c / 4 % 2))
def adZ(l:Bool)(w:Wd)(c:Int):Wd:=
 let r:=w.T.getD w.h []
 if c % 4=1/\w.t0≠[]then { w with t0:=w.t0.dropLast,h:=w.t0.getLast?.getD 0 }
 else if c % 4=2/\w.loose≠[]then { w with T:=w.T.set w.h (r++[w.loose.getD (atL l c w.loose) 0]),loose:=w.loose.eraseIdx (atL l c w.loose) }
 else match w.left with
  | []=>w
  |x::left=>if c % 4=0 then { w with T:=w.T.set w.h (r++[sg c x])++[[-(sg c x)]],t0:=w.t0++[w.h],h:=w.T.length,left:=left }
   else { w with T:=w.T.set w.h (r++[sg c x]),loose:=w.loose++[-(sg c x)],left:=left }
def st(v0 v1:Option AV)(l:Bool)(w:Wd)(v7 v8 v9 v10:Option AV):AS:=[v0,v1,i4 l,some (.ow (w.T.map aI)),some (aI (cN (w.t0++[w.h]))),some (aI w.loose),some (aI w.left),v7,v8,v9,v10]
def EK l:(cN l).length=l.length:=lMq ..
noncomputable def zD(l:Ϝ):Ϝ:=l.flatMap λx=>[x, -x]
def Eo x(l:Ϝ)a:(zD (x::l)).count a=[x, -x].count a+(zD l).count a:=by
 unfold zD;rw[bO,cAq]
theorem bth_len:∀l:Ϝ,(zD l).length=2*l.length
 | []=>rfl
 |x::l=>by
  unfold zD;have:=bth_len l;unfold zD at this;rw[bO,lAq,this];show 2+2*l.length=2*(l.length+1);lia
structure UU (nm:Ϝ)(w:Wd)(n:Nat):Prop where
 hh:w.h<w.T.length
 ht:∀k∈w.t0,k<w.T.length
 lw:w.t0.length<=n
 lT:w.T.length<=n+1
 lf:w.left.length<=nm.length
 cnt:∀a,w.T.flatten.count a+w.loose.count a+(zD w.left).count a=(zD nm).count a
 tr:K11.DF w.T
def UU.len(h:UU nm w n):w.T.flatten.length+w.loose.length+(zD w.left).length=2*nm.length:=by
 have:(w.T.flatten++w.loose++zD w.left).Perm (zD nm):=by
  rw[dX];intro a;rw[cAq,cAq];exact h.cnt a
 have:=this.length_eq;rw[lAq,lAq,bth_len nm]at this;exact this
noncomputable def w0(nm:Ϝ):Wd:=⟨[[]],[],0,[],nm⟩
def ab4 nm:UU nm (w0 nm) 0:=⟨by simp[w0],(λk h=>by cases h),af _,af _,af _,(λa=>by simp[w0]),K11.UB _⟩
end K31
namespace K31
open PySem L2 Mr Z Xe Zl
structure Nm (nm:Ϝ):Prop where
 len:nm.length<=100
 nd:nm.Nodup
 lo:∀x∈nm,1<=x
structure Wm (nm:Ϝ)(T:Λ):Prop where
 cnt:∃left,∀a,T.flatten.count a+(zD left).count a=(zD nm).count a
 tr:K11.DF T
 pos:0<T.length
 len:T.length<=64
def Gb(h:Nm nm):(zD nm).Nodup:=K12.pm_nodup h.nd h.lo
def Nw(l)a:(zD l).count (-a)=(zD l).count a:=by
 induction l with
 |nil=>rfl
 |cons x l t=>
  rw[Eo,Eo];rw[show[x, -x]=[x]++[-x]from rfl,cAq,cAq]
  simp only[List.count_singleton];have n:(x == -a)=(-x == a):=by rw[cE];simp <;> lia
  have s:(-x == -a)=(x == a):=by rw[cE];simp <;> lia
  rw[n,s];lia
def Wm.nodup(hn:Nm nm)(h:Wm nm T):T.flatten.Nodup:=by
 obtain⟨left,l⟩:=h.cnt;rw[fK];intro a;have n:=fK.mp (Gb hn) a;have:=l a;lia
def Wm.neg(hn:Nm nm)(h:Wm nm T)(hz:z∈T.flatten):-z∈T.flatten:=by
 obtain⟨left,l⟩:=h.cnt;have s:=bg.mpr hz;have t:=l z;have n:=l (-z);rw[Nw,Nw]at n;exact bg.mp ∅
def Wm.le(h:Wm nm T):T.flatten.length<=2*nm.length:=by
 obtain⟨left,l⟩:=h.cnt;have:(T.flatten++zD left).Perm (zD nm):=by
  rw[dX];intro a;rw[cAq];exact l a
 have:=this.length_eq;rw[lAq,bth_len nm]at this;lia
abbrev gm:=K12.gm
def WW T:(gm T).flatten.Perm T.flatten:=(pI (K12.DW T)).trans (qj qJ T)
def Ze T:(gm T).length=T.length:=by rw[(K12.DW T).length_eq,lMq]
def acV(rs:Λ):Prop:=∀P:Nat->Prop,(∃s,s<rs.length/\P s)->(∀(p:Nat) (r:Ϝ) x,rs[p]?=some r->x∈r->P p->P (plc rs (-x)))->∀q,q<rs.length->P q
def RA(n:Mp (gm T)){r:Ϝ}(hr:r∈T):∃p,(gm T)[p]?=some (good r)/\∀x∈r,plc (gm T) x=p:=by
 have s:=(K12.DW T).mem_iff.mpr (mMq.mpr ⟨r,hr,rfl⟩);obtain⟨p,l⟩:=ay.mp s;exact⟨p,l,λx t=>plc_eq n.hn l ((qJ r).mem_iff.mpr t)⟩
def OM(M:Mp (gm T))(U:0<T.length)(tr:K11.DF T):acV (gm T):=by
 intro P ⟨s,hs,X⟩ hc q H
 by_cases h1:T.length=1
 .rw[Ze]at hs H;have:q=s:=by lia
  rw[this];exact X
 have E:∀k,k<T.length->∃z,z∈T.getD k []:=λk hk=>by
  by_cases n:k=0
  .subst n;obtain⟨j,e,I,a,b⟩:=tr 1 ∅ ∅
   have:j=0:=by lia
   subst this;exact⟨e,a⟩
  .obtain⟨j,e,I,a,b⟩:=tr k ∅ hk
   exact⟨_,b⟩
 have u:∀k,k<T.length->T.getD k []∈T:=λk hk=>by
  rw[gDq,gEg hk];exact gRq hk
 have x:∀k,k<T.length->∀z,z∈T.getD k []->z∈(gm T).flatten:=λk hk z l=>(WW T).mem_iff.mpr (mFq.mpr ⟨_,u k hk,l⟩)
 have same:∀k,k<T.length->∀z w,z∈T.getD k []->w∈T.getD k []->P (plc (gm T) z)->P (plc (gm T) w):=λk hk z w l hw L=>by
  obtain⟨p,_,J⟩:=RA M (u k hk);rw[J w hw];rw[J z l]at L;exact L
 have t:∀z,z∈(gm T).flatten->P (plc (gm T) z)->P (plc (gm T) (-z)):=λz l L=>by
  obtain⟨r,hr,hx⟩:=M.at l;exact hc _ r z hr hx L
 have down:(∀z,z∈T.getD 0 []->P (plc (gm T) z))->∀k,k<T.length->∀z,z∈T.getD k []->P (plc (gm T) z):=λh0 k=>by
  induction k using fS with
  |ind k O=>
   intro hk z l
   by_cases n:k=0
   .subst n;exact h0 z l
   .obtain⟨j,e,I,a,b⟩:=tr k ∅ hk
    exact same k hk _ z b l (t e (x j ∅ e a) (O j I ∅ e a))
 have up:∀k,k<T.length->(∀z,z∈T.getD k []->P (plc (gm T) z))->∀z,z∈T.getD 0 []->P (plc (gm T) z):=λk=>by
  induction k using fS with
  |ind k O=>
   intro hk l
   by_cases n:k=0
   .subst n;exact l
   .obtain⟨j,e,I,a,b⟩:=tr k ∅ hk
    have Y:=t (-e) (x k hk _ b) (l _ b);rw[bw]at Y;exact O j I ∅ λz G=>same j ∅ e z a G Y
 have B:∀q,q<(gm T).length->∃k,k<T.length/\∃z,z∈T.getD k []/\plc (gm T) z=q:=λq H=>by
  have hr:=gEg H;obtain⟨r,Q,e⟩:=mMq.mp ((K12.DW T).mem_iff.mp (gRq H));obtain⟨k,hk,e2⟩:=cZ.mp Q;have e3:T.getD k []=r:=by rw[gDq,gEg hk,e2];rfl
  obtain⟨z,l⟩:=E k hk;refine⟨k,hk,z,l,plc_eq M.hn hr ?_⟩;rw[←e];exact(qJ r).mem_iff.mpr (e3 ▸ l)
 obtain⟨k,hk,z,l,ez⟩:=B s hs;have z0:=up k hk λw hw=>same k hk z w l hw (by rw[ez];exact X)
 obtain⟨k',R,z',G,S⟩:=B q H;have:=down z0 k' R z' G;rw[S]at this;exact this
end K31
namespace K31
open PySem L2 Mr Z Xe Zl
open K12 (nmk)
def nmN(st sh a b:Int)(n:Nat):Ϝ:=(aF n).map λk:Nat=>nmk st sh a b k
end K31
namespace K43
open PySem L2 Mr Z Xe Zl
open K51 (tZ Ps Pc)
def isB(M:Λ)(z:Int):Bool:=@decide (¬ tZ (K23.C z M) (plc M z) (plc M (-z))) (fc _)
def rds(M:Λ):Ϝ:=(sk M.flatten).filter λz=>decide (0<z)
end K43
namespace K46
open PySem L2 Mr Z Xe Zl
open K18 (pp cp PC um sZ uM vg tq FC qa xJ zI ct vc ct_ rO vb Ln nL uv BR Ak)
def TQ(n:x∈c)(s:y∈c)(ne:x≠y):∃X Y:Ϝ,(∀q,(cp (x::X++y::Y)).count q=(cp c).count q):=by
 obtain⟨a,b,rfl⟩:=bS n;have t:=λq=>tq a (x::b) q
 have l:y∈b++a:=by
  rcases mAq.mp s with h|h
  .exact aj _ h
  .rcases aa.mp h with h|h
   .exact absurd h.symm ne
   .exact ao _ h
 obtain⟨X,Y,e⟩:=bS l;refine⟨X,Y,λq=>?_⟩
 rw[t q];show(cp (x::X++y::Y)).count q=(cp (x::(b++a))).count q;rw[e];rfl
def AU(A B:Ϝ)x y:∃s t:Int,(∀u v,(cp (x::A++y::B)).count (u,v)=(pp (x::A)).count (u,v)+(pp (y::B)).count (u,v)+ct s y u v+ct t x u v)/\(∀u v,(cp (x::A)).count (u,v)=(pp (x::A)).count (u,v)+ct s x u v)/\∀u v,(cp (y::B)).count (u,v)=(pp (y::B)).count (u,v)+ct t y u v:=by
 obtain⟨E,s,n⟩:=uM (show x::A≠[] by simp)
 obtain⟨G,t,z⟩:=uM (show y::B≠[] by simp)
 refine⟨s,t,λu v=>?_,λu v=>?_,λu v=>?_⟩
 .rw[sZ (l:=x::A++y::B) (by rw[z,ae]) rfl,um n rfl]
  simp only[cAq,rO,bH];lia
 .rw[sZ n rfl];simp only[cAq,rO,bH];lia
 .rw[sZ z rfl];simp only[cAq,rO,bH];lia
def uI u v:ct u v u v=1:=by unfold ct;simp
def Ln.split(h:Ln C LL)(hn:C.flatten.Nodup)(hneg:∀e∈C.flatten, -e∈C.flatten){r A B:Ϝ}(hi:C[i]?=some r)(hr:∀q,(cp (x::A++y::B)).count q=(cp r).count q)(ne:x≠y){c:Ϝ}(M:c∈LL)(P:x∈c)(Q:y∈c):∃n,Ln (C.set i (x::A)++[y::B]) n/\nL (C.set i (x::A)++[y::B]) n=nL C LL+1:=by
 obtain⟨s,t,G,R,S⟩:=AU A B x y;obtain⟨X,Y,H⟩:=TQ P Q ne;obtain⟨l,I,J,U,m3⟩:=AU X Y x y;obtain⟨j,hj⟩:=ay.mp M;have nd:((PC C).map (·.2)).Nodup:=(FC C).nodup_iff.mpr hn;have z:∀{u v:Int},0<(cp r).count (u,v)->(u,v)∈PC C:=λq=>uv hi (bg.mp q)
 have q1:(s,y)∈PC C:=z (by rw[←hr,G];have:=uI s y;lia)
 have q2:(t,x)∈PC C:=z (by rw[←hr,G];have:=uI t x;lia)
 have E:∀{u v:Int},0<(cp c).count (u,v)->(-u,v)∈PC C:=λ{u v} q=>by
  have:(u,v)∈PC LL:=bf.mpr ⟨c,M,bg.mp q⟩;rw[vb,←h.cnt];exact vb.mp this
 have q3:(-l,y)∈PC C:=E (by rw[←H,J];have:=uI l y;lia)
 have q4:(-I,x)∈PC C:=E (by rw[←H,J];have:=uI I x;lia)
 have es:s = -l:=congrArg (·.1) (Ak nd q1 q3 rfl);have et:t = -I:=congrArg (·.1) (Ak nd q2 q4 rfl);subst es;subst et;have L:r≠[]:=λq=>by
  subst q;have:=hr (-l,y);rw[G]at this;have:=uI (-l) y;have e0:(cp ([])).count (-l,y)=0:=rfl;lia
 have cs:=BR (r':=x::A) hi;rw[pK L,pK ⋯]at cs
 refine⟨LL.set j (x::X)++[y::Y],⟨λu v=>?_,λd hd=>?_⟩,?_⟩
 .have a1:=zI (r':=x::X) (u,v) hj;have O:=zI (r':=x::A) (-u,v) hi;have a3:=h.cnt u v;rw[xJ,xJ,qa,qa];have z1:(PC ([])).count (u,v)=0:=rfl;have z2:(PC ([])).count (-u,v)=0:=rfl;rw[←H,J,U]at a1;rw[←hr,G,R]at O;rw[m3,S];simp only[vc,bw]at O ⊢;lia
 .rcases mAq.mp hd with hd|hd
  .rcases eK hd with q|q
   .exact h.ne d q
   .rw[q];simp
  .rw[mSq.mp hd];simp
 .unfold nL;rw[cAq,lAq,lZq];have:([y::B]).count []=0:=by simp
  show _+1+_=_;lia
end K46
namespace K18
open PySem L2 Mr Z Xe Zl
open K15 (nx fw tI Rd ED)
open K43 (vz isB emp)
open K46 (TQ AU uI)
open K51 (tZ Ps)
def VT(one:JZ f E):∃L,CK f E L:=by
 have key:∀n,∃kn L,Rd f E kn L/\∀x∈E.take n,x∈kn:=by
  intro n
  induction n with
  |zero=>exact⟨[],[],⟨by simp,rfl,bb,by simp,by simp⟩,by simp⟩
  |succ n z=>
   obtain⟨kn,L,rd,h⟩:=z;cases t:E[n]? with
   |none=>
    rw[bG,t];exact⟨kn,L,rd,by simpa using h⟩
   |some e=>
    have s:=mGq t;rw[qt t]
    by_cases c:e∈kn
    .refine⟨kn,L,rd,λx u=>?_⟩
     rcases mAq.mp u with q|q
     .exact h x q
     .rw[mSq.mp q];exact c
    .obtain⟨l,cy,_⟩:=one.cy s;refine⟨kn++l,L++[l],rd.add one cy s c,λx u=>?_⟩
     rcases mAq.mp u with q|q
     .exact ao _ (h x q)
     .rw[mSq.mp q];exact aj _ cy.self
 obtain⟨kn,L,rd,h⟩:=key E.length;rw[aK]at h;exact⟨L,rd.orb h⟩
def aak(hn:C.flatten.Nodup):(u,y)∈PC C↔u∈C.flatten/\y=nx C u:=by
 constructor
 .intro h;refine⟨?_,(Ce hn h).symm⟩;rw[←FB C];exact mMq.mpr ⟨_,h,rfl⟩
 .rintro⟨h,rfl⟩;rw[←FB C]at h;obtain⟨⟨a,b⟩,l,rfl⟩:=mMq.mp h;rw[Ce hn l];exact l
def ZG(o:CK f E L):(x,y)∈PC L↔x∈E/\y=f x:=by
 have to:∀{x y:Int},(x,y)∈PC L->x∈E/\y=f x:=λ{x y} h=>by
  obtain⟨l,hl,q⟩:=bf.mp h;obtain⟨e,c⟩:=o.cy l hl;obtain⟨j,n,t⟩:=XT q;have u:=(gSq.mp n).1;refine⟨(o.all x).mp (mFq.mpr ⟨l,hl,mGq n⟩),?_⟩;rw[c.at u]at n;have ex:=aA.inj n
  by_cases s:j+1<l.length
  .rw[cP s,c.at s]at t;rw[←ex];exact(aA.inj t).symm
  .have B:j+1=l.length:=by lia
   rw[B,dU,c.at ∅]at t
   have:=c.back;rw[←B]at this;rw[←ex,←aA.inj t];exact this.symm
 constructor
 .exact to
 .rintro⟨h,rfl⟩;have:x∈(PC L).map (·.1):=by rw[FB];exact(o.all x).mpr h
  obtain⟨⟨a,b⟩,G,rfl⟩:=mMq.mp this;rw[← (to G).2];exact G
def X4{A B:List (Int×Int)}(l:A.Nodup)(n:B.Nodup)(h:p∈A↔q∈B):A.count p=B.count q:=by
 by_cases c:p∈A
 .have s:=fK.mp l p;have t:=fK.mp n q;have b1:=bg.mpr c;have b2:=bg.mpr (h.mp c);lia
 .rw[dG.mpr c,dG.mpr λz=>c (h.mpr z)]
def Xt(hn:C.flatten.Nodup):(PC C).Nodup:=by
 have:((PC C).map (·.1)).Nodup:=by rw[FB];exact hn
 exact bu.of_map (·.1) (λa b h q=>h (by rw[q])) this
def Z4(mp:Mp C)(o:CK (fw C) C.flatten L):Ln C L:=by
 refine⟨λx y=>X4 (Xt o.dj) (Xt mp.hn) ?_,λc l q=>?_⟩
 .rw[ZG o,aak mp.hn];constructor
  .exact λh=>⟨mp.hneg x h.1,h.2⟩
  .rintro⟨n,s⟩;have:=mp.hneg _ n;rw[bw]at this;exact⟨this,s⟩
 .obtain⟨e,cy⟩:=o.cy c l;have:=cy.len;rw[q]at this;simp at this
def yV(mp:Mp C):∃LL,Ln C LL:=by
 obtain⟨L,o⟩:=VT (tI mp);exact⟨L,Z4 mp o⟩
def Ln.one(mp:Mp C)(h:Ln C LL)(h':Ln C l):nL C LL=nL C l:=by
 have p:=(CK.perm (tI mp) (h.orb mp) (h'.orb mp)).length_eq;rw[lMq,lMq]at p;unfold nL;rw[p]
def Ln.congr(h:Ln C LL)(e:∀q,(PC l).count q=(PC C).count q):Ln l LL:=⟨λx y=>by rw[e];exact h.cnt x y,h.ne⟩
def Ln.join{A B c G:Ϝ}{R:Λ}(h:Ln ((x::A++y::B)::R) LL)(hn:((x::A++y::B)::R).flatten.Nodup)(J:c∈LL)(n:G∈LL)(ne:c≠G)(L:x∈c)(hy:y∈G):∃E,Ln ((x::A)::(y::B)::R) E/\nL ((x::A)::(y::B)::R) E+1=nL ((x::A++y::B)::R) LL/\∃d∈E,x∈d/\y∈d:=by
 obtain⟨s,t,M,k2,k3⟩:=AU A B x y;have rot:∀{c:Ϝ}{x:Int},x∈c->∃X:Ϝ,∀q,(cp (x::X)).count q=(cp c).count q:=λ{c x} L=>by
  obtain⟨a,b,rfl⟩:=bS L;exact⟨b++a,λq=>(tq a (x::b) q).symm⟩
 obtain⟨X,S⟩:=rot L;obtain⟨Y,U⟩:=rot hy;obtain⟨s',t',m1,m2,m3⟩:=AU X Y x y;have nd:((PC ((x::A++y::B)::R)).map (·.2)).Nodup:=(FC _).nodup_iff.mpr hn;have H:∀{u v:Int},0<(cp (x::A++y::B)).count (u,v)->(u,v)∈PC ((x::A++y::B)::R):=λq=>uv (i:=0) rfl (bg.mp q)
 have q1:=H (u:=s) (v:=y) (by rw[M];have:=uI s y;lia)
 have q2:=H (u:=t) (v:=x) (by rw[M];have:=uI t x;lia)
 have I:∀{c:Ϝ}{u v:Int},c∈LL->0<(cp c).count (u,v)->(-u,v)∈PC ((x::A++y::B)::R):=λ{c u v} J q=>by
  have:(u,v)∈PC LL:=bf.mpr ⟨c,J,bg.mp q⟩;rw[vb,←h.cnt];exact vb.mp this
 have q3:=I J (u:=s') (v:=x) (by rw[←S,m2];have:=uI s' x;lia)
 have q4:=I n (u:=t') (v:=y) (by rw[←U,m3];have:=uI t' y;lia)
 have es:=congrArg (·.1) (Ak nd q2 q3 rfl);have et:=congrArg (·.1) (Ak nd q1 q4 rfl);subst es;subst et;obtain⟨l1,l2,e1⟩:=bS J;have O:G∈l1++l2:=by
  rw[e1]at n;rcases mAq.mp n with q|q
  .exact ao _ q
  .rcases aa.mp q with q|q
   .exact absurd q.symm ne
   .exact aj _ q
 obtain⟨m4,m5,e2⟩:=bS O;have P:LL.Perm (c::G::(m4++m5)):=by
  rw[e1];refine eZ.trans (aE.cons _ ?_);rw[e2];exact eZ
 refine⟨(x::X++y::Y)::(m4++m5),⟨λu v=>?_,λd hd=>?_⟩,?_,_,ah ..,by simp,by simp⟩
 .have a1:=vV P (u,v);have Q:=h.cnt u v;rw[qa,qa]at a1;rw[qa]at Q ⊢;rw[qa,qa];rw[←S,←U,m2,m3]at a1;rw[M]at Q;rw[m1,k2,k3];simp only[vc,bw]at Q ⊢;lia
 .rcases aa.mp hd with rfl|hd
  .simp
  .exact h.ne d (P.mem_iff.mpr (by simp only[aa];exact .inr (.inr hd)))
 .unfold nL;have l:=P.length_eq;simp only[lCq,cJ]at l ⊢;have n1:(x::A == ([]))=false:=rfl;have n2:(y::B == ([]))=false:=rfl;have n3:(x::A++y::B == ([]))=false:=rfl;rw[n1,n2,n3];simp only[cK,if_false];lia
def Ln.loop{A B:Ϝ}{R:Λ}(h:Ln ((x::A)::(y::B)::R) LL)(ne:x≠y)z:∃n,Ln ((z::x::A ++ -z::y::B)::R) n/\nL ((z::x::A ++ -z::y::B)::R) n=nL ((x::A)::(y::B)::R) LL:=by
 obtain⟨s,t,k1,E,G⟩:=AU A B x y;obtain⟨s2,t2,O,P,Q⟩:=AU (x::A) (y::B) z (-z);have S:∀u v,(pp (z::x::A)).count (u,v)=ct z x u v+(pp (x::A)).count (u,v):=λu v=>by
  show((z,x)::pp (x::A)).count (u,v)=_;rw[rO]
 have U:∀u v,(pp (-z::y::B)).count (u,v)=ct (-z) y u v+(pp (y::B)).count (u,v):=λu v=>by
  show((-z,y)::pp (y::B)).count (u,v)=_;rw[rO]
 have lst:∀{w:Int}{l:Ϝ}{a b c:Int},(∀u v,(cp (a::l)).count (u,v)=(pp (a::l)).count (u,v)+ct b a u v)->(∀u v,(cp (w::a::l)).count (u,v)=(pp (w::a::l)).count (u,v)+ct c w u v)->b=c:=λ{w l a b c} h1 h2=>by
  obtain⟨X,k,J⟩:=uM (show a::l≠[] by simp)
  have Y:=sZ J rfl;have e2:=sZ (l:=w::a::l) (a:=k) (h:=w) (l':=w::X) (l'':=a::l) (by rw[J];rfl) rfl
  have f1:=h1 k a;have f2:=h2 k w;rw[Y,cAq,ct_]at f1;rw[e2,cAq,ct_]at f2;have o1:=uI k a;have o2:=uI k w;have g:∀{p q r s:Int},0<ct p q r s->p=r:=λ{p q r s} hp=>by
   unfold ct at hp;have:=mSq.mp (bg.mp hp);exact(congrArg (·.1) this).symm
  rw[g (p:=b) (q:=a) (r:=k) (s:=a) ∅,g (p:=c) (q:=w) (r:=k) (s:=w) ∅]
 have es:=lst E P;have et:=lst G Q;subst es;subst et;have m1:(-s,x)∈PC LL:=h.mem (uv (i:=0) rfl (bg.mp (by rw[E];have:=uI s x;lia)))
 have m2:(-t,y)∈PC LL:=h.mem (uv (i:=1) rfl (bg.mp (by rw[G];have:=uI t y;lia)))
 obtain⟨L1,l1,H,L⟩:=Fy (-z) m1 h.ne;have m3:(-t,y)∈PC L1:=vb.mpr (by
  have:=L (-t) y;have z0:ct (-s) x (-t) y=0:=by
   unfold ct;rw[dG];intro q;have:=mSq.mp q;rw[Prod.mk.injEq]at this;exact ne this.2.symm
  have:=vb.mp m2;lia)
 obtain⟨L2,l2,I,i2⟩:=Fy z m3 H;refine⟨L2,⟨λu v=>?_,I⟩,?_⟩
 .have a1:=L u v;have a2:=i2 u v;have M:=h.cnt u v;rw[qa,qa,E,G]at M;rw[qa,O,S,U];simp only[vc,bw]at M ⊢;lia
 .unfold nL;simp only[lCq,cJ];have H:(x::A == ([]))=false:=rfl;have I:(y::B == ([]))=false:=rfl;have n3:(z::x::A ++ -z::y::B == ([]))=false:=rfl;rw[H,I,n3];simp only[cK,if_false];lia
end K18
namespace K18
open PySem L2 Mr Z Xe Zl
open K15 (nx fw tI ED)
open K16 (FE)
open K43 (vz isB emp)
open K46 (Ln.split)
open K51 (tZ Ps)
def sG(s:Ϝ)(R:Λ):(s::R).count []=R.count []+(if s=[]then 1 else 0):=by
 rw[cJ];simp only[beq_iff_eq]
def Nz(l:Mp M)(h:Ln M LL)(n:x∈M.flatten):∃c∈LL,x∈c:=mFq.mp (((h.orb l).all x).mpr n)
def aan{A B:Ϝ}{R:Λ}{c:Ϝ}(h:Ln ((x::A++y::B)::R) LL)(n:Mp ((x::A++y::B)::R))(ne:x≠y)(s:c∈LL)(t:x∈c)(u:y∈c):∃l,Ln ((x::A)::(y::B)::R) l/\nL ((x::A)::(y::B)::R) l=nL ((x::A++y::B)::R) LL+1:=by
 obtain⟨l,E,G⟩:=Ln.split h n.hn n.hneg (i:=0) rfl (λ_=>rfl) ne s t u
 have pm:((x::A)::(y::B)::R).Perm (((x::A++y::B)::R).set 0 (x::A)++[y::B]):=aE.cons _ (aG (l₁:=[y::B]));refine⟨l,E.congr λq=>vV pm q,?_⟩
 rw[←G];unfold nL;rw[pm.count_eq]
end K18
namespace K11
open PySem L2 Mr Z Xe Zl K12
def getD_mem{p:Λ}(h:e∈p.getD k []):p.getD k []∈p:=by
 rw[gDq]at h ⊢;cases q:p[k]? with
 |none=>rw[q]at h;cases h
 |some r=>exact mGq q
end K11
namespace K17
open PySem L2 Mr Z Xe Zl
def N6{L:Λ}(hn:L.flatten.Nodup){i:Nat}{r s:Ϝ}(hi:L[i]?=some r)(l:L[j]?=some s)(n:e∈r)(t:e∈s):i=j:=same_place hn hi l n t
def uZ{L M:Λ}(h:L.Perm M):L.flatten.Perm M.flatten:=by
 induction h with
 |nil=>exact .refl _
 |cons a _ n=>exact n.append_left a
 |swap a b l=>
  rw[fCq,fCq,fCq,fCq,←ae,←ae];exact aG.append_right _
 |trans _ _ s t=>exact s.trans t
end K17
namespace K17
open PySem L2 Mr Z Xe Zl
open K51 (tZ Ps Pc)
theorem EX:∀{A:List Λ},(∀p∈A,([]:Ϝ)∈p->p=[[]])->A.flatten.count []=A.countP λp=>decide (p=[[]])
 | [],_=>rfl
 |p::A,h=>by
  rw[fCq,cAq,EX λq l=>h q (mCo _ l),List.countP_cons]
  by_cases c:([])∈p
  .rw[h p (ah ..) c];simp;lia
  .rw[dG.mpr c,pK (by
    simp only[decide_eq_true_eq];intro e;exact c (by rw[e];simp))]
   lia
def LD{a b:Ϝ}(h:∀y,y∈a↔y∈b)(ha:a≠[]):∃m,a.min?=some m/\b.min?=some m/\m∈a:=by
 cases e:a.min? with
 |none=>exact absurd (List.min?_eq_none_iff.mp e) ha
 |some m=>
  have q:=(gH).mp e;exact⟨m,rfl,(gH).mpr ⟨(h m).mp q.1,λx l=>q.2 x ((h x).mpr l)⟩,q.1⟩
theorem Lx:∀{A:List Λ},A.flatten.flatten.Nodup->(∀p∈A,p.flatten≠[])->(A.map λp=>p.flatten.min?).Nodup
 | [],_,_=>bb
 |p::A,h,hne=>by
  rw[fCq,fAq,nAq]at h;rw[aw];refine aq.mpr ⟨λm=>?_,Lx h.2.1 λq l=>hne q (mCo _ l)⟩
  obtain⟨q,l,e⟩:=mMq.mp m;obtain⟨a,s,_,t⟩:=LD (λ_=>Iff.rfl) (hne p (ah ..))
  rw[s]at e;have:=((gH).mp e).1;obtain⟨r,hr,n⟩:=mFq.mp this;exact h.2.2 a t a (mFq.mpr ⟨r,mFq.mpr ⟨q,l,hr⟩,n⟩) rfl
structure Bp (A:List Λ):Prop where
 nd:A.flatten.flatten.Nodup
 ne:∀p∈A,p≠[]
 ba:∀p∈A,([]:Ϝ)∈p->p=[[]]
def Ct{l m:Λ}(h:l.Sublist m):l.flatten.Sublist m.flatten:=by
 induction h with
 |slnil=>exact .refl _
 |cons a _ n=>exact n.trans (fQ ..)
 |cons_cons a _ n=>exact(bZ.refl a).append n
def NN{A:List Λ}(h:A.flatten.flatten.Nodup)f:(A.filter f).flatten.flatten.Nodup:=by
 rw[List.flatten_flatten]at h ⊢;exact h.sublist (Ct (cu.map _))
def Bp.fne(h:Bp A)(l:p∈A)(hb:p≠[[]]):p.flatten≠[]:=λz=>by
 cases p with
 |nil=>exact h.ne _ l rfl
 |cons a p=>
  have:=(cQ.mp z).1;subst this;exact hb (h.ba _ l (ah ..))
def aaM(H:Bp A)(P:Bp B)(hs:∀x,x∈A.flatten.flatten->x∈B.flatten.flatten)(sh:∀p∈A,∀q∈B,∀x,x∈p.flatten->x∈q.flatten->∀y,y∈p.flatten↔y∈q.flatten)(hk:k∈(A.filter λp=>!decide (p=[[]])).map λp=>p.flatten.min?):k∈(B.filter λp=>!decide (p=[[]])).map λp=>p.flatten.min?:=by
 obtain⟨p,n,e⟩:=mMq.mp hk;obtain⟨n,hb⟩:=bq.mp n;have s:=by simpa using hb
 obtain⟨m,Q,_,I⟩:=LD (λ_=>Iff.rfl) (H.fne n s)
 obtain⟨r,hr,u⟩:=mFq.mp I;obtain⟨L,E,t⟩:=mFq.mp (hs m (mFq.mpr ⟨r,mFq.mpr ⟨p,n,hr⟩,u⟩));obtain⟨q,J,G⟩:=mFq.mp E;have l:=mFq.mpr ⟨L,G,t⟩;obtain⟨R,M,O,_⟩:=LD (sh p n q J m I l) (H.fne n s);rw[←e];refine mMq.mpr ⟨q,bq.mpr ⟨J,?_⟩,by rw[M,O]⟩
 have:q≠[[]]:=λz=>by rw[z]at l;simp at l
 simpa using this
def CY(s:Bp A)(t:Bp B)(hs:∀x,x∈A.flatten.flatten↔x∈B.flatten.flatten)(sh:∀p∈A,∀q∈B,∀x,x∈p.flatten->x∈q.flatten->∀y,y∈p.flatten↔y∈q.flatten)(u:A.flatten.count []=B.flatten.count []):A.length=B.length:=by
 have z:=Lx (NN s.nd λp=>!decide (p=[[]])) λp n=>s.fne (bq.mp n).1 (by simpa using (bq.mp n).2)
 have E:=Lx (NN t.nd λp=>!decide (p=[[]])) λp n=>t.fne (bq.mp n).1 (by simpa using (bq.mp n).2)
 have pm:=((aL z E).mpr λk=>⟨aaM s t (λx=>(hs x).mp) sh,aaM t s (λx=>(hs x).mpr) λp n q G x H I y=>(sh q G p n x I H y).symm⟩).length_eq
 rw[lMq,lMq,←dY,←dY]at pm;rw[EX s.ba,EX t.ba]at u;have J:=eS (l:=A) λp=>decide (p=[[]])
 have L:=eS (l:=B) λp=>decide (p=[[]])
 have f:(λp:Λ=>!decide (p=[[]]))=λp=>decide ¬ (decide (p=[[]])=true):=by
  funext p
  by_cases c:p=[[]] <;> simp[c]
 rw[f]at pm;lia
noncomputable abbrev cls(M:Λ)(PS:List Θ):List Λ:=PS.map λps=>ps.map λk=>M.getD k []
section
variable {PS:List Θ}
def aa1{S:Int->Prop}(u:K51.Mp M)(hneg:∀x,S x->S (-x))(l:∀r∈M,∀x∈r,∀y∈r,S x->S y)(h:tZ M a b)(ha:∀x∈M.getD a [],S x):∀y∈M.getD b [],S y:=by
 induction h with
 |base=>exact ha
 | @step k r e _ z B H=>
  intro y E;have I:M.getD k []=r:=by rw[gDq,z];rfl
  have J:=hneg e (H e (by rw[I];exact B))
  have L:=mFq.mpr ⟨r,mGq z,B⟩;obtain⟨G,n,s⟩:=u.at (u.hneg e L);have t:M.getD (K51.plc M (-e)) []=G:=by rw[gDq,n];rfl
  rw[t]at E;exact l G (mGq n) _ s y E J
def DJ(n:K51.Mp M)(pc:Pc M s ps):x∈(ps.map λk=>M.getD k []).flatten↔∃k,tZ M s k/\x∈M.getD k []:=by
 rw[mFq];constructor
 .rintro⟨r,hr,l⟩;obtain⟨k,hk,rfl⟩:=mMq.mp hr;exact⟨k,(pc.iff k).mp hk,l⟩
 .rintro⟨k,hk,l⟩;exact⟨_,mMq.mpr ⟨k,(pc.iff k).mpr hk,rfl⟩,l⟩
def Ei{S:Int->Prop}(t:K51.Mp M)(pc:Pc M s ps)(hneg:∀x,S x->S (-x))(l:∀r∈M,∀x∈r,∀y∈r,S x->S y)(B:x∈(ps.map λk=>M.getD k []).flatten)(h:S x):∀y∈(ps.map λk=>M.getD k []).flatten,S y:=by
 intro y E;obtain⟨a,ha,n⟩:=(DJ t pc).mp B;obtain⟨b,hb,u⟩:=(DJ t pc).mp E;exact aa1 t hneg l ((ha.symm t).trans hb) (λz G=>l _ (K11.getD_mem n) x n z G h) y u
def vX(t:K51.Mp M)(pc:Pc M s ps)(z:x∈(ps.map λk=>M.getD k []).flatten):-x∈(ps.map λk=>M.getD k []).flatten:=by
 obtain⟨k,hk,l⟩:=(DJ t pc).mp z;have hr:M[k]?=some (M.getD k []):=by
  rw[gDq]at l ⊢;cases q:M[k]? with
  |none=>rw[q]at l;cases l
  |some r=>rfl
 obtain⟨B,u,n⟩:=t.at (t.hneg x (mFq.mpr ⟨_,mGq hr,l⟩));refine(DJ t pc).mpr ⟨_,.step hk hr l,?_⟩;rw[gDq,u];exact n
def zd(u:K51.Mp M)(pc:Pc M s ps){r:Ϝ}(hr:r∈M)(z:x∈r)(B:y∈r)(h:x∈(ps.map λk=>M.getD k []).flatten):y∈(ps.map λk=>M.getD k []).flatten:=by
 obtain⟨t,ht,l⟩:=mFq.mp h;obtain⟨k,hk,rfl⟩:=mMq.mp ht;have E:=K11.getD_mem l;obtain⟨i,hi⟩:=ay.mp hr;obtain⟨j,n⟩:=ay.mp E;have:=N6 u.hn hi n z l;subst this;rw[hi]at n;refine mFq.mpr ⟨_,ht,?_⟩;rw[←aA.inj n];exact B
def C2(H:K51.Mp M)(x:Ps M M.length kn PS):Bp (cls M PS):=by
 have pm:=K12.tJ x;refine⟨(uZ pm).nodup_iff.mpr H.hn,λp h=>?_,λp h hb=>?_⟩
 .obtain⟨t,n,rfl⟩:=mMq.mp h;obtain⟨s,hs,pc⟩:=x.pc t n;intro z;have m:=(pc.iff s).mpr .base;rw[iZ.mp z]at m;cases m
 .obtain⟨t,n,rfl⟩:=mMq.mp h;obtain⟨s,hs,pc⟩:=x.pc t n;obtain⟨k,hk,B⟩:=mMq.mp hb;have u:=pc.lt k hk;have E:M[k]?=some []:=by
   rw[gDq,gEg u]at B;rw[gEg u];exact congrArg some B
  have only:∀j,tZ M k j->j=k:=λj G=>by
   induction G with
   |base=>rfl
   |step _ a b I=>
    rw[I,E]at a;cases a;cases b
  have all:=λj G=>only j ((((pc.iff k).mp hk).symm H).trans ((pc.iff j).mp G))
  have nd:=pc.nd;have e:t=[k]:=by
   match t,hk,all,nd with
   | [a],_,all,_=>rw[all a ⋯]
   |a::b::l,_,all,nd=>exact absurd ((all a ⋯).trans (all b ⋯).symm) (λz=>(aq.mp nd).1 (by rw[z];simp))
  rw[e];show[M.getD k []]=[[]];rw[B]
def wN(B:K51.Mp M)(hn:K51.Mp N)(J:Ps M M.length kn PS)(l:Ps N N.length I u)(hs:∀x,x∈M.flatten↔x∈N.flatten)(hb:M.count []=N.count [])(U:∀S:Int->Prop,(∀x,S x->S (-x))->(∀r∈N,∀x∈r,∀y∈r,S x->S y)->∀r∈M,∀x∈r,∀y∈r,S x->S y)(X:∀S:Int->Prop,(∀x,S x->S (-x))->(∀r∈M,∀x∈r,∀y∈r,S x->S y)->∀r∈N,∀x∈r,∀y∈r,S x->S y):PS.length=u.length:=by
 have pm:=K12.tJ J;have E:=K12.tJ l;have:=CY (C2 B J) (C2 hn l) (λx=>((uZ pm).mem_iff.trans (hs x)).trans (uZ E).mem_iff.symm) (λp h q Y x P G y=>by
  obtain⟨Q,L,rfl⟩:=mMq.mp h;obtain⟨s,_,pc⟩:=J.pc Q L;obtain⟨R,O,rfl⟩:=mMq.mp Y;obtain⟨t,_,H⟩:=l.pc R O;exact⟨Ei B pc (λz n=>vX hn H n) (U (· ∈ (R.map λk=>N.getD k []).flatten) (λz n=>vX hn H n) λr hr a ha b hb h=>zd hn H hr ha hb h) P G y,Ei hn H (λz n=>vX B pc n) (X (· ∈ (Q.map λk=>M.getD k []).flatten) (λz n=>vX B pc n) λr hr a ha b hb h=>zd B pc hr ha hb h) G P y⟩) (by rw[pm.count_eq,E.count_eq,hb])
 rwa [lMq,lMq]at this
end
end K17
namespace K52
open PySem L2 Mr Z Xe Zl
open K15 (nx)
open K18 (pp cp PC CI sZ tq Ce uv)
open K43 (vz rW qm)
open K51 (tZ)
structure Fm where
 p:Nat
 a:Ϝ
 d:Ϝ
 r:Ϝ
structure Sw where
 st:List Fm
 cl:Θ
 cb:List (Nat×Int)
 th:List (String×Int)
def frm(M:Λ)(x:Int):Ϝ:=(M.getD (plc M x) []).drop ((M.getD (plc M x) []).idxOf x+1)++(M.getD (plc M x) []).take ((M.getD (plc M x) []).idxOf x)
noncomputable def Sw.ks(s:Sw):Θ:=0::s.cb.map (·.1)
noncomputable def Fm.tell(f:Fm)(e:Int)(r:Ϝ):Fm:=⟨f.p,f.a,f.d++[e],r⟩
def stp(M:Λ)(s:Sw):Sw:=match s.st with
 | []=>s
 |f::fs=>match f.r with
  |e::r=>if plc M (-e)∈s.ks then ⟨f.tell e r::fs,s.cl,s.cb,s.th++[("side", e)]⟩
   else ⟨⟨plc M (-e),[-e],[],frm M (-e)⟩::f.tell e r::fs,s.cl,s.cb++[(plc M (-e), -e)],s.th++[("down", e)]⟩
  | []=>match f.a,fs with
   | [x],g::gs=>⟨g::gs,f.p::s.cl,s.cb,s.th++[("up", x)]⟩
   |_,_=>s
def run(M:Λ):Nat->Sw
 |0=>⟨[⟨0,[],[],M.getD 0 []⟩],[],[],[]⟩
 |n+1=>stp M (run M n)
noncomputable def Fm.c(f:Fm):Ϝ:=f.a++f.d++f.r
structure Qh (M:Λ)(f:Fm):Prop where
 lt:f.p<M.length
 pm:f.c.Perm (M.getD f.p [])
 cy:∀q∈cp f.c,nx M q.1=q.2
def ZH:List Fm->Prop
 | []=>False
 | [f]=>f.a=[]/\f.p=0
 |f::g::fs=>(∃x d,f.a=[x]/\g.d=d++[-x])/\ZH (g::fs)
structure Wi (M:Λ)(s:Sw):Prop where
 ch:ZH s.st
 ok:∀f∈s.st,Qh M f
 nd:(s.st.map (·.p)++s.cl).Nodup
 ck:∀t,t∈s.ks↔t∈s.st.map (·.p)++s.cl
 cv:∀f∈s.st,∀x,f.a=[x]->(f.p,x)∈s.cb
 kn:s.ks.Nodup
 lc:∀p∈s.cl,p<M.length
 tl:(s.th.map (·.2)).Perm (s.st.flatMap (·.d)++s.cl.flatMap λp=>M.getD p [])
 out:∀x∈s.th.map (·.2),plc M (-x)∈s.ks
section
variable {M:Λ}{f:Fm}
def ZH.top:∀{fs},ZH (f::fs)->g.a=f.a->g.p=f.p->ZH (g::fs)
 | [],h,ha,l=>⟨by rw[ha];exact h.1,by rw[l];exact h.2⟩
 |k::fs,h,ha,l=>⟨by rw[ha];exact h.1,h.2⟩
def row_at(n:Mp M)(t:x∈M.flatten):plc M x<M.length/\x∈M.getD (plc M x) []:=by
 obtain⟨r,l,u⟩:=n.at t;refine⟨(gSq.mp l).1,?_⟩;rw[gDq,l];exact u
def K1(l:Mp M)(B:x∈M.flatten):Qh M ⟨plc M x,[x],[],frm M x⟩:=by
 obtain⟨n,E⟩:=row_at l B;have hr:=qm n;have key:∀r,x∈r->∃X Y,r=X++x::Y/\r.drop (r.idxOf x+1)++r.take (r.idxOf x)=Y++X:=λr h=>by
  have lt:=gY h;refine⟨r.take (r.idxOf x),r.drop (r.idxOf x+1),?_,rfl⟩;have e:=fV lt
  conv=>lhs;rw[←aZ (r.idxOf x) r,ax lt,e]
 obtain⟨X,Y,t,G⟩:=key _ E;have u:(⟨plc M x,[x],[],frm M x⟩:Fm).c=x::Y++X:=by
  unfold frm;rw[G];rfl
 refine⟨n,?_,λq z=>?_⟩
 .rw[u,t];exact aG
 .rw[u]at z;refine Ce l.hn (uv hr ?_);rw[t];have:=bg.mpr z;rw[tq]at this;exact bg.mp this
def Qh.mem(l:Mp M)(h:Qh M f)(n:x∈f.c):x∈M.flatten/\plc M x=f.p:=by
 have hr:=qm h.lt;have:=h.pm.mem_iff.mp n;exact⟨mFq.mpr ⟨_,mGq hr,this⟩,plc_eq l.hn hr this⟩
def SZ{r:Ϝ}(h:f.r=e::r):(f.tell e r).c=f.c:=by
 unfold Fm.tell Fm.c;rw[h];simp
theorem Qh.tell{r:Ϝ}(h:Qh M f)(hr:f.r=e::r):Qh M (f.tell e r):=⟨h.lt,by rw[SZ hr];exact h.pm,by rw[SZ hr];exact h.cy⟩
def wi0(u:Mp M)(n:0<M.length):Wi M (run M 0):=by
 have hr:=qm n;refine⟨⟨rfl,rfl⟩,λf l=>?_,by simp[run],λt=>?_,λf l x h=>?_,by simp[run,Sw.ks],λp z=>(by cases z),by simp[run],λx B=>(by cases B)⟩
 .rw[mSq.mp l];refine⟨n,.refl _,λq E=>Ce u.hn (uv hr E)⟩
 .show t∈[0]↔t∈[0]++[];rw[aNq]
 .rw[mSq.mp l]at h;cases h
def G9(I:Mp M)(h:Wi M s):Wi M (stp M s):=by
 obtain⟨st,cl,cb,th⟩:=s;cases st with
 |nil=>exact h.ch.elim
 |cons f fs=>
  have J:=h.ok f (ah ..);cases q:f.r with
  |cons e r=>
   have Q:e∈f.c:=by unfold Fm.c;rw[q];simp
   obtain⟨R,pe⟩:=J.mem I Q;have S:=J.tell q;have E:∀g∈f.tell e r::fs,Qh M g:=λg n=>by
    rcases aa.mp n with z|z
    .rw[z];exact S
    .exact h.ok g (mCo _ z)
   have G:ZH (f.tell e r::fs):=h.ch.top rfl rfl;have tl:(th.map (·.2)++[e]).Perm ((f.tell e r::fs).flatMap (·.d)++cl.flatMap λp=>M.getD p []):=by
    refine(h.tl.append_right [e]).trans ?_;show((f.d++fs.flatMap (·.d))++_++[e]).Perm (((f.d++[e])++fs.flatMap (·.d))++_);rw[ae,ae,ae,ae];refine aE.append_left _ ?_;rw[←ae];exact aG
   by_cases c:plc M (-e)∈(⟨f::fs,cl,cb,th⟩:Sw).ks
   .have H:stp M ⟨f::fs,cl,cb,th⟩=⟨f.tell e r::fs,cl,cb,th++[("side", e)]⟩:=by
     unfold stp;simp only[q];rw[pO c]
    rw[H];refine⟨G,E,h.nd,h.ck,λg n x l=>?_,h.kn,h.lc,by rw[mBq];exact tl,λx l=>?_⟩
    .rcases aa.mp n with z|z
     .rw[z]at l ⊢;exact h.cv f (ah ..) x l
     .exact h.cv g (mCo _ z) x l
    .rw[mBq]at l;rcases mAq.mp l with z|z
     .exact h.out x z
     .rw[mSq.mp z];exact c
   .have H:stp M ⟨f::fs,cl,cb,th⟩=⟨⟨plc M (-e),[-e],[],frm M (-e)⟩::f.tell e r::fs,cl,cb++[(plc M (-e), -e)],th++[("down", e)]⟩:=by
     unfold stp;simp only[q];rw[pK c]
    rw[H];have U:plc M (-e)∉(f::fs).map (·.p)++cl:=λz=>c ((h.ck _).mpr z)
    have L:(⟨⟨plc M (-e),[-e],[],frm M (-e)⟩::f.tell e r::fs,cl,cb++[(plc M (-e), -e)],th++[("down", e)]⟩:Sw).ks=(⟨f::fs,cl,cb,th⟩:Sw).ks++[plc M (-e)]:=by
     unfold Sw.ks;rw[mBq];rfl
    refine⟨⟨⟨-e,f.d,rfl,by rw[bw];rfl⟩,G⟩,λg n=>?_,aq.mpr ⟨U,h.nd⟩,λt=>?_,λg n x l=>?_,?_,h.lc,by rw[mBq];exact tl,λx l=>?_⟩
    .rcases aa.mp n with z|z
     .rw[z];exact K1 I (I.hneg e R)
     .exact E g z
    .rw[L,mAq,mSq,h.ck];show _↔t∈plc M (-e)::((f::fs).map (·.p)++cl);rw[aa];exact Or.comm
    .rcases aa.mp n with z|z
     .rw[z]at l ⊢;cases l;exact aj _ (mSq.mpr rfl)
     .refine ao _ ?_;rcases aa.mp z with w|w
      .rw[w]at l ⊢;exact h.cv f (ah ..) x l
      .exact h.cv g (mCo _ w) x l
    .rw[L];exact nAq.mpr ⟨h.kn,by simp,λa ha b hb z=>c (by rw[mSq.mp hb]at z;exact z ▸ ha)⟩
    .rw[L];rw[mBq]at l;rcases mAq.mp l with z|z
     .exact ao _ (h.out x z)
     .rw[mSq.mp z];exact aj _ (mSq.mpr rfl)
  |nil=>
   cases fs with
   |nil=>
    have:stp M ⟨[f],cl,cb,th⟩=⟨[f],cl,cb,th⟩:=by
     have ha:=h.ch.1;unfold stp;simp only[q,ha]
    rw[this];exact h
   |cons g u=>
    obtain⟨⟨x,d,O,X⟩,ch⟩:=h.ch;have H:stp M ⟨f::g::u,cl,cb,th⟩=⟨g::u,f.p::cl,cb,th++[("up", x)]⟩:=by
     unfold stp;simp only[q,O]
    rw[H];have pm:((f::g::u).map (·.p)++cl).Perm ((g::u).map (·.p)++f.p::cl):=eZ.symm;have n:=h.ok g ⋯
    refine⟨ch,λk hk=>h.ok k (mCo _ hk),pm.nodup_iff.mp h.nd,λt=>(h.ck t).trans pm.mem_iff,λk hk=>h.cv k (mCo _ hk),h.kn,λp Y=>?_,?_,λy P=>?_⟩
    .rcases aa.mp Y with z|z
     .rw[z];exact J.lt
     .exact h.lc p z
    .rw[mBq];refine(h.tl.append_right [x]).trans ?_;have row:(f.d++[x]).Perm (M.getD f.p []):=by
      refine aG.trans ?_;have:=J.pm;unfold Fm.c at this;rw[O,q,aNq]at this;exact this
     show((f.d++(g::u).flatMap (·.d))++cl.flatMap (λp=>M.getD p [])++[x]).Perm ((g::u).flatMap (·.d)++(M.getD f.p []++cl.flatMap λp=>M.getD p []))
     generalize (g::u).flatMap (·.d)=A;generalize (cl.flatMap λp=>M.getD p [])=B
     refine aE.trans ?_ (aE.append_left A (aE.append_right B row));rw[ae,ae,←ae A B];refine(gW f.d (A++B) [x]).trans ?_;rw[ae];exact aE.append_left A aG
    .rw[mBq]at P;rcases mAq.mp P with z|z
     .exact h.out y z
     .rw[mSq.mp z];have:-x∈g.c:=by unfold Fm.c;rw[X];simp
      refine(h.ck _).mpr ?_;rw[(n.mem I this).2];simp
theorem tH(l:Mp M)(t:0<M.length):∀n,Wi M (run M n)
 |0=>wi0 l t
 |n+1=>G9 l (tH l t n)
def Fin(s:Sw):Prop:=∃f,s.st=[f]/\f.r=[]
def N4{P:Θ}(nd:P.Nodup)(lt:∀p∈P,p<M.length):∃Q:Θ,P.Perm Q/\(Q.flatMap λp=>M.getD p []).Sublist M.flatten:=by
 refine⟨(aF M.length).filter λk=>decide (k∈P),(aL nd (cY.filter _)).mpr λk=>?_,?_⟩
 .rw[bq,bA,decide_eq_true_iff];exact⟨λh=>⟨lt k h,h⟩,λh=>h.2⟩
 .have:=K17.Ct ((cu (p:=λk=>decide (k∈P)) (l:=aF M.length)).map λk=>M.getD k [])
  rwa [rW]at this
def KO(st:List Fm):(st.flatMap Fm.c).Perm (st.flatMap (·.d)++st.flatMap λf=>f.a++f.r):=by
 induction st with
 |nil=>exact .refl _
 |cons f fs l=>
  show(f.a++f.d++f.r++fs.flatMap Fm.c).Perm ((f.d++fs.flatMap (·.d))++((f.a++f.r)++fs.flatMap λf=>f.a++f.r))
  refine(aE.append_left _ l).trans ?_;rw[dX];simp only[cAq];lia
def Wi.full(h:Wi M s):∃F:Ϝ,F.Sublist M.flatten/\(s.th.map (·.2)++s.st.flatMap λf=>f.a++f.r).Perm F:=by
 have lt:∀p∈s.st.map (·.p)++s.cl,p<M.length:=λp n=>by
  rcases mAq.mp n with z|z
  .obtain⟨f,t,rfl⟩:=mMq.mp z;exact(h.ok f t).lt
  .exact h.lc p z
 obtain⟨Q,u,sub⟩:=N4 h.nd lt;refine⟨_,sub,?_⟩;have l:∀st:List Fm,(∀f∈st,Qh M f)->(st.flatMap Fm.c).Perm ((st.map (·.p)).flatMap λp=>M.getD p []):=λst=>by
  induction st with
  |nil=>intro _;exact .refl _
  |cons f fs B=>
   intro ok;exact aE.append (ok f (ah ..)).pm (B λg E=>ok g (mCo _ E))
 have G:=(KO s.st).symm.trans (l s.st h.ok);have H:((s.st.map (·.p)++s.cl).flatMap λp=>M.getD p []).Perm (Q.flatMap λp=>M.getD p []):=aE.flatMap_right _ u
 refine aE.trans ?_ H;rw[fP];refine aE.trans ?_ (aE.append_right _ G);refine(aE.append_right _ h.tl).trans ?_;rw[ae,ae];exact aE.append_left _ aG
def Wi.less(h:Wi M s)(t:¬ Fin s):s.th.length<M.flatten.length:=by
 obtain⟨F,sub,pm⟩:=h.full;have B:=sub.length_le;have u:=pm.length_eq;rw[lAq,lMq]at u
 suffices (s.st.flatMap λf=>f.a++f.r)≠[] by
  have:=eV.mpr this;lia
 intro q;have n:=List.flatMap_eq_nil_iff.mp q;have l:=h.ch
 match e:s.st,l with
 | [f],_=>exact t ⟨f,e,(cQ.mp (n f (by rw[e];simp))).2⟩
 |f::g::fs,hc=>
  obtain⟨⟨x,d,z,_⟩,_⟩:=hc;have:=n f (by rw[e];simp)
  rw[z]at this;cases this
def Wi.whole(L:Mp M)(h:Wi M s)(fin:Fin s)(one:∀k,k<M.length->tZ M 0 k):s.th.length=M.flatten.length/\s.ks.length=M.length/\(s.th.map (·.2)).Perm M.flatten:=by
 obtain⟨f,e,B⟩:=fin;have l:=h.ch;rw[e]at l;have E:=h.ok f (by rw[e];simp)
 have n:∀k∈s.ks,∀x∈M.getD k [],x∈s.th.map (·.2):=λk hk x t=>by
  rw[h.ck,e]at hk;refine h.tl.mem_iff.mpr ?_;rcases mAq.mp hk with z|z
  .have z:=mSq.mp z;rw[z]at t;have:=E.pm.mem_iff.mpr t;unfold Fm.c at this;rw[l.1,B,aNq]at this;refine ao _ ?_;rw[e];exact ao _ this
  .exact aj _ (bf.mpr ⟨k,z,t⟩)
 have all:∀k,tZ M 0 k->k∈s.ks:=λk hk=>by
  induction hk with
  |base=>exact ah ..
  | @step k r x _ hr t H=>
   refine h.out x (n k H x ?_);rw[gDq,hr];exact t
 have kp:=(aL h.kn cY).mpr λk=>by
  rw[bA];refine⟨λhk=>?_,λhk=>all k (one k hk)⟩
  rcases mAq.mp ((h.ck k).mp hk)with z|z
  .obtain⟨g,I,rfl⟩:=mMq.mp z;exact(h.ok g I).lt
  .exact h.lc k z
 have u:=(aL h.nd h.kn).mpr λk=>(h.ck k).symm
 have G:(s.th.map (·.2)).Perm M.flatten:=by
  refine h.tl.trans ?_;have J:s.st.flatMap (·.d)=f.c:=by
   rw[e];show f.d++[]=f.a++f.d++f.r;rw[l.1,B];rfl
  rw[J];refine(aE.append_right _ E.pm).trans ?_;have:(M.getD f.p []++s.cl.flatMap λp=>M.getD p [])=(s.st.map (·.p)++s.cl).flatMap λp=>M.getD p []:=by
   rw[e];rfl
  rw[this];refine(aE.flatMap_right _ (u.trans kp)).trans ?_;rw[List.flatMap_def,rW]
 refine⟨?_,?_,G⟩
 .have:=G.length_eq
  rwa [lMq]at this
 .have:=kp.length_eq
  rwa [aB]at this
end
end K52
namespace K52
open PySem L2 Mr Z Xe Zl
open K15 (nx xQ)
open K18 (pp cp PC CI sZ tq Ce uv)
open K43 (vz qm)
open K51 (tZ AR)
noncomputable def Sw.cur(s:Sw):Int:=match s.st with
 | []=>0
 |f::_=>(f.r++f.a).headD 0
section
variable {s:Sw}
def Qh.nxt(h:Qh M f){L:Ϝ}(u:f.a++f.d=L++[y])(ne:f.r++f.a≠[]):nx M y=(f.r++f.a).headD 0:=by
 have n:f.c=L++[y]++f.r:=by unfold Fm.c;rw[u]
 cases q:f.r with
 |nil=>
  rw[q,cU]at ne;rw[q,aNq]at n;obtain⟨z,l,t⟩:=K18.vg ne;have B:f.c=z::(l++f.d++f.r):=by unfold Fm.c;rw[t];simp
  have:=h.cy (y,z) (by rw[sZ n B];simp)
  rw[t];exact this
 |cons z r=>
  rw[q]at n;have:f.c≠[]:=by rw[n];simp
  obtain⟨w,l,E⟩:=K18.vg this;have G:cp f.c=pp (f.c++[w]):=by rw[E];rfl
  have H:f.c++[w]=L++y::z::(r++[w]):=by rw[n];simp
  exact h.cy (y,z) (by rw[G,H,CI];simp)
def DC(s:Sw):List (pQ×D):=(.inl 0,.non)::s.cb.map λp=>(.inl (p.1:Int),.int p.2)
def Ea(kn:s.ks.Nodup)(h:(p,x)∈s.cb):Z.getD (DC s) (.inl (p:Int))=some (.int x):=by
 have key:∀cb:List (Nat×Int),(cb.map (·.1)).Nodup->(p,x)∈cb->Z.getD (cb.map λp=>((.inl (p.1)),D.int p.2)) (.inl (p))=some (.int x):=λcb=>by
  induction cb with
  |nil=>intro _ h;cases h
  |cons c cb t=>
   intro nd h;rw[aw]at nd;obtain⟨l,n⟩:=aq.mp nd;unfold Z.getD;rw[aw,dP];rcases aa.mp h with z|z
   .subst z;rw[d0 rfl];rfl
   .have ne:¬ ((aN (c.1):pQ) = .inl (p)):=λq=>l (by
     have:c.1=p:=by have:=aN.inj q;lia
     rw[this];exact mMq.mpr ⟨_,z,rfl⟩)
    rw[d4 ne];exact t n z
 obtain⟨l,n⟩:=aq.mp kn;have u:¬ ((aN 0:pQ) = .inl (p)):=λq=>l (by
  have:p=0:=by have:=aN.inj q;lia
  rw[←this];exact mMq.mpr ⟨_,h,rfl⟩)
 have:=key s.cb n h;unfold Z.getD DC at *;rw[dP,d4 u];exact this
def NY s(t:Nat):(Z.getD (DC s) (.inl (t:Int))).isSome=decide (t∈s.ks):=by
 unfold Z.getD;rw[dQ,cE,fD,decide_eq_true_iff];constructor
 .rintro⟨q,n,h⟩;have h:=of_decide_eq_true h;rcases aa.mp n with z|z
  .rw[z]at h;have:t=0:=by have:=aN.inj h;lia
   rw[this];exact ah ..
  .obtain⟨c,l,rfl⟩:=mMq.mp z;have:c.1=t:=by have:=aN.inj h;lia
   exact mCo _ (mMq.mpr ⟨c,l,this⟩)
 .intro h;rcases aa.mp h with z|z
  .exact⟨_,ah ..,d0 (by rw[z];rfl)⟩
  .obtain⟨c,l,rfl⟩:=mMq.mp z;exact⟨_,mCo _ (mMq.mpr ⟨c,l,rfl⟩),d0 rfl⟩
def Wi.ahead(h:Wi M s)(l:f∈s.st)(n:y∈f.a++f.r)(hn:M.flatten.Nodup):y∉s.th.map (·.2):=by
 obtain⟨F,sub,pm⟩:=h.full;have nd:=pm.nodup_iff.mpr (hn.sublist sub);exact λq=>(nAq.mp nd).2.2 y q y (bf.mpr ⟨f,l,n⟩) rfl
noncomputable def Sw.way(s:Sw):Ϝ:=(s.st.flatMap (·.a)).reverse
inductive Go (M:Λ)(s t:Sw):Prop
 |up:t.th=s.th++[("up", s.cur)]->t.cb=s.cb->Z.getD (DC s) (.inl (plc M s.cur:Int))=some (.int s.cur)->s.way=t.way++[s.cur]->(¬ Fin t->t.cur=nx M (-s.cur))->Go M s t
 |down:t.th=s.th++[("down", s.cur)]->t.cb=s.cb++[(plc M (-s.cur), -s.cur)]->plc M (-s.cur)∉s.ks->(∃v,Z.getD (DC s) (.inl (plc M s.cur:Int))=some v/\FP (.int s.cur) v=some (.bl false))->t.way=s.way++[-s.cur]->(∀w y,s.way=w++[y]->y≠s.cur)->t.cur=nx M (-s.cur)->Go M s t
 |side:t.th=s.th++[("side", s.cur)]->t.cb=s.cb->plc M (-s.cur)∈s.ks->(∃v,Z.getD (DC s) (.inl (plc M s.cur:Int))=some v/\FP (.int s.cur) v=some (.bl false))->t.way=s.way->(∀w y,s.way=w++[y]->y≠s.cur)->(¬ Fin t->t.cur=nx M s.cur)->Go M s t
def Ny(B:Mp M)(h:Wi M s)(S:¬ Fin s):s.cur∈M.flatten/\s.cur∉s.th.map (·.2)/\Go M s (stp M s):=by
 have h':=G9 B h;obtain⟨st,cl,cb,th⟩:=s;cases st with
 |nil=>exact h.ch.elim
 |cons f fs=>
  have I:=h.ok f (ah ..);have t:f.c.Nodup:=I.pm.nodup_iff.mpr (B.hn.sublist (aT (mGq (qm I.lt))));have u:f.a=[]/\f.p=0/\fs=[]∨∃x,f.a=[x]/\(f.p,x)∈cb:=by
   cases fs with
   |nil=>exact .inl ⟨h.ch.1,h.ch.2,rfl⟩
   |cons g E=>
    obtain⟨⟨x,d,n,_⟩,_⟩:=h.ch;exact .inr ⟨x,n,h.cv f (ah ..) x n⟩
  cases q:f.r with
  |cons e r=>
   have l:(⟨f::fs,cl,cb,th⟩:Sw).cur=e:=by show(f.r++f.a).headD 0=e;rw[q];rfl
   have U:e∈f.c:=by unfold Fm.c;rw[q];simp
   obtain⟨Q,X⟩:=I.mem B U;have Y:=h.ahead (ah ..) (y:=e) (by rw[q];simp) B.hn
   have ft:=I.tell q;have val:∃v,Z.getD (DC ⟨f::fs,cl,cb,th⟩) (.inl (plc M e:Int))=some v/\FP (.int e) v=some (.bl false):=by
    rw[X];rcases u with⟨_,z,_⟩|⟨x,n,hx⟩
    .rw[z];exact⟨.non,rfl,rfl⟩
    .refine⟨.int x,Ea h.kn hx,?_⟩;have:e≠x:=λw=>by
      unfold Fm.c at t;rw[n,q]at t;exact(aq.mp t).1 (by rw[←w];simp)
     rw[HI,d4 this]
   have R:∀w y,(⟨f::fs,cl,cb,th⟩:Sw).way=w++[y]->y≠e:=λw y J z=>by
    have e2:(⟨f::fs,cl,cb,th⟩:Sw).way=(fs.flatMap (·.a)).reverse++f.a.reverse:=by
     show(f.a++fs.flatMap (·.a)).reverse=_;rw[dg]
    rw[e2]at J;rcases u with⟨z1,_,G⟩|⟨x,n,_⟩
    .rw[z1,G]at J;have:=congrArg bJ J;simp at this
    .rw[n]at J;have:=(iB J rfl).2;have:x=y:=by simpa using this
     unfold Fm.c at t;rw[n,q]at t;exact(aq.mp t).1 (by rw[this,z];simp)
   rw[l];refine⟨Q,Y,?_⟩
   by_cases c:plc M (-e)∈(⟨f::fs,cl,cb,th⟩:Sw).ks
   .have O:stp M ⟨f::fs,cl,cb,th⟩=⟨f.tell e r::fs,cl,cb,th++[("side", e)]⟩:=by
     unfold stp;simp only[q];rw[pO c]
    rw[O];refine .side (by rw[l]) rfl (by rw[l];exact c) (by rw[l];exact val) rfl (by rw[l];exact R) λH=>?_
    rw[l];refine(ft.nxt (L:=f.a++f.d) (y:=e) (by show f.a++(f.d++[e])=_;rw[ae]) λz=>H ?_).symm
    have G:=cQ.mp z;rcases u with⟨_,_,P⟩|⟨x,n,_⟩
    .exact⟨f.tell e r,by rw[P],G.1⟩
    .have P:f.a=[]:=G.2;rw[n]at P;cases P
   .have O:stp M ⟨f::fs,cl,cb,th⟩=⟨⟨plc M (-e),[-e],[],frm M (-e)⟩::f.tell e r::fs,cl,cb++[(plc M (-e), -e)],th++[("down", e)]⟩:=by
     unfold stp;simp only[q];rw[pK c]
    rw[O];refine .down (by rw[l]) (by rw[l]) (by rw[l];exact c) (by rw[l];exact val) ?_ (by rw[l];exact R) ?_
    .rw[l];show([-e]++(f.a++fs.flatMap (·.a))).reverse=(f.a++fs.flatMap (·.a)).reverse++[-e];rw[dg];rfl
    .rw[l];exact((K1 B (B.hneg e Q)).nxt (L:=[]) rfl ⋯).symm
  |nil=>
   cases fs with
   |nil=>exact absurd ⟨f,rfl,q⟩ S
   |cons g E=>
    obtain⟨⟨x,d,n,ed⟩,ch⟩:=h.ch;have l:(⟨f::g::E,cl,cb,th⟩:Sw).cur=x:=by show(f.r++f.a).headD 0=x;rw[q,n];rfl
    have cx:x∈f.c:=by unfold Fm.c;rw[n];simp
    obtain⟨xM,px⟩:=I.mem B cx;have xt:=h.ahead (ah ..) (y:=x) (by rw[n];simp) B.hn
    have O:stp M ⟨f::g::E,cl,cb,th⟩=⟨g::E,f.p::cl,cb,th++[("up", x)]⟩:=by
     unfold stp;simp only[q,n]
    rw[l,O];refine⟨xM,xt,.up (by rw[l]) rfl ?_ ?_ λH=>?_⟩
    .rw[l,px];exact Ea h.kn (h.cv f (ah ..) x n)
    .rw[l];show(f.a++(g::E).flatMap (·.a)).reverse=((g::E).flatMap (·.a)).reverse++[x];rw[n,dg];rfl
    .rw[l];refine((h.ok g ⋯).nxt (by rw[ed,ae]) λz=>H ?_).symm
     have G:=cQ.mp z;cases E with
     |nil=>exact⟨g,rfl,G.1⟩
     |cons k ks=>
      obtain⟨⟨y,_,ey,_⟩,_⟩:=ch;exact absurd G.2 (by rw[ey];simp)
theorem xq(l:Mp M)(t:0<M.length)(one:∀k,k<M.length->tZ M 0 k):∀n,n<=M.flatten.length->(run M n).th.length=n
 |0,_=>rfl
 |n+1,h=>by
  have z:=xq l t one n ∅
  have w:=tH l t n;have u:¬ Fin (run M n):=λf=>by
   have:=(w.whole l f one).1;lia
  have e:(run M (n+1)).th.length=(run M n).th.length+1:=by
   rcases(Ny l w u).2.2 with⟨a,_⟩|⟨a,_⟩|⟨a,_⟩
   all_goals
    show(stp M (run M n)).th.length=_;rw[a,lAq];rfl
  lia
def Ae(l:Mp M)(t:0<M.length)(one:∀k,k<M.length->tZ M 0 k)(h:n<M.flatten.length):(run M n).cur∈M.flatten/\(run M n).cur∉(run M n).th.map (·.2)/\Go M (run M n) (run M (n+1))/\¬ Fin (run M n):=by
 have w:=tH l t n;have u:¬ Fin (run M n):=λf=>by
  have:=(w.whole l f one).1;have:=xq l t one n ∅
  lia
 obtain⟨a,b,c⟩:=Ny l w u;exact⟨a,b,c,u⟩
def uO(l:Mp M)(n:0<M.length)(one:∀k,k<M.length->tZ M 0 k):Fin (run M M.flatten.length):=ir λt=>by
 have:=(tH l n M.flatten.length).less t;have:=xq l n one M.flatten.length (af _);lia
def TX(M:Λ)(s:Sw)(e:Int)(v6:Option AV):AS:=[some (.sh (dM M)),some (.owd (qv 0 M)),some (.owd (K51.ud (K51.pE M))),some (.owd (DC s)),some (.ow (s.th.map AR)),i0 e,v6]
noncomputable def muw(N:Nat):AS->Nat
 | [_,_,_,_,some (.ow l),_,_]=>N-l.length
 |_=>0
def Wn(h:p∉s.ks)v:xC (DC s) (.inl (p:Int)) (.int v)=DC ⟨s.st,s.cl,s.cb++[(p,v)],s.th⟩:=by
 unfold xC;have:(DC s).any (λkv=>decide (kv.1=(aN (p:Int))))=false:=by
  rw[jl];intro q;refine h (decide_eq_true_iff.mp ?_);rw[←NY s p];unfold Z.getD;rw[dQ,fD];obtain⟨x,l,n⟩:=fN.mp q;exact⟨x,l,n⟩
 rw[this];unfold DC;rw[mBq];rfl
def We(n:Mp M)(B:s.cur∈M.flatten)(g:Go M s t)(hl:s.th.length<=1000)(hk:s.cb.length<=1000):∃e G,K51.wc (TX M s s.cur v6)=some (.nx (TX M t e G))/\(¬ Fin t->e=t.cur):=by
 have H:Z.getD (qv 0 M) (.inl s.cur)=some (.int (plc M s.cur:Int)):=(vz n).kv B;have I:Z.getD (qv 0 M) (.inl (-s.cur))=some (.int (plc M (-s.cur):Int)):=(vz n).kv (n.hneg _ B);have S:=xQ n.hn B;have Q:=xQ n.hn (n.hneg _ B);have hs:=NY s (plc M (-s.cur));have J:(s.th.map AR).length<qM:=by rw[lMq];show _<16777216;lia
 have l:s.th.length<qM:=by show _<16777216;lia
 have R:(DC s).length<qM:=by
  show(s.cb.map _).length+1<16777216;rw[lMq];lia
 have u:∀w:String,s.th.map AR++[.sh (.tup [.str w,.int s.cur])]=(s.th++[(w,s.cur)]).map AR:=λw=>by rw[mBq];rfl
 rcases g with⟨a,b,c,_,d⟩|⟨a,b,c,⟨v,L,O⟩,_,_,d⟩|⟨a,b,c,⟨v,L,O⟩,_,_,d⟩
 .refine⟨nx M (-s.cur),i0 (plc M (-s.cur):Int),?_,λE=>(d E).symm⟩
  have z:DC t=DC s:=by unfold DC;rw[b]
  have U:decide (s.cur=s.cur)=true:=d0 rfl;have u:=u "up";unfold TX;rw[z,a]
  simp_arith [K51.wc,H,I,c,U,J,l,u,Q]
 .refine⟨nx M (-s.cur),i0 (plc M (-s.cur):Int),?_,λE=>d.symm⟩
  rw[d4 c]at hs;have z:=Wn c (-s.cur);have P:DC t=DC ⟨s.st,s.cl,s.cb++[(plc M (-s.cur), -s.cur)],s.th⟩:=by unfold DC;rw[b]
  unfold TX;rw[P,a,←z]
  simp_arith [K51.wc,H,I,L,O,hs,J,l,R,u,Q]
 .refine⟨nx M s.cur,i0 (plc M (-s.cur)),?_,λE=>(d E).symm⟩
  rw[d0 c]at hs;have z:DC t=DC s:=by unfold DC;rw[b]
  unfold TX;rw[z,a]
  simp_arith [K51.wc,H,I,L,O,hs,J,l,R,u,S]
def aav(n:Mp M)(h:Wi M s):s.cb.length<=M.length:=by
 have:=K51.XG M.length s.ks h.kn λk hk=>by
  rcases mAq.mp ((h.ck k).mp hk)with z|z
  .obtain⟨g,l,rfl⟩:=mMq.mp z;exact(h.ok g l).lt
  .exact h.lc k z
 unfold Sw.ks at this;rw[lCq,lMq]at this;lia
end
end K52
namespace K54
open PySem L2 Mr Z Xe Zl
open K18 (pp cp PC tq vV qa Ln nL sG)
open K43 (vz qm rW)
open K51 (tZ)
open K52 (Fm Sw Wi Qh run stp Fin frm K1 row_at ZH tH Ae uO xq)
noncomputable def sS(s:Sw):Ϝ:=(s.th.filter λx=>decide (x.1 = "side")).map (·.2)
def big(s:Sw):Ϝ:=sS s++s.st.flatMap (·.r)
def far(M:Λ)(s:Sw):Λ:=((aF M.length).filter λk=>decide (k∉s.ks)).map λk=>M.getD k []
def Cw(M:Λ)(s:Sw):Λ:=big s::far M s
def wk(th:List (String×Int))w e:((th++[(w,e)]).filter λx=>decide (x.1 = "side")).map (·.2)=(th.filter λx=>decide (x.1 = "side")).map (·.2)++(if w = "side" then [e]else []):=by
 rw[cM,mBq]
 by_cases h:w = "side"
 .rw[pO h,bW (by simpa using h)]
  rfl
 .rw[pK h,de (by simpa using h)]
  rfl
def Wa{r:Ϝ}(h:x∈r):∃X Y,r=X++x::Y/\r.drop (r.idxOf x+1)++r.take (r.idxOf x)=Y++X:=by
 have lt:=gY h;refine⟨r.take (r.idxOf x),r.drop (r.idxOf x+1),?_,rfl⟩;have e:=fV lt
 conv=>lhs;rw[←aZ (r.idxOf x) r,ax lt,e]
def Vw(u:Mp M)(h:Wi M s)(J:¬ Fin s):Cw M (stp M s)=Cw M s∨∃(A B F:Ϝ) (e:Int) (R:Λ),big s=A++e::B/\big (stp M s)=A++F++B/\far M (stp M s)=R/\(∃t,(far M s).Perm (t::R)/\t≠[]/\∀q,(cp t).count q=(cp (-e::F)).count q):=by
 obtain⟨st,cl,cb,th⟩:=s;cases st with
 |nil=>exact h.ch.elim
 |cons f fs=>
  have L:=h.ok f (ah ..);cases q:f.r with
  |cons e r=>
   have O:e∈f.c:=by unfold Fm.c;rw[q];simp
   obtain⟨P,pe⟩:=L.mem u O
   by_cases c:plc M (-e)∈(⟨f::fs,cl,cb,th⟩:Sw).ks
   .left;have l:stp M ⟨f::fs,cl,cb,th⟩=⟨f.tell e r::fs,cl,cb,th++[("side", e)]⟩:=by
     unfold K52.stp;simp only[q];rw[pO c]
    rw[l];unfold Cw;have E:big ⟨f.tell e r::fs,cl,cb,th++[("side", e)]⟩=big ⟨f::fs,cl,cb,th⟩:=by
     unfold big sS;show((th++[("side", e)]).filter _).map _++(r++fs.flatMap (·.r))=(th.filter _).map _++(f.r++fs.flatMap (·.r));rw[wk,pO rfl,q];simp
    rw[E];rfl
   .right;have l:stp M ⟨f::fs,cl,cb,th⟩=⟨⟨plc M (-e),[-e],[],frm M (-e)⟩::f.tell e r::fs,cl,cb++[(plc M (-e), -e)],th++[("down", e)]⟩:=by
     unfold K52.stp;simp only[q];rw[pK c]
    obtain⟨tl,G⟩:=row_at u (u.hneg e P);have Q:(⟨⟨plc M (-e),[-e],[],frm M (-e)⟩::f.tell e r::fs,cl,cb++[(plc M (-e), -e)],th++[("down", e)]⟩:Sw).ks=(⟨f::fs,cl,cb,th⟩:Sw).ks++[plc M (-e)]:=by
     unfold K52.Sw.ks;rw[mBq];rfl
    refine⟨(th.filter λx=>decide (x.1 = "side")).map (·.2),r++fs.flatMap (·.r),frm M (-e),e,_,?_,?_,rfl,M.getD (plc M (-e)) [],?_,λz=>(by rw[z]at G;cases G),?_⟩
    .show(th.filter _).map _++(f.r++fs.flatMap (·.r))=_;rw[q];rfl
    .rw[l];show((th++[("down", e)]).filter _).map _++(frm M (-e)++(r++fs.flatMap (·.r)))=_;rw[wk,pK ⋯,aNq,ae]
    .rw[l];unfold far;rw[Q];refine aE.map (λk=>M.getD k []) ((aL (cY.filter _) (aq.mpr ⟨λz=>?_,cY.filter _⟩)).mpr λk=>?_)
     .have:=(bq.mp z).2;simp at this
     .rw[aa,bq,bq,bA,decide_eq_true_iff,decide_eq_true_iff,mAq,mSq];constructor
      .rintro⟨H,I⟩
       by_cases z:k=plc M (-e)
       .exact .inl z
       .exact .inr ⟨H,λw=>w.elim I z⟩
      .rintro(z|⟨H,I⟩)
       .rw[z];exact⟨tl,c⟩
       .exact⟨H,λw=>I (.inl w)⟩
    .intro p;obtain⟨X,Y,S,U⟩:=Wa G;rw[S];unfold K52.frm;rw[U];exact tq X (-e::Y) p
  |nil=>
   cases fs with
   |nil=>exact absurd ⟨f,rfl,q⟩ J
   |cons g n=>
    left;obtain⟨⟨x,d,ea,ed⟩,ch⟩:=h.ch;have l:stp M ⟨f::g::n,cl,cb,th⟩=⟨g::n,f.p::cl,cb,th++[("up", x)]⟩:=by
     unfold K52.stp;simp only[q,ea]
    rw[l];unfold Cw;have E:big ⟨g::n,f.p::cl,cb,th++[("up", x)]⟩=big ⟨f::g::n,cl,cb,th⟩:=by
     show((th++[("up", x)]).filter _).map _++(g::n).flatMap (·.r)=(th.filter _).map _++(f.r++(g::n).flatMap (·.r));rw[wk,pK ⋯,aNq,q]
     rfl
    rw[E];rfl
def acn{A:Ϝ}{R:Λ}(hn:((A++F++B)::R).flatten.Nodup)(H:Ln ((A++F++B)::R) E):∃l,Ln ((A++e::B)::(-e::F)::R) l/\nL ((A++e::B)::(-e::F)::R) l=nL ((A++F++B)::R) E:=by
 have I:∀q,(PC (((B++A)++F)::R)).count q=(PC ((A++F++B)::R)).count q:=λq=>by
  rw[qa,qa,ae B A F,tq B (A++F)]
 have n:=H.congr λq=>I q
 have t:(((B++A)++F)::R).flatten.Nodup:=by
  refine(aE.nodup_iff (aE.append_right _ ?_)).mpr hn;rw[ae];exact aG
 obtain⟨l,J,G⟩:=Ln.newp n t (i:=0) rfl e;have L:∀q,(PC ((A++e::B)::(-e::F)::R)).count q=(PC ((((B++A)++F)::R).set 0 ((B++A)++[e])++[-e::F])).count q:=λq=>by
  show _=(PC ((((B++A)++[e])::R)++[-e::F])).count q;have pm:((((B++A)++[e])::R)++[-e::F]).Perm (((B++A)++[e])::(-e::F)::R):=aE.cons _ aG;rw[vV pm,qa,qa,qa,qa,ae B A [e],tq B (A++[e])];have:A++[e]++B=A++e::B:=by simp
  rw[this]
 refine⟨l,J.congr λq=>L q,?_⟩
 unfold K18.nL at G ⊢;have O:((A++e::B)::(-e::F)::R).count []=R.count []:=by
  rw[sG,sG,pK ⋯,pK ⋯]
  lia
 have P:((((B++A)++F)::R).set 0 ((B++A)++[e])++[-e::F]).count []=R.count []:=by
  simp
 have Q:(((B++A)++F)::R).count []=((A++F++B)::R).count []:=by
  rw[sG,sG];congr 1;refine ite_congr (propext ?_) (λ_=>rfl) λ_=>rfl
  simp only[cQ];constructor
  .rintro⟨⟨u,x⟩,z⟩;exact⟨⟨x,z⟩,u⟩
  .rintro⟨⟨u,x⟩,z⟩;exact⟨⟨z,u⟩,x⟩
 rw[O,←P,G,Q]
def aa5(t:Mp M)(h:Wi M s):(Cw M s).flatten.Nodup:=by
 obtain⟨F,sub,pm⟩:=h.full;have nd:=pm.nodup_iff.mpr (t.hn.sublist sub);have sb:(big s).Sublist (s.th.map (·.2)++s.st.flatMap λf=>f.a++f.r):=by
  unfold big sS;refine bZ.append (cu.map _) ?_;generalize s.st=st
  induction st with
  |nil=>exact .refl _
  |cons f fs J=>exact bZ.append (fQ _ _) J
 have sf:(far M s).flatten.Sublist M.flatten:=by
  have:=K17.Ct ((cu (p:=λk=>decide (k∉s.ks)) (l:=aF M.length)).map λk=>M.getD k [])
  rwa [rW]at this
 have E:∀x∈big s,plc M x∈s.ks:=λx u=>by
  have u:=sb.subset u;rw[h.ck];rcases mAq.mp u with z|z
  .rcases mAq.mp (h.tl.mem_iff.mp z)with z|z
   .obtain⟨f,B,n⟩:=bf.mp z;rw[((h.ok f B).mem t (by unfold Fm.c;exact ao _ (aj _ n))).2]
    exact ao _ (mMq.mpr ⟨f,B,rfl⟩)
   .obtain⟨p,I,G⟩:=bf.mp z;rw[plc_eq t.hn (qm (h.lc p I)) G];exact aj _ I
  .obtain⟨f,B,n⟩:=bf.mp z;have:x∈f.c:=by
    unfold Fm.c;rcases mAq.mp n with w|w
    .exact ao _ (ao _ w)
    .exact aj _ w
   rw[((h.ok f B).mem t this).2];exact ao _ (mMq.mpr ⟨f,B,rfl⟩)
 unfold Cw;rw[fCq];refine nAq.mpr ⟨nd.sublist sb,t.hn.sublist sf,λx u y L e=>?_⟩
 subst e;obtain⟨r,hr,H⟩:=mFq.mp L;obtain⟨k,hk,rfl⟩:=mMq.mp hr;obtain⟨O,P⟩:=bq.mp hk;have:plc M x=k:=plc_eq t.hn (qm (bA.mp O)) H;exact of_decide_eq_true P (this ▸ E x u)
def Yc(u:Mp M)(h:Wi M s)(E:¬ Fin s)(n:Ln (Cw M (stp M s)) x):∃l,Ln (Cw M s) l/\nL (Cw M s) l=nL (Cw M (stp M s)) x:=by
 rcases Vw u h E with z|⟨A,B,F,e,R,b1,b2,G,t,pt,H,ct⟩
 .rw[z]at n ⊢;exact⟨x,n,rfl⟩
 .have I:Cw M (stp M s)=(A++F++B)::R:=by unfold Cw;rw[b2,G]
  have nd:=aa5 u (K52.G9 u h);rw[I]at n nd ⊢;obtain⟨l,J,L⟩:=acn nd n;have pm:(Cw M s).Perm ((A++e::B)::t::R):=by unfold Cw;rw[b1];exact aE.cons _ pt
  refine⟨l,J.congr λq=>?_,?_⟩
  .rw[vV pm,qa,qa,qa,qa,ct q]
  .rw[←L];unfold K18.nL;rw[pm.count_eq,sG,sG,sG,sG,pK (show ¬ A++e::B=[] by simp),pK H,pK ⋯]
theorem Qp(u:Mp M)(x:0<M.length)(one:∀k,k<M.length->tZ M 0 k):∀n,n<=M.flatten.length->∀{l},Ln (Cw M (run M n)) l->∃t,Ln (Cw M (run M 0)) t/\nL (Cw M (run M 0)) t=nL (Cw M (run M n)) l
 |0,_,l,z=>⟨l,z,rfl⟩
 |n+1,hn,l,z=>by
  obtain⟨_,_,_,B⟩:=Ae u x one (show n<M.flatten.length by lia)
  obtain⟨J,E,G⟩:=Yc u (tH u x n) B z;obtain⟨L2,H,I⟩:=Qp u x one n ∅ E
  exact⟨L2,H,I.trans G⟩
def UH(l:Mp M)(n:0<M.length)(one:∀k,k<M.length->tZ M 0 k)(E:Ln [sS (run M M.flatten.length)] B):∃t,Ln M t/\nL M t=nL [sS (run M M.flatten.length)] B:=by
 have w:=tH l n M.flatten.length;have G:Cw M (run M M.flatten.length)=[sS (run M M.flatten.length)]:=by
  obtain⟨f,e,u⟩:=uO l n one;have S:=(w.whole l (uO l n one) one).2.1;unfold Cw;have x:big (run M M.flatten.length)=sS (run M M.flatten.length):=by
   unfold big;rw[e];show _++(f.r++[])=_;rw[u];simp
  have H:far M (run M M.flatten.length)=[]:=by
   unfold far;rw[iZ,iI];intro k hk;intro z;have z:=of_decide_eq_true z;have:=K51.XG M.length (k::(run M M.flatten.length).ks) (aq.mpr ⟨z,w.kn⟩) λp I=>by
    rcases aa.mp I with q|q
    .rw[q];exact bA.mp hk
    .rcases mAq.mp ((w.ck p).mp q)with q|q
     .obtain⟨g,J,rfl⟩:=mMq.mp q;exact(w.ok g J).lt
     .exact w.lc p q
   rw[lCq]at this;lia
  rw[x,H]
 rw[←G]at E;obtain⟨L,O,x⟩:=Qp l n one M.flatten.length (af _) E;have pm:(Cw M (run M 0)).Perm M:=by
  have u:=rW M;have P:(0::(aF M.length).filter λk=>decide (k∉(run M 0).ks)).Perm (aF M.length):=by
   refine(aL (aq.mpr ⟨λz=>?_,cY.filter _⟩) cY).mpr λk=>?_
   .have:=of_decide_eq_true (bq.mp z).2;exact this (ah ..)
   .rw[aa,bq,bA,decide_eq_true_iff];have Q:k∈(run M 0).ks↔k=0:=mSq;constructor
    .rintro(z|z)
     .rw[z];exact n
     .exact z.1
    .intro z
     by_cases c:k=0
     .exact .inl c
     .exact .inr ⟨z,λq=>c (Q.mp q)⟩
  have:=P.map λk=>M.getD k []
  rw[u]at this;have R:big (run M 0)=M.getD 0 []:=by
   show[]++(M.getD 0 []++[])=_;simp
  unfold Cw;rw[R];exact this
 refine⟨L,O.congr λq=>(vV pm q).symm,?_⟩
 rw[←G,←x];unfold K18.nL;rw[pm.count_eq]
end K54
namespace K47
open PySem L2 Mr Z Xe Zl
open K18 (PC xJ qa vV cp Ln nL sG)
open K43 (vz isB)
open K17 (cls C2 Ei vX zd CY wN uZ Bp)
open K51 (tZ Ps Pc)
def pn(M:Λ):Nat:=@dite _ (∃kn PS,Ps M M.length kn PS) (fc _) (λh=>(Classical.choose (gI h)).length) λ_=>0
section
variable {N:Λ}
def MY(l:Mp M){PS}(n:Ps M M.length kn PS):PS.length=pn M:=by
 have h:∃kn PS,Ps M M.length kn PS:=⟨kn,PS,n⟩;unfold pn;rw[dif_pos h];exact wN (vz l) (vz l) n (gI (gI h)) (λ_=>Iff.rfl) rfl (λS _ hr=>hr) λS _ hr=>hr
def uU(l:Mp M):∃kn PS,Ps M M.length kn PS/\PS.length=pn M:=by
 obtain⟨kn,PS,n,_⟩:=K51.pieces_ok (vz l);exact⟨kn,PS,n,MY l n⟩
def ZQ(n:Mp M)(hn:Mp N)(hs:∀x,x∈M.flatten↔x∈N.flatten)(hb:M.count []=N.count [])(s:∀S:Int->Prop,(∀x,S x->S (-x))->(∀r∈N,∀x∈r,∀y∈r,S x->S y)->∀r∈M,∀x∈r,∀y∈r,S x->S y)(t:∀S:Int->Prop,(∀x,S x->S (-x))->(∀r∈M,∀x∈r,∀y∈r,S x->S y)->∀r∈N,∀x∈r,∀y∈r,S x->S y):pn M=pn N:=by
 obtain⟨_,PS,u,e⟩:=uU n;obtain⟨_,B,l,E⟩:=uU hn;rw[←e,←E];exact wN (vz n) (vz hn) u l hs hb s t
def Nf(l:Mp M)(h:M.Perm N):Mp N:=⟨(pI h).nodup_iff.mp l.hn,by rw[← (pI h).length_eq];exact l.hl,by rw[←h.length_eq];exact l.hr,λe n=>(pI h).mem_iff.mp (l.hneg e ((pI h).mem_iff.mpr n))⟩
def M5(n:Mp M)(h:M.Perm N):pn M=pn N:=ZQ n (Nf n h) (λx=>(pI h).mem_iff) (h.count_eq _) (λS _ hr r l=>hr r (h.mem_iff.mp l)) λS _ hr r l=>hr r (h.mem_iff.mpr l)
def Ti(l:Mp (X++Y))(hX:∀e∈X.flatten, -e∈X.flatten)(hY:∀e∈Y.flatten, -e∈Y.flatten):pn (X++Y)=pn X+pn Y:=by
 have hn:=l.hn;rw[fAq]at hn;obtain⟨n1,n2,n3⟩:=nAq.mp hn;have l1:=l.hl;have l2:=l.hr;rw[fAq,lAq]at l1;rw[lAq]at l2;have I:Mp X:=⟨n1,by lia,by lia,hX⟩
 have J:Mp Y:=⟨n2,by lia,by lia,hY⟩
 obtain⟨_,PX,P,eX⟩:=uU I;obtain⟨_,PY,Q,eY⟩:=uU J;obtain⟨_,PA,pA,eA⟩:=uU l;rw[←eX,←eY,←eA];have bX:=C2 (vz I) P;have bY:=C2 (vz J) Q;have qX:=K12.tJ P;have qY:=K12.tJ Q;have qA:=K12.tJ pA;have R:=uZ qX;have S:=uZ qY;have U:Bp (cls X PX++cls Y PY):=⟨by
   rw[fAq,fAq];exact(R.append S).nodup_iff.mpr hn,λp L=>by
   rcases mAq.mp L with h|h
   .exact bX.ne p h
   .exact bY.ne p h,λp L hb=>by
   rcases mAq.mp L with h|h
   .exact bX.ba p h hb
   .exact bY.ba p h hb⟩
 have:=CY (C2 (vz l) pA) U (λx=>by
  rw[(uZ qA).mem_iff,fAq,fAq,fAq,mAq,mAq,R.mem_iff,S.mem_iff]) (λp L q hq x O u y=>by
  obtain⟨ps,hps,rfl⟩:=mMq.mp L;obtain⟨s,_,pc⟩:=pA.pc ps hps;rcases mAq.mp hq with h|h
  .obtain⟨B,n,rfl⟩:=mMq.mp h;obtain⟨t,_,E⟩:=P.pc B n;have sub:∀a,a∈(B.map λk=>X.getD k []).flatten->a∈X.flatten:=λa ha=>R.mem_iff.mp (mFq.mpr (by
    obtain⟨r,hr,G⟩:=mFq.mp ha;exact⟨r,mFq.mpr ⟨_,mMq.mpr ⟨B,n,rfl⟩,hr⟩,G⟩))
   refine⟨Ei (vz l) pc (λz H=>vX (vz I) E H) (λr hr a ha b hb h=>?_) O u y,Ei (vz I) E (λz H=>vX (vz l) pc H) (λr hr a ha b hb h=>zd (vz l) pc (ao _ hr) ha hb h) u O y⟩
   rcases mAq.mp hr with hr|hr
   .exact zd (vz I) E hr ha hb h
   .exact absurd rfl (n3 a (sub a h) a (mFq.mpr ⟨r,hr,ha⟩))
  .obtain⟨B,n,rfl⟩:=mMq.mp h;obtain⟨t,_,E⟩:=Q.pc B n;have sub:∀a,a∈(B.map λk=>Y.getD k []).flatten->a∈Y.flatten:=λa ha=>S.mem_iff.mp (mFq.mpr (by
    obtain⟨r,hr,G⟩:=mFq.mp ha;exact⟨r,mFq.mpr ⟨_,mMq.mpr ⟨B,n,rfl⟩,hr⟩,G⟩))
   refine⟨Ei (vz l) pc (λz H=>vX (vz J) E H) (λr hr a ha b hb h=>?_) O u y,Ei (vz J) E (λz H=>vX (vz l) pc H) (λr hr a ha b hb h=>zd (vz l) pc (aj _ hr) ha hb h) u O y⟩
   rcases mAq.mp hr with hr|hr
   .exact absurd rfl (n3 a (mFq.mpr ⟨r,hr,ha⟩) a (sub a h))
   .exact zd (vz J) E hr ha hb h) (by
  rw[fAq,cAq,qA.count_eq,qX.count_eq,qY.count_eq,cAq])
 rw[lAq]at this
 rwa [lMq,lMq,lMq]at this
end
end K47
namespace K47
open PySem L2 Mr Z Xe Zl
open K18 (PC xJ qa vV cp Ln nL sG yV)
open K43 (vz isB)
open K51 (tZ Ps Pc)
structure Mv (M:Λ):Prop where
 mp:Mp M
 nz:∀e∈M.flatten,e≠0
 lv:M.length<=450
 le:M.flatten.length<=450
def Bl(M:Λ):Prop:=∃l,Ln M l/\4*pn M+M.flatten.length=2*M.length+2*nL M l
end K47
namespace K54
open PySem L2 Mr Z Xe Zl
open K18 (Ln nL yV)
open K43 (vz qm)
open K47 (pn uU Bl Mv)
open K51 (tZ)
open K52 (Fm Sw Wi run stp Fin frm tH Ae uO xq)
def Qz(h:Wi M s)(t:¬ Fin s):(sS (stp M s)).length+(stp M s).cb.length+(stp M s).cl.length=(sS s).length+s.cb.length+s.cl.length+1:=by
 obtain⟨st,cl,cb,th⟩:=s;cases st with
 |nil=>exact h.ch.elim
 |cons f fs=>
  cases q:f.r with
  |cons e r=>
   by_cases c:plc M (-e)∈(⟨f::fs,cl,cb,th⟩:Sw).ks
   .have l:stp M ⟨f::fs,cl,cb,th⟩=⟨f.tell e r::fs,cl,cb,th++[("side", e)]⟩:=by
     unfold K52.stp;simp only[q];rw[pO c]
    rw[l];unfold sS;rw[wk,pO rfl,lAq,lSq];dsimp only;lia
   .have l:stp M ⟨f::fs,cl,cb,th⟩=⟨⟨plc M (-e),[-e],[],frm M (-e)⟩::f.tell e r::fs,cl,cb++[(plc M (-e), -e)],th++[("down", e)]⟩:=by
     unfold K52.stp;simp only[q];rw[pK c]
    rw[l];unfold sS;rw[wk,pK ⋯,aNq]
    dsimp only;rw[lAq,lSq];lia
  |nil=>
   cases fs with
   |nil=>exact absurd ⟨f,rfl,q⟩ t
   |cons g n=>
    obtain⟨⟨x,d,u,z⟩,ch⟩:=h.ch;have l:stp M ⟨f::g::n,cl,cb,th⟩=⟨g::n,f.p::cl,cb,th++[("up", x)]⟩:=by
     unfold K52.stp;simp only[q,u]
    rw[l];unfold sS;rw[wk,pK ⋯,aNq]
    dsimp only;rw[lCq];lia
theorem Nt(l:Mp M)(t:0<M.length)(one:∀k,k<M.length->tZ M 0 k):∀n,n<=M.flatten.length->(sS (run M n)).length+(run M n).cb.length+(run M n).cl.length=n
 |0,_=>rfl
 |n+1,hn=>by
  have u:=Nt l t one n ∅
  have:=Qz (tH l t n) (Ae l t one ∅).2.2.2
  show(sS (stp M (run M n))).length+(stp M (run M n)).cb.length+(stp M (run M n)).cl.length=_;lia
def Oo(l:Mp M)(n:0<M.length)(one:∀k,k<M.length->tZ M 0 k):(sS (run M M.flatten.length)).length+2*M.length=M.flatten.length+2:=by
 have a:=Nt l n one M.flatten.length (af _);have w:=tH l n M.flatten.length;obtain⟨f,e,_⟩:=uO l n one;have x:=(w.whole l (uO l n one) one).2.1;have z:(run M M.flatten.length).ks.length=(run M M.flatten.length).cb.length+1:=by unfold K52.Sw.ks;rw[lCq,lMq]
 have t:=(aL w.nd w.kn).mpr λk=>(w.ck k).symm
 have u:=t.length_eq;rw[lAq,e]at u;have B:([f].map (·.p)).length=1:=rfl;lia
def X1(l:Mp M)(n:0<M.length)(one:∀k,k<M.length->tZ M 0 k):pn M=1:=by
 obtain⟨kn,PS,t,e⟩:=uU l;rw[←e];exact K51.G3 t n λa b ha hb=>((one a ha).symm (vz l)).trans (one b hb)
end K54
namespace K54
open PySem L2 Mr Z Xe Zl
open K43 (vz qm)
open K51 (tZ)
open K52 (Fm Sw Wi run stp Fin Go DC Ea tH Ae uO xq)
def Vt(u:Mp M)(h:Wi M s)(G:x∈s.th.map (·.2)):plc M x∈s.ks:=by
 rw[h.ck];rcases mAq.mp (h.tl.mem_iff.mp G)with z|z
 .obtain⟨f,B,l⟩:=bf.mp z;rw[((h.ok f B).mem u (by exact ao _ (aj _ l))).2]
  exact ao _ (mMq.mpr ⟨f,B,rfl⟩)
 .obtain⟨p,E,n⟩:=bf.mp z;rw[plc_eq u.hn (qm (h.lc p E)) n];exact aj _ E
def Xh{p:Nat}(h:Z.getD (DC s) (.inl (p:Int))=some (.int v)):v∈s.cb.map (·.2):=by
 obtain⟨q,n,l⟩:=oMq.mp h;have:=List.mem_of_find?_eq_some n;rcases aa.mp this with z|z
 .rw[z]at l;cases l
 .obtain⟨c,u,rfl⟩:=mMq.mp z;have:=l;cases this;exact mMq.mpr ⟨c,u,rfl⟩
structure Si (M:Λ)(s:Sw):Prop where
 dn:∀e,("down", e)∈s.th->-e∈s.cb.map (·.2)
 up:∀e,("up", e)∈s.th->e∈s.cb.map (·.2)
 sd:∀e,("side", e)∈s.th->e∉s.cb.map (·.2)/\-e∉s.cb.map (·.2)
 vt:∀v∈s.cb.map (·.2),("down", -v)∈s.th
 pl:∀c∈s.cb,plc M c.2=c.1
 wd:∀x∈s.th,x.1 = "down" ∨ x.1 = "up" ∨ x.1 = "side"
def Si.step(L:Mp M)(w:Wi M s)(h:Si M s)(hn:s.cur∉s.th.map (·.2))(g:Go M s t):Si M t:=by
 have n:∀{w:String}{e:Int},(w,e)∈s.th->e∈s.th.map (·.2):=λh=>mMq.mpr ⟨_,h,rfl⟩
 have last:∀{a b:String}{e f:Int},(a,e)∈s.th++[(b,f)]->(a,e)∈s.th∨(a=b/\e=f):=λh=>by
  rcases mAq.mp h with z|z
  .exact .inl z
  .have:=mSq.mp z;exact .inr ⟨congrArg jJ this,congrArg Prod.snd this⟩
 rcases g with⟨a,b,c,_,_⟩|⟨a,b,c,_,_,_,_⟩|⟨a,b,c,⟨v,G,H⟩,_,_,_⟩
 .refine⟨λe l=>?_,λe l=>?_,λe l=>?_,λv B=>?_,by rw[b];exact h.pl,λx u=>?_⟩
  .rw[a]at l;rw[b];rcases last l with z|⟨z,_⟩
   .exact h.dn e z
   .exact absurd z ⋯
  .rw[a]at l;rw[b];rcases last l with z|⟨_,z⟩
   .exact h.up e z
   .rw[z];exact Xh c
  .rw[a]at l;rw[b];rcases last l with z|⟨z,_⟩
   .exact h.sd e z
   .exact absurd z ⋯
  .rw[b]at B;rw[a];exact ao _ (h.vt v B)
  .rw[a]at u;rcases mAq.mp u with z|z
   .exact h.wd x z
   .rw[mSq.mp z];exact .inr (.inl rfl)
 .have cv:t.cb.map (·.2)=s.cb.map (·.2)++[-s.cur]:=by rw[b,mBq];rfl
  refine⟨λe l=>?_,λe l=>?_,λe l=>?_,λv B=>?_,λx u=>?_,λx u=>?_⟩
  .rw[a]at l;rw[cv];rcases last l with z|⟨_,z⟩
   .exact ao _ (h.dn e z)
   .rw[z];exact aj _ (mSq.mpr rfl)
  .rw[a]at l;rw[cv];rcases last l with z|⟨z,_⟩
   .exact ao _ (h.up e z)
   .exact absurd z ⋯
  .rw[a]at l;rw[cv];rcases last l with z|⟨z,_⟩
   .obtain⟨O,P⟩:=h.sd e z;have Q:e ≠ -s.cur:=λq=>c (by rw[←q];exact Vt L w (n z))
    have R:-e ≠ -s.cur:=λq=>hn (by
     have:s.cur=e:=by lia
     rw[this];exact n z)
    refine⟨λq=>?_,λq=>?_⟩
    .rcases mAq.mp q with q|q
     .exact O q
     .exact Q (mSq.mp q)
    .rcases mAq.mp q with q|q
     .exact P q
     .exact R (mSq.mp q)
   .exact absurd z ⋯
  .rw[cv]at B;rw[a];rcases mAq.mp B with z|z
   .exact ao _ (h.vt v z)
   .rw[mSq.mp z,bw];exact aj _ (mSq.mpr rfl)
  .rw[b]at u;rcases mAq.mp u with z|z
   .exact h.pl x z
   .rw[mSq.mp z]
  .rw[a]at u;rcases mAq.mp u with z|z
   .exact h.wd x z
   .rw[mSq.mp z];exact .inl rfl
 .refine⟨λe l=>?_,λe l=>?_,λe l=>?_,λv B=>?_,by rw[b];exact h.pl,λx u=>?_⟩
  .rw[a]at l;rw[b];rcases last l with z|⟨z,_⟩
   .exact h.dn e z
   .exact absurd z ⋯
  .rw[a]at l;rw[b];rcases last l with z|⟨z,_⟩
   .exact h.up e z
   .exact absurd z ⋯
  .rw[a]at l;rw[b];rcases last l with z|⟨_,z⟩
   .exact h.sd e z
   .rw[z];refine⟨λq=>?_,λq=>?_⟩
    .obtain⟨p,I,J⟩:=mMq.mp q;have pp:=h.pl p I;rw[J]at pp;have E:(p.1,s.cur)∈s.cb:=by rw[←J];exact I
     have S:=Ea w.kn E;rw[pp,S]at G;cases G;rw[HI,d0 rfl]at H;cases H
    .have:=h.vt _ q;rw[bw]at this;exact hn (n this)
  .rw[b]at B;rw[a];exact ao _ (h.vt v B)
  .rw[a]at u;rcases mAq.mp u with z|z
   .exact h.wd x z
   .rw[mSq.mp z];exact .inr (.inr rfl)
theorem LN(l:Mp M)(u:0<M.length)(one:∀k,k<M.length->tZ M 0 k):∀n,n<=M.flatten.length->Si M (run M n)
 |0,_=>⟨λe h=>(by cases h),λe h=>(by cases h),λe h=>(by cases h),λv h=>(by cases h),λc h=>(by cases h),λx h=>(by cases h)⟩
 |n+1,hn=>by
  obtain⟨_,b,c,_⟩:=Ae l u one (show n<M.flatten.length by lia)
  exact(LN l u one n ∅).step l (tH l u n) b c
def Uc(n:Mp M)(H:0<M.length)(one:∀k,k<M.length->tZ M 0 k):Mp [sS (run M M.flatten.length)]:=by
 have w:=tH n H M.flatten.length;have B:=LN n H one M.flatten.length (af _);obtain⟨_,_,E⟩:=w.whole n (uO n H one) one;have I:[sS (run M M.flatten.length)].flatten=sS (run M M.flatten.length):=by simp
 have sb:(sS (run M M.flatten.length)).Sublist ((run M M.flatten.length).th.map (·.2)):=cu.map _;have mem:∀{x:Int},x∈sS (run M M.flatten.length)↔("side", x)∈(run M M.flatten.length).th:=λ{x}=>by
  constructor
  .intro h;obtain⟨q,G,e⟩:=mMq.mp h;obtain⟨J,L⟩:=bq.mp G;have:q=("side", x):=jc (of_decide_eq_true L) e;rw[←this];exact J
  .exact λh=>mMq.mpr ⟨_,bq.mpr ⟨h,by simp⟩,rfl⟩
 have R:=sb.length_le;have S:=E.length_eq;have hl:=n.hl;refine⟨by rw[I];exact(E.nodup_iff.mpr n.hn).sublist sb,by rw[I];lia,by simp,λx u=>?_⟩
 rw[I]at u ⊢;have u:=mem.mp u;obtain⟨O,P⟩:=B.sd x u;have Q:=E.mem_iff.mpr (n.hneg x (E.mem_iff.mp (mMq.mpr ⟨_,u,rfl⟩)));obtain⟨q,G,e⟩:=mMq.mp Q;have l:(q.1, -x)∈(run M M.flatten.length).th:=by rw[←e];exact G
 rcases B.wd q G with z|z|z
 .rw[z]at l;have:=B.dn _ l;rw[bw]at this;exact absurd this O
 .rw[z]at l;exact absurd (B.up _ l) P
 .rw[z]at l;exact mem.mpr l
end K54
namespace K41
open PySem L2 Mr Z Xe Zl
noncomputable def thn(g t:Ϝ):Ϝ:=t.filter λe=>!decide (e∈g)
def pst(g:Ϝ)(M:Λ):Λ:=M.map (thn g)
end K41
namespace K41
open PySem L2 Mr Z Xe Zl
open K51 (tZ Pc)
noncomputable def ab(i:Int):Int:=if i<0 then -i else i
def ab_ i:(if i<0 then -i else i)=ab i:=rfl
end K41
namespace K41
open PySem L2 Mr Z Xe Zl K31
def MD x:ab (-x)=ab x:=by
 unfold ab;split <;> split <;> lia
noncomputable def drs(n:Nat)(g:Nat->Λ):Ϝ:=((aF n).filter λk=>decide (2<=(g k).length)).map λk:Nat=>(k:Int)
end K41
namespace K45
open PySem L2 Mr Z Xe Zl K31 K41
open K51 (tZ Pc)
def gr(r:Ϝ):Ϝ:=(r.map ab)++(r.map ab).map λz=>-z
def Tch(M:Λ)(z:Int)(a:Nat):Prop:=∃e row,M[a]?=some row/\e∈row/\ab e=z
def Lk(M:Λ)(r:Ϝ)(p:Nat)(z l:Int):Prop:=∃a b,a≠p/\b≠p/\Tch M z a/\Tch M l b/\tZ (pst (gr r) M) a b
structure Fam (E:Int->Int->Prop)(U:Ϝ)(X:Λ):Prop where
 so:∀x∈X,sk x=x
 ne:∀x∈X,x≠[]
 fl:X.flatten.Perm U
 eq:∀x∈X,∀z∈x,∀z'∈x,E z z'
 on:∀x∈X,∀y∈X,∀z∈x,∀z'∈y,E z z'->x=y
end K45
namespace K47
open PySem L2 Mr Z Xe Zl
open K18 (PC xJ qa vV cp Ln nL sG)
open K41 (ab MD pst thn)
open K45 (gr Tch Lk Fam)
open K51 (tZ Ps)
section
variable {N:Λ}
def Mv.perm(h:Mv M)(p:M.Perm N):Mv N:=⟨Nf h.mp p,λe l=>h.nz e ((pI p).mem_iff.mpr l),by rw[←p.length_eq];exact h.lv,by rw[← (pI p).length_eq];exact h.le⟩
end
end K47
namespace K54
open PySem L2 Mr Z Xe Zl
open K18 (Ln nL yV PC cp sG tq)
structure Wo (W:Ϝ):Prop where
 nd:W.Nodup
 ng:∀x∈W, -x∈W
 nz:∀x∈W,x≠0
 le:W.length<=400
section
variable {A B:Ϝ}
def Wo.mp(h:Wo W):Mp [W]:=by
 have l:[W].flatten=W:=by simp
 have:=h.le;exact⟨by rw[l];exact h.nd,by rw[l];lia,by simp,by rw[l];exact h.ng⟩
def Wo.sub{V}(w:Wo W)(s:V.Sublist W)(ng:∀x∈V, -x∈V):Wo V:=⟨w.nd.sublist s,ng,λx l=>w.nz x (s.subset l),cz s.length_le w.le⟩
def NI(z:Wo (A++B))(s:Ln [A++B] u):∃t,Ln [x::(A ++ -x::B)] t/\(nL [x::(A ++ -x::B)] t=nL [A++B] u+1∨nL [x::(A ++ -x::B)] t+1=nL [A++B] u):=by
 have J:∀{C D:Ϝ},C≠[]->D≠[]->∀L,nL [C] L=nL [D] L:=λ{C D} hC hD L=>by
  unfold K18.nL;rw[dG.mpr λq=>hC (mSq.mp q).symm,dG.mpr λq=>hD (mSq.mp q).symm]
 have rot:∀{C D L:Ϝ}{t:Λ},C++D≠[]->Ln [D++C] t->Ln [C++D] t:=λ{C D L t} _ h=>h.congr λq=>by
  show(K18.cp (C++D)++[]).count q=(K18.cp (D++C)++[]).count q;rw[aNq,aNq];exact tq C D q
 cases A with
 |nil=>
  obtain⟨L2,l,n⟩:=Ln.open s (i:=0) (r:=[]) (L:=B) rfl x
  exact⟨L2,l,.inl n⟩
 |cons a A=>
  cases B with
  |nil=>
   rw[aNq]at s ⊢;obtain⟨L2,l,n⟩:=Ln.open s (i:=0) (r:=[]) (L:=a::A) rfl (-x)
   have l:Ln [[-x]++(x::a::A)] L2:=by rw[bw]at l;exact l
   have n:nL [[-x]++(x::a::A)] L2=nL [a::A] u+1:=by rw[bw]at n;exact n
   refine⟨L2,rot (C:=x::a::A) (D:=[-x]) (L:=[]) ⋯ l,.inl ?_⟩
   rw[←n];exact J ⋯ ⋯ _
  |cons b B=>
   have ab:a≠b:=λq=>(nAq.mp z.nd).2.2 a (ah ..) b (ah ..) q
   have key:∃L2,Ln [a::A,b::B] L2/\(nL [a::A,b::B] L2=nL [a::A++b::B] u+1∨nL [a::A,b::B] L2+1=nL [a::A++b::B] u):=by
    obtain⟨c,E,G⟩:=K18.Nz z.mp s (x:=a) ⋯
    obtain⟨d,hd,H⟩:=K18.Nz z.mp s (x:=b) ⋯
    by_cases q:c=d
    .subst q;obtain⟨L2,l,n⟩:=K18.aan s z.mp ab E G H;exact⟨L2,l,.inl n⟩
    .obtain⟨L2,l,n,_⟩:=Ln.join s z.mp.hn E hd q G H;exact⟨L2,l,.inr n⟩
   obtain⟨L2,l,n⟩:=key;obtain⟨I,M,O⟩:=Ln.loop l ab x;refine⟨I,M,?_⟩;have:nL [x::(a::A ++ -x::b::B)] I=nL [a::A,b::B] L2:=O;rw[this];exact n
def Wo.out(w:Wo (x::(A ++ -x::B))):Wo (A++B)/\x∉A++B/\-x∉A++B:=by
 obtain⟨z,l⟩:=aq.mp w.nd;have sub:(A++B).Sublist (x::(A ++ -x::B)):=.cons _ (bZ.append (.refl _) (.cons _ (.refl _)));have s:x∉A++B:=λn=>z (by rcases mAq.mp n with h|h <;> simp[h])
 have t:-x∉A++B:=λn=>by
  rw[nAq]at l;rcases mAq.mp n with h|h
  .exact l.2.2 (-x) h (-x) (ah ..) rfl
  .exact(aq.mp l.2.1).1 h
 refine⟨w.sub sub λy n=>?_,s,t⟩
 have u:=w.ng y (sub.subset n);simp only[aa,mAq]at u ⊢;rcases u with h|h|h|h
 .exact absurd (show -x=y by lia) λq=>t (q ▸ n)
 .exact .inl h
 .exact absurd (show x=y by lia) λq=>s (q ▸ n)
 .exact .inr h
def Ez:∀n {W},W.length=n->Wo W->∀{s},Ln [W] s->∃g,W.length+2=2*nL [W] s+4*g:=by
 intro n
 induction n using fS with
 |ind n z=>
  intro W hn w s u;cases W with
  |nil=>
   have l:Ln [[]] []:=⟨λx y=>rfl,λc E=>(by cases E)⟩
   rw[Ln.one w.mp u l];exact⟨0,rfl⟩
  |cons x R=>
   have G:=w.nz x (ah ..);have m:=(aa.mp (w.ng x (ah ..))).resolve_left λq=>G ∅
   obtain⟨A,B,rfl⟩:=bS m;have t:=w.out.1;have hl:(x::(A ++ -x::B)).length=(A++B).length+2:=by simp;lia
   obtain⟨I,l⟩:=yV t.mp;obtain⟨g,J⟩:=z (A++B).length ∅ rfl t l
   obtain⟨L,H,e⟩:=NI t l;rw[Ln.one w.mp u H];rcases e with e|e
   .exact⟨g,by lia⟩
   .exact⟨g+1,by lia⟩
def Bw(W:Ϝ):Prop:=∃l,Ln [W] l/\W.length+2=2*nL [W] l
def Bw.rot(b:Bw (A++B)):Bw (B++A):=by
 obtain⟨n,l,e⟩:=b;refine⟨n,l.congr λq=>?_,?_⟩
 .show(cp (B++A)++[]).count q=(cp (A++B)++[]).count q;rw[aNq,aNq];exact tq B A q
 .have:([A++B]).count []=([B++A]).count []:=by
   cases A <;> cases B <;> rfl
  unfold K18.nL at e ⊢;rw[←this,←e,lAq,lAq];lia
def Bw.cut(w:Wo W)(b:Bw W)(G:x∈W):Bw (W.filter λz=>!decide (z=x∨z = -x)):=by
 obtain⟨C,D,rfl⟩:=bS G;have pm:(x::(D++C)).Perm (C++x::D):=(aG (l₁:=x::D));have l:Wo (x::(D++C)):=⟨pm.nodup_iff.mpr w.nd,λy n=>pm.mem_iff.mpr (w.ng y (pm.mem_iff.mp n)),λy n=>w.nz y (pm.mem_iff.mp n),by rw[pm.length_eq];exact w.le⟩
 have b1:Bw (x::(D++C)):=Bw.rot b;have H:=l.nz x (ah ..);have m:=(aa.mp (l.ng x (ah ..))).resolve_left λq=>H ∅
 obtain⟨A,B,e⟩:=bS m;rw[e]at l b1;obtain⟨s,I,J⟩:=l.out;obtain⟨L,t⟩:=yV s.mp;obtain⟨g,S⟩:=Ez _ rfl s t;obtain⟨U,M,q⟩:=NI s t;obtain⟨X,O,P⟩:=b1;rw[Ln.one l.mp O M]at P;have hl:(x::(A ++ -x::B)).length=(A++B).length+2:=by simp;lia
 have u:(D++C).filter (λz=>!decide (z=x∨z = -x))=A++B:=by
  rw[e,cM,de ⋯,←cM]
  refine gV.mpr λz E=>?_
  have Q:z≠x:=λq=>I (q ▸ E)
  have R:z ≠ -x:=λq=>J (q ▸ E)
  simp[Q,R]
 rw[cM,de ⋯]
 rw[cM]at u;refine Bw.rot ?_;rw[u];exact⟨L,t,by lia⟩
theorem Bw.filter(u:∀e,S (-e)=S e):∀n {W},W.length=n->Wo W->Bw W->Bw (W.filter S):=by
 intro n
 induction n using fS with
 |ind n E=>
  intro W hn w b
  by_cases c:∃x∈W,S x=false
  .obtain⟨x,s,t⟩:=c;have sub:(W.filter λz=>!decide (z=x∨z = -x)).Sublist W:=cu
   have lt:(W.filter λz=>!decide (z=x∨z = -x)).length<n:=by
    rw[←hn];exact Nat.lt_of_le_of_ne sub.length_le λq=>by
     have:=gV.mp (sub.eq_of_length q) x s;simp at this
   have:=E _ lt rfl (w.sub sub λy l=>by
    rw[bq]at l ⊢;refine⟨w.ng y l.1,?_⟩;have:=l.2;simp at this ⊢;lia) (b.cut w s)
   rw[List.filter_filter,jk λz _=>?_]at this
   .exact this
   .by_cases sz:S z=true
    .have G:z≠x:=λq=>by rw[q,t]at sz;cases sz
     have H:z ≠ -x:=λq=>by rw[q,u,t]at sz;cases sz
     simp[G,H,sz]
    .rw[jl.mpr sz,iS]
  .rw[gV.mpr λz I=>?_]
   .exact b
   .cases q:S z with
    |true=>rfl
    |false=>exact absurd ⟨z,I,q⟩ c
def VF(h:Wo (A++x :: -x::B))(h':Wo (A++B)):Bw (A++x :: -x::B)↔Bw (A++B):=by
 obtain⟨u,l⟩:=yV h'.mp;obtain⟨L2,n,z⟩:=Ln.open l (i:=0) rfl x
 have E:([A++B]).set 0 (A++[x]++(-x::B))=[A++x :: -x::B]:=by
  simp
 rw[E]at n z;have H:(A++x :: -x::B).length=(A++B).length+2:=by simp;lia
 constructor
 .rintro⟨G,s,t⟩;refine⟨u,l,?_⟩;rw[Ln.one h.mp s n]at t;lia
 .rintro⟨G,s,t⟩;refine⟨L2,n,?_⟩;rw[Ln.one h'.mp s l]at t;lia
def Zm:Bw []:=by
 exact⟨[],⟨λx y=>rfl,λc l=>(by cases l)⟩,rfl⟩
def K8(h:Wo [x,y, -x, -y]):¬ Bw [x,y, -x, -y]:=by
 rintro⟨E,l,e⟩;have n:Ln [[x,y, -x, -y]] [[-x,y,x, -y]]:=by
  refine⟨λu v=>?_,λc s=>by rw[mSq.mp s];simp⟩
  have t:PC [[-x,y,x, -y]]=[(-x,y),(y,x),(x, -y),(-y, -x)]:=rfl;have z:PC [[x,y, -x, -y]]=[(x,y),(y, -x),(-x, -y),(-y,x)]:=rfl;rw[t,z];simp only[K18.rO,bH,K18.vc,bw];lia
 rw[Ln.one h.mp l n]at e;have:nL [[x,y, -x, -y]] [[-x,y,x, -y]]=1:=rfl;rw[this]at e;simp at e
def Uq{C n s:Ϝ}(h:Wo (A++x::(B++y::(C ++ -x::(n ++ -y::s))))):¬ Bw (A++x::(B++y::(C ++ -x::(n ++ -y::s)))):=by
 intro b;have pm:(A++x::(B++y::(C ++ -x::(n ++ -y::s)))).Perm ([x,y, -x, -y]++(A++B++C++n++s)):=by
  rw[dX];simp only[cAq,cJ,bH];lia
 have nd:=pm.nodup_iff.mp h.nd;obtain⟨t,X,u⟩:=nAq.mp nd;have out:∀L:Ϝ,(∀z∈L,z∈A++B++C++n++s)->L.filter (λz=>decide (z∈[x,y, -x, -y]))=[]:=λL E=>by
  rw[iI];intro z l q;exact u z (of_decide_eq_true q) z (E z l) rfl
 have G:=out A λz l=>by simp[l]
 have H:=out B λz l=>by simp[l]
 have I:=out C λz l=>by simp[l]
 have J:=out n λz l=>by simp[l]
 have M:=out s λz l=>by simp[l]
 have O:decide (x∈[x,y, -x, -y])=true:=by simp
 have P:decide (y∈[x,y, -x, -y])=true:=by simp
 have Q:decide (-x∈[x,y, -x, -y])=true:=by simp
 have R:decide (-y∈[x,y, -x, -y])=true:=by simp
 have U:(A++x::(B++y::(C ++ -x::(n ++ -y::s)))).filter (λz=>decide (z∈[x,y, -x, -y]))=[x,y, -x, -y]:=by
  rw[cM,G,bW (p:=λz=>decide (z∈[x,y, -x, -y])) O,cM,H,bW (p:=λz=>decide (z∈[x,y, -x, -y])) P,cM,I,bW (p:=λz=>decide (z∈[x,y, -x, -y])) Q,cM,J,bW (p:=λz=>decide (z∈[x,y, -x, -y])) R,M]
  rfl
 have b2:=Bw.filter (S:=λz=>decide (z∈[x,y, -x, -y])) (λe=>by
  refine decide_eq_decide.mpr ?_;simp only[aa,bL,or_false];lia) _ rfl h b
 rw[U]at b2;refine K8 ⟨t,λz l=>?_,λz l=>h.nz z (pm.mem_iff.mpr (ao _ l)),by simp⟩ b2
 simp only[aa,bL,or_false]at l ⊢;lia
noncomputable def Jl:Ϝ->Ϝ->Bool
 |_,[]=>true
 |op,e::l=>if -e∈op then (if op.head?=some (-e)then Jl op.tail l else false)else Jl (e::op) l
theorem Iy:∀(n op:Ϝ),Wo (op.reverse++n)->(∀z∈op, -z∈n)->(Jl op n=true↔Bw (op.reverse++n))
 | [],op,w,t=>by
  have:op=[]:=by
   cases op with
   |nil=>rfl
   |cons z op=>exact absurd (t z (ah ..)) ⋯
  subst this;exact⟨λ_=>Zm,λ_=>rfl⟩
 |e::n,op,w,t=>by
  have J:(e::op).reverse++n=op.reverse++e::n:=by simp
  unfold Jl
  by_cases c:-e∈op
  .rw[pO c];cases op with
   |nil=>cases c
   |cons z l=>
    by_cases d:z = -e
    .subst d;have eq:(-e::l).reverse++e::n=l.reverse ++ -e :: - -e::n:=by simp
     have E:Wo (l.reverse ++ -e :: - -e::n):=by rw[←eq];exact w
     have pm:(l.reverse ++ -e :: - -e::n).Perm (-e :: - -e::(l.reverse++n)):=eZ.trans (aE.cons _ eZ);have nd:=pm.nodup_iff.mp E.nd;obtain⟨L,O⟩:=aq.mp nd;obtain⟨R,S⟩:=aq.mp O;have M:Wo (l.reverse++n):=⟨S,λx G=>by
      have H:=pm.mem_iff.mp (E.ng x (pm.mem_iff.mpr (mCo _ (mCo _ G))));rcases aa.mp H with q|q
      .exact absurd (by rw[show - -e=x by lia];exact G) R
      .rcases aa.mp q with q|q
       .exact absurd (mCo _ (by rw[show -e=x by lia];exact G)) L
       .exact q,λx G=>E.nz x (pm.mem_iff.mpr (mCo _ (mCo _ G))),by
      have:=pm.length_eq;have:=E.le;simp only[lCq]at *;lia⟩
     have I:∀z∈l, -z∈n:=λz s=>by
      rcases aa.mp (t z (mCo _ s))with q|q
      .exact absurd (mCo _ (ao _ (bz.mpr (by rw[show -e=z by lia];exact s)))) L
      .exact q
     rw[pO (show(-e::l).head?=some (-e)from rfl),eq,VF E M]
     exact Iy n l M I
    .rw[pK (show ¬ (z::l).head?=some (-e)from λq=>d (aA.inj q))]
     refine⟨λq=>(by cases q),λb=>?_⟩
     exfalso;have U:=(aa.mp c).resolve_left λq=>d q.symm
     have s:-z∈n:=by
      rcases aa.mp (t z (ah ..))with q|q
      .exact absurd ∅ d
      .exact q
     obtain⟨P,Q,X⟩:=bS (bz.mpr U);obtain⟨Y,D2,eD⟩:=bS s;have eq:(z::l).reverse++e::n=P ++ -e::(Q++z::([] ++ - -e::(Y ++ -z::D2))):=by
      rw[dO,X,eD];simp
     rw[eq]at w b;exact Uq w b
  .rw[pK c,←J];refine Iy n (e::op) (by rw[J];exact w) λz s=>?_
   have ne:∀{u:Int},u∈op.reverse++e::n->u≠0:=λhu=>w.nz _ hu
   rcases aa.mp s with q|q
   .subst q;have H:=w.ng z ⋯
    rcases mAq.mp H with q|q
    .exact absurd (bz.mp q) c
    .rcases aa.mp q with q|q
     .have:=ne (u:=z) ⋯
      lia
     .exact q
   .rcases aa.mp (t z q)with p|p
    .exact absurd (by rw[show -e=z by lia];exact q) c
    .exact p
end
end K54
namespace K51
open PySem L2 Mr Z Xe Zl
noncomputable abbrev FL(x:String×Int):D:=.tup [.str x.1,.int x.2]
end K51
namespace K54
open PySem L2 Mr Z Xe Zl
open K41 (ab ab_)
open K51 (FL)
def B3:Ϝ->List (String×Int)->Option (Int×Int)
 |_,[]=>none
 |op,x::th=>if x.1 = "side" then (if -x.2∈op then (if op.head?=some (-x.2)then B3 op.tail th else some (ab x.2,ab (op.headD 0)))else B3 (x.2::op) th)else B3 op th
def Zj(th:List (String×Int)):Ϝ:=(th.filter λx=>decide (x.1 = "side")).map (·.2)
def Kw(x)th:Zj (x::th)=(if x.1 = "side" then [x.2]else [])++Zj th:=by
 unfold Zj
 by_cases h:x.1 = "side"
 .rw[pO h,bW (by simpa using h)]
  rfl
 .rw[pK h,de (by simpa using h)]
  rfl
theorem BW:∀th op,B3 op th=none↔Jl op (Zj th)=true
 | [],op=>⟨λ_=>rfl,λ_=>rfl⟩
 |x::th,op=>by
  unfold B3;rw[Kw]
  by_cases h:x.1 = "side"
  .rw[pO h,pO h];show _↔Jl op (x.2::Zj th)=true;unfold Jl
   by_cases c:-x.2∈op
   .rw[pO c,pO c]
    by_cases d:op.head?=some (-x.2)
    .rw[pO d,pO d];exact BW th _
    .rw[pK d,pK d];exact⟨λq=>(by cases q),λq=>(by cases q)⟩
   .rw[pK c,pK c];exact BW th _
  .rw[pK h,pK h];exact BW th _
def abO{op:Ϝ}(h:e∉op):ab e∈op.map ab↔-e∈op:=by
 constructor
 .intro q;obtain⟨z,n,l⟩:=mMq.mp q;unfold K41.ab at l;have:z=e∨z = -e:=by split at l <;> split at l <;> lia
  rcases this with w|w
  .exact absurd (w ▸ n) h
  .exact w ▸ n
 .exact λq=>mMq.mpr ⟨_,q,K41.MD e⟩
noncomputable def Qe(o:Option (Int×Int)):D:=match o with
 |none=>.non
 |some p=>.tup [.int p.1,.int p.2]
def la_(L:Ϝ)y:((L++[y]).map λn=>AV.sh (.int n))[(L++[y]).length-1]?=i0 y:=by rw[lAq,lSq,fi,mBq,gYq (by rw[lMq];exact af _),lMq,dA];rfl
def ld_(L:Ϝ)y:((L++[y]).map λn=>AV.sh (.int n)).dropLast=L.map λn=>.sh (.int n):=by rw[mBq];exact eQ
def WL:decide (Str.ofString "up" = Str.ofString "side")=false:=by trivial
def Pq:decide (Str.ofString "down" = Str.ofString "side")=false:=by trivial
def KG(v0:Option AV)(op:Ϝ)(v2 v3 v4 v5:Option AV):AS:=[v0,some (aI (op.reverse.map ab)),v2,v3,v4,v5]
theorem yQ:∀th (op:Ϝ) {v0 v2 v3 v4 v5},(op.reverse++Zj th).Nodup->op.length+th.length<=1000->(∀x∈th,x.1 = "down" ∨ x.1 = "up" ∨ x.1 = "side")->∃S,xK 2 3 oP (th.map FL) (KG v0 op v2 v3 v4 v5)=some (match B3 op th with|none=>.nx S|some p=>.rt (.sh (.tup [.int p.1,.int p.2])))
 | [],op,v0,v2,v3,v4,v5,_,_,_=>⟨_,rfl⟩
 |x::th,op,v0,v2,v3,v4,v5,nd,hl,hw=>by
  have t:=λy M=>hw y (mCo _ M)
  rw[lCq]at hl;rw[Kw]at nd;have go:∀{I:AS}{o:IC},oP (KG v0 op (some (.sh (.str x.1))) (i0 x.2) v4 v5)=some (.nx I)->xK 2 3 oP (th.map FL) I=some o->xK 2 3 oP ((x::th).map FL) (KG v0 op v2 v3 v4 v5)=some o:=λ{I o} h1 h2=>by
   show(oP (KG v0 op (some (.sh (.str x.1))) (i0 x.2) v4 v5)).bind _=_;rw[h1];exact h2
  have H:=pd (op.reverse.map ab)
  by_cases h:x.1 = "side"
  .rw[pO h]at nd;have ne:x.2∉op:=λq=>(nAq.mp nd).2.2 x.2 (bz.mpr q) x.2 ⋯ rfl
   have E:decide (Str.ofString x.1=Str.ofString "side")=true:=by rw[h];exact d0 rfl
   have s:=ZY true (ab x.2) (op.reverse.map ab);rw[pO rfl]at s;have L:ab x.2∈op.reverse.map ab↔-x.2∈op:=by
    rw[←abO ne,iC,bz]
   by_cases c:-x.2∈op
   .rw[d0 (L.mpr c)]at s;cases op with
    |nil=>cases c
    |cons z l=>
     have J:(z::l).reverse.map ab=l.reverse.map ab++[ab z]:=by simp
     have la:=la_ (l.reverse.map ab) (ab z);have ld:=ld_ (l.reverse.map ab) (ab z);rw[J]at s H
     by_cases d:z = -x.2
     .have dz:decide (ab z=ab x.2)=true:=d0 (by rw[d,K41.MD])
      have u:B3 (z::l) (x::th)=B3 l th:=by
       show(if x.1 = "side" then (if -x.2∈z::l then (if (z::l).head?=some (-x.2)then B3 l th else _)else _)else _)=_
       rw[pO h,pO c,pO (by rw[d];rfl)]
      have B:oP (KG v0 (z::l) (some (.sh (.str x.1))) (i0 x.2) v4 v5)=some (.nx (KG v0 l (some (.sh (.str x.1))) (i0 x.2) (i0 (ab x.2)) (i0 (ab z)))):=by
       unfold KG;rw[J]
       simp_arith [oP,ab_,E,H,dI,s,la,ld,dz]
      obtain⟨S,G⟩:=yQ th l (v0:=v0) (v2:=some (.sh (.str x.1))) (v3:=i0 x.2) (v4:=i0 (ab x.2)) (v5:=i0 (ab z)) (by
       refine nd.sublist ?_;rw[dO,ae];exact bZ.append (.refl _) (List.sublist_append_of_sublist_right (fQ _ _))) (by rw[lCq]at hl;lia) t
      exact⟨S,by rw[u];exact go B G⟩
     .have dz:decide (ab z=ab x.2)=false:=d4 λq=>by
       have O:z≠x.2:=λw=>ne (by rw[w];exact ah ..)
       unfold K41.ab at q;have:z=x.2∨z = -x.2:=by split at q <;> split at q <;> lia
       exact this.elim O d
      have u:B3 (z::l) (x::th)=some (ab x.2,ab z):=by
       show(if x.1 = "side" then (if -x.2∈z::l then (if (z::l).head?=some (-x.2)then B3 l th else some (ab x.2,ab z))else _)else _)=_
       rw[pO h,pO c,pK (show ¬ (z::l).head?=some (-x.2)from λq=>d (aA.inj q))]
      refine⟨[],?_⟩;rw[u];show(oP (KG v0 (z::l) (some (.sh (.str x.1))) (i0 x.2) v4 v5)).bind _=_;have B:oP (KG v0 (z::l) (some (.sh (.str x.1))) (i0 x.2) v4 v5)=some (.rt (.sh (.tup [.int (ab x.2),.int (ab z)]))):=by
       unfold KG;rw[J]
       simp_arith [oP,ab_,E,H,dI,s,la,ld,dz]
      rw[B];rfl
   .rw[d4 λq=>c (L.mp q)]at s
    have u:B3 op (x::th)=B3 (x.2::op) th:=by
     show(if x.1 = "side" then (if -x.2∈op then _ else B3 (x.2::op) th)else _)=_
     rw[pO h,pK c]
    have P:(op.reverse.map ab).map (λn=>AV.sh (.int n))++[.sh (.int (ab x.2))]=((x.2::op).reverse.map ab).map λn=>.sh (.int n):=by simp
    have Q:op.reverse.length<qM:=by rw[cm];show _<16777216;lia
    have B:oP (KG v0 op (some (.sh (.str x.1))) (i0 x.2) v4 v5)=some (.nx (KG v0 (x.2::op) (some (.sh (.str x.1))) (i0 x.2) (i0 (ab x.2)) v5)):=by
     unfold KG
     simp_arith [oP,ab_,E,H,dI,s,Q,P]
    obtain⟨S,G⟩:=yQ th (x.2::op) (v0:=v0) (v2:=some (.sh (.str x.1))) (v3:=i0 x.2) (v4:=i0 (ab x.2)) (v5:=v5) (by
     rw[dO,ae];exact nd) (by rw[lCq];lia) t
    exact⟨S,by rw[u];exact go B G⟩
  .rw[pK h,cU]at nd;have E:decide (Str.ofString x.1=Str.ofString "side")=false:=by
    rcases hw x (ah ..)with q|q|q
    .rw[q];exact Pq
    .rw[q];exact WL
    .exact absurd q h
   have u:B3 op (x::th)=B3 op th:=by
    show(if x.1 = "side" then _ else B3 op th)=_
    rw[pK h]
   have B:oP (KG v0 op (some (.sh (.str x.1))) (i0 x.2) v4 v5)=some (.nx (KG v0 op (some (.sh (.str x.1))) (i0 x.2) (i0 (ab x.2)) v5)):=by
    unfold KG
    simp_arith [oP,ab_,E]
   obtain⟨S,G⟩:=yQ th op nd ∅ t
   exact⟨S,by rw[u];exact go B G⟩
def Jx(nd:(Zj th).Nodup)(hl:th.length<=1000)(hw:∀x∈th,x.1 = "down" ∨ x.1 = "up" ∨ x.1 = "side"):rh [.list (th.map FL)]=some (.sh (Qe (B3 [] th))):=by
 obtain⟨S,e⟩:=yQ th [] nd (by simpa using hl) hw
 have l:xK 2 3 oP (th.map FL) [i3 (th.map FL),some (.ow []),none,none,none,none]=_:=e;unfold Qe;cases q:B3 [] th with
 |none=>
  rw[q]at l
  simp_arith [rh,uP,T9,l]
 |some p=>
  rw[q]at l
  simp_arith [rh,uP,T9,l]
end K54
namespace K52
open PySem L2 Mr Z Xe Zl
open K15 (nx xQ Ih)
open K43 (vz qm)
open K51 (tZ AR)
def Pu(z:Mp M):yH [dM M]=some (.owd (K51.ud (K51.pE M))):=by
 have hn:=z.hn;have hl:=z.hl;have key:=tO (x:=2) (body:=xO) (λi S=>∃B l n,S=[some (.sh (dM M)),some (.owd (K51.ud (K51.pE (M.take i)))),B,l,n]) (ds:=M.map dI) (S:=[some (.sh (dM M)),some (.owd []),none,none,none]) ⟨none,none,none,rfl⟩ (by
  rintro i d S hd ⟨B,l,n,rfl⟩;obtain⟨r,hr,rfl⟩:=BU hd;have I:=z.row hr;have J:=Sr (x:=3) (y:=4) (body:=xy) (k:=0) (λj S=>∃l n,S=[some (.sh (dM M)),some (.owd (K51.ud (K51.pE (M.take i)++(K51.rD r).take j))),some (.sh (dI r)),l,n]) (ds:=r.map D.int) (S:=[some (.sh (dM M)),some (.owd (K51.ud (K51.pE (M.take i)))),some (.sh (dI r)),l,n]) ⟨l,n,by simp⟩ (by
   rintro j d S hd ⟨l,n,rfl⟩;rw[cH];have E:j<r.length:=by
    have:=(gSq.mp hd).1
    rwa [lMq]at this
   rw[gMq,gEg E]at hd;cases hd;have L:r[j]?=some r[j]:=gEg E;have t:(j+1) % r.length<r.length:=fu _ ∅
   have O:(K51.rot r)[j]?=some r[(j+1) % r.length]:=by rw[Ih E];exact gEg t
   have P:=K51.CC (j:=j) hl hr;have u:=K51.Ej hn hr L O;have G:=sJ (i:=(j)+1) (j:=(r.length)) ∅
   have Q:((j:Int)+1) % (r.length)=(((j+1) % r.length:Nat)):=by rfl
   rw[Q]at G;have R:atI (r.map D.int) (((j+1) % r.length:Nat))=some (.int r[(j+1) % r.length]):=uC (by rw[gMq,gEg t];rfl)
   refine⟨_,?_,i0 (j),i0 (r[j]),rfl⟩
   simp_arith [xy,dI,G,R,P,u])
  obtain⟨Y,H,U,X,rfl⟩:=J;rw[cH,lMq,←K51.vo,aK]at H;refine⟨_,?_,some (.sh (dI r)),U,X,rfl⟩;rw[qt hr,K51.A0]
  simp_arith [xO,dI,H])
 obtain⟨S',e,B,l,n,rfl⟩:=key;rw[lMq,aK]at e
 simp_arith [yH,Du,e]
end K52
namespace K18
open PySem L2 Mr Z Xe Zl
open K12 (cN aP aaQ vN Nm)
open K11 (DF Cn)
def Wl(last:Λ):Nat->Θ->Prop
 |_,[]=>True
 |h,p::sL=>(p<h/\∃e l n,last[p]?=some (l++[e])/\last[h]?=some (-e::n))/\Wl last p sL
end K18
namespace K19
open PySem L2 Mr Z Xe Zl K15 K16
def VO(t)k(hk:k<=t.length):(Mr.rot t k).reverse=Mr.rot t.reverse (t.length-k):=by
 unfold Mr.rot;rw[dg];have e:t.reverse=(t.drop k).reverse++(t.take k).reverse:=by rw[←dg,aZ]
 have l:(t.drop k).reverse.length=t.length-k:=by rw[cm,aJ]
 rw[e,←l,jw,jx]
def Vf(f)t k:(Mr.rot t k).map f=Mr.rot (t.map f) k:=by
 unfold Mr.rot;rw[mBq,jC,ie]
def TY{t:Ϝ}(h:t.Nodup):t.reverse.Nodup:=(gi t).nodup_iff.mpr h
def IB{t:Ϝ}(h:t.Nodup):(t.map λz=>-z).Nodup:=by
 rw[bp,bx];exact(bp.mp h).imp λq e=>q ∅
noncomputable def nr(t:Ϝ):Ϝ:=t.reverse.map λz=>-z
def VH(h:t.Nodup):good (nr (good t))=good (nr t):=by
 unfold nr good;rw[VO _ _ (zt t),Vf];exact EM (IB (TY h)) _
def mr(rs:Λ):Λ:=srt ((rs.map eI).map good)
theorem FA:∀rs:Λ,(rs.map eI).flatten.Perm rs.flatten
 | []=>.nil
 |r::rs=>by
  exact(gi r).append (FA rs)
def yG rs:(mr rs).flatten.Perm rs.flatten:=(pI (pV _)).trans ((qj qJ _).trans (FA rs))
def Zw rs:(mr rs).length=rs.length:=by unfold mr;rw[qB,lMq,lMq]
def MZ(l:Mp rs):Mp (mr rs):=by
 have p:=yG rs;exact⟨p.nodup_iff.mpr l.hn,by rw[p.length_eq];exact l.hl,by rw[Zw];exact l.hr,λe n=>p.mem_iff.mpr (l.hneg e (p.mem_iff.mp n))⟩
def ab2(hn:rs.flatten.Nodup)(E:x∈rs.flatten):nx (mr rs) (nx rs x)=x:=by
 have n:=(FA rs).nodup_iff.mpr hn;have z:=(yG rs).nodup_iff.mpr hn;have s:∀l∈mr rs,l=[]∨∃e,Cy (nx (rs.map eI)) e l:=λl hl=>by
  obtain⟨t,ht,rfl⟩:=mMq.mp ((pV _).mem_iff.mp hl);cases t with
  |nil=>exact .inl rfl
  |cons a t=>exact .inr (Hh (LS n ht rfl))
 rw[SV z s ((yG rs).mem_iff.mpr (ED hn E))];obtain⟨r,hr,B⟩:=mFq.mp E;obtain⟨j,u⟩:=ay.mp B;have H:=(gSq.mp u).1;have I:(j+1) % r.length<r.length:=fu _ ∅
 obtain⟨y,G⟩:∃y,r[(j+1) % r.length]?=some y:=⟨_,gEg I⟩;rw[FE hn hr u G];refine FE n (mMq.mpr ⟨r,hr,rfl⟩) (j:=r.length-1-(j+1) % r.length) ?_ ?_
 .rw[fB ∅]
  rw[show r.length-1-(r.length-1-(j+1) % r.length)=(j+1) % r.length by lia]
  exact G
 .rw[cm,fB (fu _ ∅)]
  by_cases q:j+1<r.length
  .rw[cP q,cP ∅,show r.length-1-(r.length-1-(j+1)+1)=j by lia]
   exact u
  .have e:j+1=r.length:=by lia
   rw[e,dU,show r.length-1-0+1=r.length by lia,dU,show r.length-1-0=j by lia]
   exact u
def aa8(l:Mp rs)(n:x∈rs.flatten):fw (mr rs) (-(fw rs x)) = -x:=by
 unfold fw;rw[bw];exact ab2 l.hn (l.hneg x n)
def aaZ(s:l[0]?=some e)(hs:∀j z y,l[j]?=some z->l[(j+1) % l.length]?=some y->f z=y)(hn:l.Nodup):Cy f e l:=by
 have u:=(gSq.mp s).1;have x:∀n,l[n % l.length]?=some (itr f n e):=λn=>by
  induction n with
  |zero=>exact s
  |succ n E=>
   have G:(n+1) % l.length<l.length:=fu _ u;have t:(n % l.length+1) % l.length=(n+1) % l.length:=by rw[jr]
   obtain⟨y,B⟩:∃y,l[(n+1) % l.length]?=some y:=⟨_,gEg G⟩;have q:=hs _ _ _ E (t ▸ B);rw[B];exact congrArg some q.symm
 refine⟨u,?_,?_,hn⟩
 .refine cS λi=>?_
  rw[gMq]
  by_cases hi:i<l.length
  .rw[cj hi,cI,←x i,cP hi]
  .rw[aO ∅,aO (by rw[aB];lia)]
   rfl
 .have:=x l.length;rw[dU,s]at this;exact(aA.inj this).symm
def Ve(c:Cy f e l)(h:∀x∈l,g (-(f x)) = -x):∃G,Cy g G (nr l):=by
 have hl:=c.len;have n:(nr l).length=l.length:=by unfold nr;rw[lMq,cm]
 have s:∀j,j<l.length->(nr l)[j]?=some (-(itr f (l.length-1-j) e)):=λj t=>by
  unfold nr;rw[gMq,fB t,c.at ∅]
  rfl
 refine⟨_,aaZ (s 0 ∅) (λj z y u E=>?_) (IB (TY c.nd))⟩
 have t:j<l.length:=by rw[←n];exact(gSq.mp u).1
 rw[s j t]at u;cases u;rw[n,s _ (fu _ ∅)]at E
 cases E
 by_cases q:j+1<l.length
 .rw[cP q];have B:l.length-1-j=(l.length-1-(j+1))+1:=by lia
  rw[B];exact h _ (mGq (c.at ∅))
 .have B:j+1=l.length:=by lia
  rw[B,dU,show l.length-1-j=0 by lia]
  have hb:=c.back;have H:l.length=(l.length-1-0)+1:=by lia
  have:=h _ (mGq (c.at (i:=l.length-1-0) ∅))
  have I:f (itr f (l.length-1-0) e)=e:=by
   rw[H]at hb;exact hb
  rw[I]at this;exact this
theorem Nl:∀L:Λ,(L.map nr).flatten.Perm (L.flatten.map λz=>-z)
 | []=>.nil
 |r::L=>by
  rw[aw,fCq,fCq,mBq];exact(((gi r).map _)).append (Nl L)
def Ro(n:Mp rs)(o:CK (fw rs) rs.flatten L):CK (fw (mr rs)) (mr rs).flatten (L.map nr):=by
 have u:=Nl L;refine⟨λl hl=>?_,u.nodup_iff.mpr (IB o.dj),λx=>?_⟩
 .obtain⟨t,ht,rfl⟩:=mMq.mp hl;obtain⟨e,c⟩:=o.cy t ht;exact Ve c λx s=>aa8 n ((o.all x).mp (mFq.mpr ⟨t,ht,s⟩))
 .rw[u.mem_iff,(yG rs).mem_iff,mMq];constructor
  .rintro⟨z,B,rfl⟩;exact n.hneg z ((o.all z).mp B)
  .exact λs=>⟨-x,(o.all _).mpr (n.hneg x s),bw x⟩
theorem D9:∀rs:Λ,((rs.map eI).map good).count []=rs.count []
 | []=>rfl
 | []::rs=>by
  rw[aw,aw,List.reverse_nil,Cb,gN,gN,D9 rs]
 | (x::r)::rs=>by
  have l:good (x::r).reverse≠[]:=λq=>by
   have:=congrArg bJ q;rw[Di,cm]at this;cases this
  rw[aw,aw,fG l,fG ⋯,D9 rs]
def UQ(n:Mp rs):∃N:Λ,f_L_lands [dM rs]=some (.ow (N.map aI))/\qD [dM (mr rs)]=some (.ow ((srt ((N.map nr).map good)).map aI))/\N.flatten.Perm rs.flatten/\N.length<=1000+rs.length:=by
 obtain⟨L,s,t⟩:=G1 n;obtain⟨u,z,B⟩:=vi (MZ n);have E:=W7 s.dj;have hb:(tu rs).flatten=[]:=by
  refine fg.mpr λl hl=>?_
  obtain⟨x,_,rfl⟩:=mMq.mp hl;rfl
 refine⟨_,t,?_,?_,?_⟩
 .rw[B];have G:=z.perm (tI (MZ n)) (Ro n s);have H:tu (mr rs)=tu rs:=by
   rw[vZ,vZ];unfold mr;rw[(pV _).count_eq,D9]
  have key:((tu (mr rs)++u).map good).Perm (((srt ((tu rs++L).map good)).map nr).map good):=by
   have I:(((srt ((tu rs++L).map good)).map nr).map good).Perm ((((tu rs++L).map good).map nr).map good):=((pV _).map nr).map good;refine aE.trans ?_ I.symm;have J:(((tu rs++L).map good).map nr).map good=(tu rs).map good++(L.map nr).map good:=by
    rw[mBq,mBq,mBq];congr 1
    .rw[vZ,eF,eF,eF];rfl
    .rw[mPq,mPq,mPq];exact mCq λl hl=>VH (E l hl)
   rw[J,mBq,H];exact aE.append_left _ G
  rw[Dc key]
 .refine(pI (pV _)).trans ((qj qJ _).trans ?_);have M:=(aL s.dj n.hn).mpr s.all;rw[fAq,hb];exact M
 .have:=(DV n s).2;have:=Br rs;rw[qB,lMq,lAq];lia
def ZD(r:Ϝ):AV.ow ((r.map D.int).reverse.map AV.sh)=aI r.reverse:=by
 rw[←iC,mPq];rfl
def RJ(rs:Λ):rS uz (M3 (va 0)) [] (rs.map dI)=some ((rs.map eI).map aI):=by
 rw[Z.uj λd=>aI (yt d).reverse]
 .rw[EN (λr=>aI r.reverse),mPq]
  rfl
 .intro d hd;obtain⟨r,hr,rfl⟩:=Bh hd;have e:=ZD r;refine⟨[some (.sh (dI r))],?_⟩
  simp_arith [tW,ZN,dI,e]
def Wb{rs:Λ}(h:rs.flatten.length<=1000):∀r∈rs,r.length<=1000:=λr hr=>by
 have:=bZ.length_le (aT hr);lia
def OJ(l:rs.flatten.length<=1000)(s:rs.length<=2000):zN [dM rs]=some (.ow ((mr rs).map aI)):=by
 have rc:=RJ rs;have lr:rs.length<=qM:=by show _<=16777216;lia
 have n:=xT (rs:=rs.map eI) (λr hr=>by
  obtain⟨t,ht,rfl⟩:=mMq.mp hr;have:=Wb l t ht;rw[cm];lia) (by rw[lMq];show _<=16777216;lia)
 have st:((rs.map eI).map aI).map oN=(rs.map eI).map dI:=by rw[mPq];exact mCq λr _=>pd r
 unfold mr
 simp_arith [zN,FY,dM,rc,lr,st,n]
end K19
namespace K17
open PySem L2 Mr Z Xe Zl
open K15 (nx fw)
open K25 (Rt)
open K43 (vz rds)
open K51 (tZ Ps Pc)
def CV{A:Λ}(h:A.map aI=B.map aI):A=B:=by
 have:(A.map aI).map oN=(B.map aI).map oN:=by rw[h]
 rw[mPq,mPq]at this;have s:A.map dI=B.map dI:=by
  rw[←mCq λr _=>pd r,←mCq λr _=>pd r]
  exact this
 have n:(A.map dI).map yt=(B.map dI).map yt:=by rw[s]
 rw[mPq,mPq]at n;have l:∀C:Λ,C.map (yt∘dI)=C:=λC=>(mCq λr _=>tW r).trans (fv _)
 rwa [l,l]at n
section
variable {S:Int->Prop}
theorem abp(n:N.flatten.Nodup)(s:∀x∈N.flatten,S x->S (nx N x)):∀w {c}{y},Rt N y (w++c)->S y->∀z∈w,S z
 | [],_,_,_,_,z,l=>by cases l
 |x::w,c,y,h,hy,z,l=>by
  have u:nx N y=x:=h.to n;have t:S x:=u ▸ s y h.mem hy;rcases aa.mp l with q|q
  .rw[q];exact t
  .have B:Rt N x (w++(c++[y])):=by simpa using h.step
   exact abp n s w B t z q
def XD(s:N.flatten.Nodup)(u:∀x∈N.flatten,S x->S (nx N x)):∀r∈N,∀x∈r,∀y∈r,S x->S y:=λr hr x t y z h=>by
 obtain⟨w,hw⟩:=Rt.of (mFq.mpr ⟨r,hr,t⟩);obtain⟨B,l,q⟩:=hw.row;obtain⟨i,hi⟩:=ay.mp hr;obtain⟨j,n⟩:=ay.mp l;have:=N6 s hi n t ((q x).mpr ⋯)
 subst this;rw[hi]at n;have e:=aA.inj n;subst e;rcases aa.mp ((q y).mp z)with c|c
 .rw[c];exact h
 .exact abp s u w (by rw[aNq];exact hw) h y c
def aa9(n:N.flatten.Nodup)(l:∀r∈N,∀x∈r,∀y∈r,S x->S y)(s:x∈N.flatten)(h:S x):S (nx N x):=by
 obtain⟨w,hw⟩:=Rt.of s;have t:=hw.to n;obtain⟨r,hr,q⟩:=hw.row;exact l r hr x ((q x).mpr ⋯) _ ((q _).mpr (by rw[t];cases w <;> simp)) h
def OD(s:Mp M)(t:M.length+M.flatten.length<=1000){PS}(P:Ps M M.length kn PS)(e:K15.qD [dM M]=some (.ow (N.map aI)))(H:Ps N N.length G u):PS.length=u.length:=by
 obtain⟨U,J,l,_,E,_,cN,_⟩:=K16.JN s t;obtain⟨X,L,_,_,_,O⟩:=K25.WV s;rw[e]at J L;have Q:=CV (AV.ow.inj (aA.inj J));have R:=CV (AV.ow.inj (aA.inj L));subst Q;subst R;refine wN (vz s) (vz l) P H (λx=>E.mem_iff.symm) cN.symm ?_ ?_
 .intro S hneg n;refine XD s.hn λx z h=>?_
  have I:=aa9 l.hn n (l.hneg x (E.mem_iff.mpr z)) (hneg x h);rw[O _ (l.hneg x (E.mem_iff.mpr z))]at I;unfold fw at I
  rwa [bw]at I
 .intro S hneg n;refine XD l.hn λx B h=>?_
  rw[O x B];exact aa9 s.hn n (s.hneg x (E.mem_iff.mp B)) (hneg x h)
def aab{r:Ϝ}(hr:r∈K19.mr M):∃t∈M,∀x,x∈r↔x∈t:=by
 obtain⟨a,ha,rfl⟩:=mMq.mp ((pV _).mem_iff.mp hr);obtain⟨t,ht,rfl⟩:=mMq.mp ha;exact⟨t,ht,λx=>by rw[(qJ _).mem_iff,bz]⟩
def Zg{t:Ϝ}(ht:t∈M):∃r∈K19.mr M,∀x,x∈r↔x∈t:=⟨good t.reverse,(pV _).mem_iff.mpr (mMq.mpr ⟨_,mMq.mpr ⟨t,ht,rfl⟩,rfl⟩),λx=>by rw[(qJ _).mem_iff,bz]⟩
def KW(E:Mp M){PS}(G:Ps M M.length kn PS)(u:Ps (K19.mr M) (K19.mr M).length s n):PS.length=n.length:=by
 refine wN (vz E) (vz (K19.MZ E)) G u (λx=>(K19.yG M).mem_iff.symm) ?_ ?_ ?_
 .rw[←K19.D9 M,← (pV ((M.map eI).map good)).count_eq];rfl
 .intro S _ l r hr x z y B h;obtain⟨t,ht,q⟩:=Zg hr;exact l t ht x ((q x).mpr z) y ((q y).mpr B) h
 .intro S _ l r hr x z y B h;obtain⟨t,ht,q⟩:=aab hr;exact l t ht x ((q x).mp z) y ((q y).mp B) h
end
def rds_len(n:Mp M)(hz:∀e∈M.flatten,e≠0):2*(rds M).length=M.flatten.length:=by
 unfold rds;rw[←dY,(rJ _).countP_eq];have pm:=(aL (K19.IB n.hn) n.hn).mpr λx=>by
  rw[mMq];constructor
  .rintro⟨z,h,rfl⟩;exact n.hneg z h
  .exact λh=>⟨-x,n.hneg x h,bw x⟩
 have s:=pm.countP_eq λz=>decide (0<z)
 rw[List.countP_map]at s;have u:M.flatten.countP ((λz=>decide (0<z))∘λz=>-z)=M.flatten.countP λa=>decide ¬ (decide (0<a)=true):=List.countP_congr λx t=>by
  have:=hz x t;simp;lia
 have l:=eS (l:=M.flatten) λz=>decide (0<z)
 lia
def Pp(l:Mp M){F:Λ}(n:K15.qD [dM M]=some (.ow (F.map aI))):∃kn PS,Ps M M.length kn PS/\K43.Cd [dM M]=some (.sh (.tup [.int (M.length:Int),.int ((rds M).length:Int),.int (F.length:Int),.int ((PS.length:Nat):Int),.int ((2*((PS.length:Nat):Int)-(M.length:Int)+((rds M).length:Int)-(F.length:Int)) / 2)])):=by
 obtain⟨kn,PS,s,t⟩:=K51.pieces_ok (vz l);have hl:=l.hl;have u:wR [dM M]=some (aI (rds M)):=roads_ok ∅
 have x:=pd (rds M);have mu:∀i,wW (.int 2) (.int i)=some (.int (2*i)):=λi=>Kn ⋯ ⋯
 have z:=λi=>za (i:=i) (j:=2) ⋯ ⋯
 refine⟨kn,PS,s,?_⟩
 simp_arith [K43.Cd,K43.Gm,u,x,dI,n,t,mu,z]
end K17
namespace K44
open PySem L2 Mr Z Xe Zl
open K15 (nx fw tI xQ Rd Jw Ge)
open K16 (kvI)
open K18 (Ln nL)
open K43 (isB)
open K51 (tZ Ps Pc)
noncomputable def aez(L:Λ):List (Int×Int):=L.flatMap λl=>l.map λx=>(x,l.headD 0)
end K44
namespace K44
open PySem L2 Mr Z Xe Zl
open K15 (Rd kI kI_get kI_new kI_len)
open K16 (kvI pm)
open K18 (Ln nL)
def fl(P:List (Int×Int))(x:Int):Int:=match Z.getD (kvI P) (.inl x)with
 |some (.int y)=>y
 |_=>0
structure Mt (T:Λ):Prop where
 nd:T.flatten.Nodup
 ng:∀z∈T.flatten, -z∈T.flatten
 nz:∀z∈T.flatten,z≠0
 le:T.flatten.length<=60
 lt:T.length<=64
def Pn(T:Λ):Prop:=K11.Cn T/\∃l u,Ln T l/\nL T l+T.length=u+2/\T.flatten.length=2*u
end K44
namespace K52
open PySem L2 Mr Z Xe Zl
open K43 (vz qm rW)
open K51 (tZ)
section
variable {M:Λ}
structure Sj (M:Λ)(E:Ϝ)(g:Nat->Int):Prop where
 snd:∀a b,g a=g b->tZ M a b
 cmp:∀e∈E,g (plc M e)=g (plc M (-e))
noncomputable def Oz(g:Nat->Int)(o1 o2:Int)(k:Nat):Int:=if g k=o2 then o1 else g k
theorem Sj.step(l:Mp M)(h:Sj M E g)(t:e∈M.flatten):Sj M (E++[e]) (Oz g (g (plc M e)) (g (plc M (-e)))):=by
 have u:tZ M (plc M e) (plc M (-e)):=by
  obtain⟨r,n,s⟩:=l.at t;exact .step .base n s
 have one:∀a b,g a=g (plc M (-e))->g (plc M e)=g b->tZ M a b:=λa b n s=>(h.snd _ _ n).trans ((u.symm (vz l)).trans (h.snd _ _ s))
 refine⟨λa b q=>?_,λx B=>?_⟩
 .unfold Oz at q
  by_cases c:g a=g (plc M (-e)) <;> by_cases d:g b=g (plc M (-e))
  .exact h.snd a b (c.trans d.symm)
  .rw[pO c,pK d]at q;exact one a b c q
  .rw[pK c,pO d]at q;exact(one b a d q.symm).symm (vz l)
  .rw[pK c,pK d]at q;exact h.snd a b q
 .rcases mAq.mp B with z|z
  .unfold Oz;rw[h.cmp x z]
  .rw[mSq.mp z];unfold Oz;rw[pO rfl];split
   .rfl
   .rfl
def Bs(M:Λ)(g:Nat->Int)(o:Int):Λ:=((aF M.length).filter λk=>decide (g k=o)).map λk=>M.getD k []
def aau(u:Mp M)(h:Sj M M.flatten g)(hk:n<M.length):Mp (Bs M g (g n))/\0<(Bs M g (g n)).length/\(∀e∈(Bs M g (g n)).flatten,e∈M.flatten)/\∀k,k<(Bs M g (g n)).length->tZ (Bs M g (g n)) 0 k:=by
 have s:∀{k:Nat},k∈(aF M.length).filter (λk=>decide (g k=g n))↔k<M.length/\g k=g n:=λ{k}=>by
  rw[bq,bA,decide_eq_true_iff]
 have sub:(Bs M g (g n)).flatten.Sublist M.flatten:=by
  have:=K17.Ct ((cu (p:=λk=>decide (g k=g n)) (l:=aF M.length)).map λk=>M.getD k [])
  rwa [rW]at this
 have J:(Bs M g (g n)).length=((aF M.length).filter λk=>decide (g k=g n)).length:=lMq _
 have Y:(Bs M g (g n)).length<=M.length:=by
  rw[J];have:=gG (λk=>decide (g k=g n)) (aF M.length)
  rwa [aB]at this
 have L:∀{e:Int},e∈M.flatten->g (plc M e)=g n->e∈(Bs M g (g n)).flatten:=λ{e} t q=>by
  obtain⟨O,z⟩:=row_at u t;exact mFq.mpr ⟨_,mMq.mpr ⟨plc M e,s.mpr ⟨O,q⟩,rfl⟩,z⟩
 have P:∀{e:Int},e∈(Bs M g (g n)).flatten->g (plc M e)=g n:=λ{e} t=>by
  obtain⟨r,hr,z⟩:=mFq.mp t;obtain⟨k,hk,rfl⟩:=mMq.mp hr;obtain⟨R,k2⟩:=s.mp hk;rw[plc_eq u.hn (qm R) z];exact k2
 have mp:Mp (Bs M g (g n)):=⟨u.hn.sublist sub,by have:=sub.length_le;have:=u.hl;lia,by have:=u.hr;lia,λe t=>L (u.hneg e (sub.subset t)) (by rw[←h.cmp e (sub.subset t)];exact P t)⟩
 have B:∀{j k:Nat},((aF M.length).filter λk=>decide (g k=g n))[j]?=some k->(Bs M g (g n))[j]?=some (M.getD k []):=λ{j k} e=>by
  show(List.map _ _)[j]?=_;rw[gMq,e];rfl
 have go:∀{i k Q:Nat},((aF M.length).filter λk=>decide (g k=g n))[i]?=some k->tZ M k Q->∃j,((aF M.length).filter λk=>decide (g k=g n))[j]?=some Q/\tZ (Bs M g (g n)) i j:=λ{i k Q} hi r=>by
  induction r with
  |base=>exact⟨i,hi,.base⟩
  | @step R row e r1 x t ih=>
   obtain⟨j,E,rj⟩:=ih;have S:e∈M.flatten:=mFq.mpr ⟨row,mGq x,t⟩;have q1:g (plc M (-e))=g n:=by
    rw[←h.cmp e S,plc_eq u.hn x t];exact(s.mp (mGq E)).2
   obtain⟨O,z⟩:=row_at u (u.hneg e S);obtain⟨j',G⟩:=ay.mp (s.mpr ⟨O,q1⟩);have H:tZ (Bs M g (g n)) i (plc (Bs M g (g n)) (-e)):=.step rj (B E) (by rw[gDq,x];exact t)
   rw[plc_eq mp.hn (B G) z]at H;exact⟨j',G,H⟩
 have pos:0<(Bs M g (g n)).length:=by
  rw[J];exact fk (s.mpr ⟨hk,rfl⟩)
 refine⟨mp,pos,λe t=>sub.subset t,λk I=>?_⟩
 rw[J]at I pos;have U:=gEg pos;have X:=gEg I;have g0:=(s.mp (mGq U)).2;have gk:=(s.mp (mGq X)).2;obtain⟨j,E,r⟩:=go U (h.snd _ _ (g0.trans gk.symm));have nd:((aF M.length).filter λk=>decide (g k=g n)).Nodup:=cY.filter _
 have:j=k:=by
  have l1:=(gSq.mp E).1;exact(ik l1 nd).mp (E.trans X.symm)
 rw[←this];exact r
theorem Cq{cap:AS}p f:∀{l},(∀d∈l,∃n,s (some (.sh d.1)::some (.sh d.2)::cap)=some (p d,n)/\(p d=true->∃S',te n=some (f d,S')))->vI s te cap l=some ((l.filter p).map f)
 | [],_=>rfl
 |d::l,h=>by
  obtain⟨n,u,z⟩:=h d (ah ..);have t:=Cq p f λx B=>h x (mCo _ B)
  unfold vI;rw[u,gF];cases c:p d with
  |true=>
   obtain⟨S',E⟩:=z c;rw[E,t,bW c];rfl
  |false=>
   rw[pK ⋯,t,de (by rw[c];simp)]
noncomputable def qG(M:Λ)(g:Nat->Int):Ϝ:=(aF M.length).map g
def Qg(M:Λ)(P:Ϝ)(v3 v4 v5 v6 v7:Option AV):AS:=[some (.sh (dM M)),some (.owd (qv 0 M)),some (aI P),v3,v4,v5,v6,v7]
def GD(h:k<M.length):atI ((qG M g).map D.int) (k:Int)=some (.int (g k)):=uC (by
 unfold qG;rw[gMq,gMq,cj h];rfl)
def Pe:rS uz (kSc (qe FG (rOf (sm (oO (oW 0) (oO (oW 1) pH)))) (uR Kj (oI (qe FP (oH 0) (oH 2)) oS)))) [i0 o1,i0 o2] ((qG M g).map D.int)=some ((qG M (Oz g o1 o2)).map λn=>.sh (.int n)):=by
 rw[Z.uj (λd=>match d with|.int i=>AV.sh (.int (if i=o2 then o1 else i))|_=>.sh .non)]
 .unfold qG;rw[mPq,mPq,mPq];rfl
 .intro d hd;obtain⟨i,hi,rfl⟩:=mMq.mp hd;refine⟨[i0 i,i0 o1,i0 o2],?_⟩;show _=some (AV.sh (.int (if i=o2 then o1 else i)),_)
  by_cases c:i=o2
  .have l:=d0 c;have s:atI [D.int i,D.int o1] 1=some (.int o1):=uC rfl;rw[pO c]
   simp_arith [l,UM,s]
  .have l:=d4 c;have t:atI [D.int i,D.int o1] 0=some (.int i):=uC rfl;rw[pK c]
   simp_arith [l,UM,t]
def PJ(l:Mp M)(n:e∈M.flatten):vW (Qg M (qG M g) v3 (i0 e) v5 v6 none)=some (.nx (Qg M (qG M (Oz g (g (plc M e)) (g (plc M (-e))))) v3 (i0 e) (i0 (g (plc M e))) (i0 (g (plc M (-e)))) none)):=by
 have s:Z.getD (qv 0 M) (.inl e)=some (.int (plc M e)):=(vz l).kv n;have t:Z.getD (qv 0 M) (.inl (-e))=some (.int (plc M (-e))):=(vz l).kv (l.hneg e n);have u:=GD (g:=g) (row_at l n).1;have x:=GD (g:=g) (row_at l (l.hneg e n)).1;generalize g (plc M e)=z at *;generalize g (plc M (-e))=B at *;have E:=Pe (M:=M) (g:=g) (o1:=z) (o2:=B);have G:(qG M g).length<=qM:=uS (by unfold qG;rw[lMq,aB];have:=l.hr;lia)
 unfold Qg
 simp_arith [vW,s,t,u,x,E,G]
def OG(t:Mp M){i:Nat}{r:Ϝ}(hr:M[i]?=some r)(h:Sj M E g):∃g' l n s,rZ 4 vW (r.map D.int) (Qg M (qG M g) (some (.sh (dI r))) v4 v5 v6 none)=some (.nx (Qg M (qG M g') (some (.sh (dI r))) l n s none))/\Sj M (E++r) g':=by
 have key:=tO (x:=4) (λj S=>∃g v4 v5 v6,S=Qg M (qG M g) (some (.sh (dI r))) v4 v5 v6 none/\Sj M (E++r.take j) g) ⟨g,v4,v5,v6,rfl,by rw[jy,aNq];exact h⟩ (by
  rintro j d S hd ⟨g,v4,v5,v6,rfl,h⟩;rw[gMq]at hd;obtain⟨e,u,rfl⟩:=oMq.mp hd;have G:r.take (j+1)=r.take j++[e]:=by rw[bG,u];rfl
  have z:=mFq.mpr ⟨r,mGq hr,mGq u⟩;refine⟨_,PJ t z,_,_,_,_,rfl,?_⟩;rw[G,←ae];exact h.step t z)
 obtain⟨H,e,g',l,n,s,rfl,B⟩:=key;rw[lMq,aK]at B;exact⟨g',l,n,s,e,B⟩
def OA(z:Mp M):∃g v3 v4 v5 v6,rZ 3 vT (M.map dI) (Qg M (qG M λk=>(k:Int)) none none none none none)=some (.nx (Qg M (qG M g) v3 v4 v5 v6 none))/\Sj M M.flatten g:=by
 have key:=tO (x:=3) (body:=vT) (λi S=>∃g v3 v4 v5 v6,S=Qg M (qG M g) v3 v4 v5 v6 none/\Sj M (M.take i).flatten g) (ds:=M.map dI) ⟨λk=>(k),none,none,none,none,rfl,⟨λa b q=>by
  have:a=b:=by lia
  rw[this];exact .base,λe B=>by cases B⟩⟩ (by
  rintro i d S hd ⟨g,v3,v4,v5,v6,rfl,h⟩;rw[gMq]at hd;obtain⟨r,hr,rfl⟩:=oMq.mp hd;have E:(M.take (i+1)).flatten=(M.take i).flatten++r:=by rw[bG,hr,fAq];show _++(r++[])=_;rw[aNq]
  obtain⟨t,l,n,s,u,G⟩:=OG z hr h (v4:=v4) (v5:=v5) (v6:=v6);refine⟨Qg M (qG M t) (some (.sh (dI r))) l n s none,?_,t,_,_,_,_,rfl,by rw[E];exact G⟩
  unfold Qg at u ⊢
  simp_arith [vT,u,dI])
 obtain⟨H,e,g,v3,v4,v5,v6,rfl,h⟩:=key;rw[lMq,aK]at h;exact⟨g,v3,v4,v5,v6,e,h⟩
def Qr o:vI (tN (qe FP (oH 1) (oH 2))) (oW 0) [i0 o] ((M.map dI).zip ((qG M g).map D.int))=some ((Bs M g o).map λr=>.sh (dI r)):=by
 have l:(M.map dI).zip ((qG M g).map D.int)=(aF M.length).map λk=>(dI (M.getD k []),D.int (g k)):=by
  have:M.map dI=(aF M.length).map λk=>dI (M.getD k []):=by
   conv=>lhs;rw[←rW M]
   rw[mPq];rfl
  rw[this];unfold qG;rw[mPq,List.zip_map'];rfl
 rw[l,Cq (λd=>match d.2 with|.int i=>decide (i=o)|_=>false) λd=>.sh d.1]
 .unfold Bs;rw[fR,mPq,mPq];rfl
 .intro d hd;obtain⟨k,hk,rfl⟩:=mMq.mp hd;refine⟨[some (.sh (dI (M.getD k []))),i0 (g k),i0 o],?_,λ_=>⟨_,rfl⟩⟩
  simp_arith []
def oL(L:List Λ):AV:=.ow (L.map λN=>.ow (N.map λr=>.sh (.list (r.map D.int))))
def Sh(u:Mp M){P:Ϝ}(L:P.length<=1000)(n:oN x=dI (qG M g)):∃s l,rZ 5 vJ (P.map D.int) [some (.sh (dM M)),v1,some x,v3,v4,v5,v6,some (.ow [])]=some (.nx [some (.sh (dM M)),v1,some s,v3,v4,l,v6,some (oL (P.map (Bs M g)))]):=by
 have key:=tO (x:=5) (body:=vJ) (λj S=>∃x v5,S=[some (.sh (dM M)),v1,some x,v3,v4,v5,v6,some (oL ((P.take j).map (Bs M g)))]/\oN x=dI (qG M g)) (ds:=P.map D.int) ⟨x,v5,rfl,n⟩ (by
  rintro j d S hd ⟨x,v5,rfl,n⟩;rw[gMq]at hd;obtain⟨o,z,rfl⟩:=oMq.mp hd;have B:P.take (j+1)=P.take j++[o]:=by rw[bG,z];rfl
  have E:=Qr (M:=M) (g:=g) o;have G:(M.map dI).length=((qG M g).map D.int).length:=by unfold qG;rw[lMq,lMq,lMq,aB]
  have t:M.length=(qG M g).length:=by unfold qG;rw[lMq,aB]
  have H:M.length<=qM:=uS (by have:=u.hr;lia)
  have lt:=List.length_take_le' j P;have I:(P.take j).length<qM:=by show _<16777216;lia
  refine⟨[some (.sh (dM M)),v1,some (.sh (dI (qG M g))),v3,v4,i0 o,v6,some (oL ((P.take (j+1)).map (Bs M g)))],?_,_,_,rfl,uk _⟩;rw[B,mBq];have J:((P.take j).map (Bs M g)).map (λN=>AV.ow (N.map λr=>.sh (.list (r.map D.int))))++[.ow ((Bs M g o).map λr=>.sh (.list (r.map D.int)))]=((P.take j).map (Bs M g)++[o].map (Bs M g)).map λN=>AV.ow (N.map λr=>.sh (.list (r.map D.int))):=by rw[mBq];rfl
  unfold oL
  simp_arith [vJ,VR,n,dM,dI,E,G,←t,H,I,J,true_and])
 obtain⟨O,e,s,l,rfl,_⟩:=key;rw[lMq,aK]at e;exact⟨s,l,e⟩
def US L:oN (oL L) = .list (L.map dM):=by
 unfold oL;rw[rM,mPq];refine congrArg D.list (mCq λN _=>?_)
 show oN (.ow _)=_;rw[rM,mPq];exact congrArg D.list (mCq λr _=>uk _)
theorem M8{α:Type}(x:α):∀{O:Ϝ},a∉O->(O.flatMap λo=>if a=o then [x]else [])=[]
 | [],_=>rfl
 |o::O,h=>by
  rw[bO,pK (λq=>h (by rw[q];exact ah ..)),M8 x λm=>h (mCo _ m)]
  rfl
theorem RQ{α:Type}(x:α):∀{O:Ϝ},O.Nodup->a∈O->(O.flatMap λo=>if a=o then [x]else [])=[x]
 | [],_,h=>by cases h
 |o::O,hn,h=>by
  obtain⟨l,n⟩:=aq.mp hn;rw[bO]
  by_cases c:a=o
  .rw[pO c,M8 x (by rw[c];exact l)]
   rfl
  .rw[pK c,RQ x n ((aa.mp h).resolve_left c)];rfl
theorem Rk{α β:Type}(f g:α->List β):∀O:List α,(O.flatMap λo=>f o++g o).Perm (O.flatMap f++O.flatMap g)
 | []=>.refl _
 |o::O=>by
  rw[bO,bO,bO,ae,ae];refine aE.append_left _ (((Rk f g O).append_left (g o)).trans ?_);rw[←ae,←ae];exact aG.append_right _
theorem IZ{α:Type}(g:α->Int){O:Ϝ}(s:O.Nodup):∀l,(∀k∈l,g k∈O)->(O.flatMap λo=>l.filter λk=>decide (g k=o)).Perm l
 | [],_=>by
  have:∀O:Ϝ,(O.flatMap λ_=>([]:List α))=[]:=λO=>by
   induction O with
   |nil=>rfl
   |cons o O n=>rw[bO,n];rfl
  simp only[List.filter_nil];rw[this]
 |x::l,h=>by
  have n:=IZ g s l λk hk=>h k (mCo _ hk)
  have e:(λo=>(x::l).filter λk=>decide (g k=o))=λo=>(if g x=o then [x]else [])++l.filter λk=>decide (g k=o):=by
   funext o
   by_cases c:g x=o <;> simp[c]
  rw[e];refine(Rk _ _ O).trans ?_;rw[RQ x s (h x (ah ..))];exact n.cons x
def R8{O:Ϝ}(l:O.Nodup)(h:∀k,k<M.length->g k∈O):(O.map (Bs M g)).flatten.Perm M:=by
 have p:=(IZ g l (aF M.length) λk hk=>h k (bA.mp hk)).map λk=>M.getD k []
 have e:(O.map (Bs M g)).flatten=(O.flatMap λo=>(aF M.length).filter λk=>decide (g k=o)).map λk=>M.getD k []:=by
  rw[List.map_flatMap];rfl
 rw[e];refine p.trans ?_;rw[rW M]
structure EY (N:Λ):Prop where
 mp:Mp N
 pos:0<N.length
 one:∀k,k<N.length->tZ N 0 k
def Rz(s:Mp M):∃(x:AV) (L:List Λ),wj [dM M]=some x/\oN x = .list (L.map dM)/\0<L.length/\L.length<=1000/\(∀N∈L,EY N)/\(L.flatten.Perm M∨L=[[[]]]):=by
 obtain⟨g,Q,R,S,U,z,X⟩:=OA s;have E:=yN s.hn (by have:=s.hl;lia)
 have hr:=s.hr;have G:=yD (n:=M.length) ∅
 have rl:(qr 0 M.length).length<=qM:=uS (by rw[qh];lia)
 have H:(qG M g).length=M.length:=by unfold qG;rw[lMq,aB]
 have lD:(sk (Ms.dd (qG M g))).length<=M.length:=by
  rw[(rJ _).length_eq];have:=Ms.Mm (qG M g);lia
 obtain⟨x',Y,u⟩:=Sh s (g:=g) (P:=sk (Ms.dd (qG M g))) ∅ (x:=aI (qG M g)) (pd _) (v1:=some (.owd (qv 0 M))) (v3:=Q) (v4:=R) (v5:=S) (v6:=U)
 have I:(qG M g).length<=4000:=by lia
 have t:M.length<=4000:=by lia
 have J:(qr 0 M.length).map AV.sh=(qG M λk=>(k:Int)).map λn=>.sh (.int n):=by
  rw[Dy];unfold qG;rw[mPq,mPq];rfl
 unfold Qg at z;have O:(qr 0 M.length).length=M.length:=qh 0 M.length;have la:M.length<=qM:=uS ∅
 by_cases c:(sk (Ms.dd (qG M g))).map (Bs M g)=[]
 .refine⟨.ow [.ow [.ow []]],[[[]]],?_,rfl,by simp,by simp,λN B=>?_,.inr rfl⟩
  .rw[c]at u
   simp_arith [wj,Be,E,dM,G,Hv,J,O,la,z,Rv,I,t,H,u,XE,oL]
   rfl
  .rw[mSq.mp B];exact⟨⟨by simp,by simp,by simp,by simp⟩,by simp,λk hk=>by
    have:k=0:=by simpa using hk
    rw[this];exact .base⟩
 .refine⟨oL ((sk (Ms.dd (qG M g))).map (Bs M g)),_,?_,US _,eV.mpr c,by rw[lMq];lia,λN B=>?_,.inl (R8 ((rJ _).nodup_iff.mpr (Ms.abn _)) λk hk=>(rJ _).mem_iff.mpr (Ms.Rf.mpr (mMq.mpr ⟨k,bA.mpr hk,rfl⟩)))⟩
  .generalize (sk (Ms.dd (qG M g))).map (Bs M g)=L at u c;have ne:(L.map λN=>AV.ow (N.map λr=>.sh (.list (r.map D.int)))).isEmpty=false:=by
    cases L with
    |nil=>exact absurd rfl c
    |cons a l=>rfl
   simp_arith [wj,Be,E,dM,G,Hv,J,O,la,z,Rv,I,t,H,u,XE,oL,ne]
  .obtain⟨o,ho,rfl⟩:=mMq.mp B;obtain⟨k,hk,rfl⟩:=mMq.mp (Ms.Rf.mp ((rJ _).mem_iff.mp ho));obtain⟨p1,p2,_,p4⟩:=aau s X (bA.mp hk);exact⟨p1,p2,p4⟩
end
end K52
namespace K52
open PySem L2 Mr Z Xe Zl
open K15 (nx xQ)
open K18 (pp cp PC CI sZ tq Ce uv)
open K43 (vz qm)
open K51 (tZ AR)
def Kh(l:Mp M)(t:0<M.length)(one:∀k,k<M.length->tZ M 0 k):K54.C5 [dM M]=some (.ow ((run M M.flatten.length).th.map AR)):=by
 obtain⟨kn,PS,O,P⟩:=K51.pieces_ok (vz l);have Q:((PS.length:Nat):Int)=1:=by rw[K51.G3 O t λa b ha hb=>((one a ha).symm (vz l)).trans (one b hb)];rfl
 have I:K54.qV [dM M]=some (.sh .non):=by
  simp_arith [K54.qV,K54.uy,P,Q]
 have hr:=qm t;have u:atI (M.map dI) 0=some (dI (M.getD 0 [])):=uC (j:=0) (by rw[gMq,hr];rfl)
 have hl:=l.hl;have hv:=l.hr;cases q:M.getD 0 []with
 |nil=>
  rw[q]at u hr;have x:∀k,tZ M 0 k->k=0:=λk hk=>by
   induction hk with
   |base=>rfl
   |step _ a b R=>
    rw[R,hr]at a;cases a;cases b
  have U:M.length=1:=by
   have:=x (M.length-1) (one _ ∅)
   lia
  have X:M=[[]]:=by
   match M,U,hr with
   | [r],_,hr=>simp at hr;rw[hr]
  have n:(run M M.flatten.length).th=[]:=by rw[X];rfl
  rw[n];have z:decide (((0:Nat):Int)=0)=true:=rfl;have B:atI (M.map dI) 0=some (.list []):=u
  simp_arith [K54.C5,K54.Hi,I,dM,B,z]
 |cons n J=>
  rw[q]at u;have B:atI (D.int n::J.map D.int) 0=some (.int n):=uC (j:=0) rfl;have Y:=yN l.hn ∅
  have E:=K51.Km l.hn l.hl;have ln:(K51.ud (K51.pE M)).length=M.flatten.length:=by rw[K51.NL,K51.G0]
  have z:decide (((J.length+1:Nat):Int)=0)=false:=d4 ∅
  have c0:(run M 0).cur=n:=by
   show(M.getD 0 []++[]).headD 0=n;rw[q];rfl
  have key:=uK (c:=tN (qe FQ (uR rE (oI (oH 4) oS)) (uR J5 (oI (oH 2) oS)))) (body:=K51.wc) (λS=>∃i e s,i<=M.flatten.length/\S=TX M (run M i) e s/\(i<M.flatten.length->e=(run M i).cur)) (muw M.flatten.length) (λS=>∃e s,S=TX M (run M M.flatten.length) e s) (by
   rintro S ⟨i,e,s,hi,rfl,he⟩;have L:=xq l t one i hi;have w:=tH l t i;have lk:=aav l w;refine⟨decide (i<M.flatten.length),TX M (run M i) e s,?_,λlt=>?_,λge=>?_⟩
   .have lm:((run M i).th.map AR).length=i:=by rw[lMq,L]
    have dc:decide ((i:Int)<(M.flatten.length:Int))=decide (i<M.flatten.length):=decide_eq_decide.mpr ∅
    unfold TX
    simp_arith [L,ln,dc]
   .have lt:i<M.flatten.length:=of_decide_eq_true lt;obtain⟨g1,g2,g3,g4⟩:=Ae l t one lt;obtain⟨e',G,w1,w2⟩:=We l g1 g3 ∅ ∅ (v6:=s)
    rw[he lt];refine⟨_,w1,⟨i+1,e',G,by lia,rfl,λh=>w2 (Ae l t one h).2.2.2⟩,?_⟩
    have l2:=xq l t one (i+1) ∅
    show M.flatten.length-((run M (i+1)).th.map AR).length<M.flatten.length-((run M i).th.map AR).length;rw[lMq,lMq];lia
   .have:i=M.flatten.length:=by
     have:=of_decide_eq_false ge;lia
    subst this;exact⟨e,s,rfl⟩) 100000 (TX M (run M 0) n none) ⟨0,n,none,by lia,rfl,λ_=>c0.symm⟩ (by
   show M.flatten.length-_<100000;lia)
  obtain⟨S',H,e,s,rfl⟩:=key;unfold TX at H;have t0:(run M 0).th.map AR=[]:=rfl;have b0:DC (run M 0)=[(.inl 0,.non)]:=rfl;rw[t0,b0]at H
  simp_arith [K54.C5,K54.Hi,I,dM,u,dI,B,z,Y,E,H]
end K52
namespace K54
open PySem L2 Mr Z Xe Zl
open K18 (Ln nL yV)
open K51 (FL AR)
open K52 (EY run tH uO Kh)
def VC(p:EY M)(nz:∀e∈M.flatten,e≠0)(G:M.flatten.length<=400):∃l g,Ln M l/\M.flatten.length+4=2*M.length+2*nL M l+4*g/\(B3 [] (run M M.flatten.length).th=none↔g=0):=by
 have mp:=Uc p.mp p.pos p.one;have L:=Oo p.mp p.pos p.one;obtain⟨_,_,t⟩:=(tH p.mp p.pos M.flatten.length).whole p.mp (uO p.mp p.pos p.one) p.one;have sb:(sS (run M M.flatten.length)).Sublist ((run M M.flatten.length).th.map (·.2)):=cu.map _;have sub:∀x∈sS (run M M.flatten.length),x∈M.flatten:=λx n=>t.mem_iff.mp (sb.subset n)
 obtain⟨u,lw⟩:=yV mp;obtain⟨l,H,e⟩:=UH p.mp p.pos p.one lw;have fs:B3 [] (run M M.flatten.length).th=none↔Jl [] (sS (run M M.flatten.length))=true:=by rw[BW];rfl
 rw[fs];generalize sS (run M M.flatten.length)=W at *;have B:[W].flatten=W:=by simp
 have E:Wo W:=⟨by have:=mp.hn;rwa [B]at this,by have:=mp.hneg;rwa [B]at this,λx n=>nz x (sub x n),by have:=sb.length_le;have:=t.length_eq;lia⟩
 obtain⟨g,O⟩:=Ez _ rfl E lw;refine⟨l,g,H,by lia,(Iy W [] E λz I=>by cases I).trans ⟨?_,λq=>⟨u,lw,?_⟩⟩⟩
 .rintro⟨L2,J,s⟩;have s:W.length+2=2*nL [W] L2:=s;rw[Ln.one mp J lw]at s;lia
 .show W.length+2=2*nL [W] u;lia
def Ja(p:EY M):C5 [dM M]=some (.ow ((run M M.flatten.length).th.map AR))/\rh [.list ((run M M.flatten.length).th.map FL)]=some (.sh (Qe (B3 [] (run M M.flatten.length).th))):=by
 obtain⟨n,_,l⟩:=(tH p.mp p.pos M.flatten.length).whole p.mp (uO p.mp p.pos p.one) p.one;have sb:(sS (run M M.flatten.length)).Sublist ((run M M.flatten.length).th.map (·.2)):=cu.map _;refine⟨Kh p.mp p.pos p.one,Jx ((l.nodup_iff.mpr p.mp.hn).sublist sb) (by have:=p.mp.hl;lia) (LN p.mp p.pos p.one M.flatten.length (af _)).wd⟩
def uu:List Λ->Option (Int×Int)
 | []=>none
 |N::P=>match B3 [] (run N N.flatten.length).th with
  |none=>uu P
  |some q=>some q
theorem zH:∀{P},uu P=none↔∀N∈P,B3 [] (run N N.flatten.length).th=none
 | []=>⟨λ_ N h=>(by cases h),λ_=>rfl⟩
 |N::P=>by
  unfold uu;cases q:B3 [] (run N N.flatten.length).th with
  |none=>
   rw[zH];exact⟨λh K l=>(aa.mp l).elim (λz=>z ▸ q) λz=>h K z,λh K l=>h K (mCo _ l)⟩
  |some x=>
   refine⟨λh=>(by cases h),λh=>?_⟩
   have:=h N (ah ..);rw[q]at this;cases this
theorem Dj:∀P,(∀N∈P,EY N)->∀{v0 v1 v2},∃S,rZ 1 qW (P.map dM) [v0,v1,v2]=some (match uu P with|none=>.nx S|some q=>.rt (.sh (.tup [.int q.1,.int q.2])))
 | [],_,v0,v1,v2=>⟨_,rfl⟩
 |N::P,h,v0,v1,v2=>by
  obtain⟨w,c⟩:=Ja (h N (ah ..));have t:((run N N.flatten.length).th.map AR).map oN=(run N N.flatten.length).th.map FL:=by rw[mPq];exact mCq λr _=>uk _
  cases q:B3 [] (run N N.flatten.length).th with
  |none=>
   rw[q]at c;have l:uu (N::P)=uu P:=by
    show(match B3 [] (run N N.flatten.length).th with|none=>uu P|some q=>some q)=_
    rw[q]
   have n:qW [v0,some (.sh (dM N)),v2]=some (.nx [v0,some (.sh (dM N)),some (.sh .non)]):=by
    have s:IT .non .non=some (.bl false):=rfl;unfold Qe at c
    simp_arith [qW,w,t,c,s]
   obtain⟨S,u⟩:=Dj P (λK z=>h K (mCo _ z))
   refine⟨S,?_⟩;rw[l];show(qW [v0,some (.sh (dM N)),v2]).bind _=_;rw[n];exact u
  |some x=>
   rw[q]at c;have l:uu (N::P)=some x:=by
    show(match B3 [] (run N N.flatten.length).th with|none=>uu P|some q=>some q)=_
    rw[q]
   have n:qW [v0,some (.sh (dM N)),v2]=some (.rt (.sh (.tup [.int x.1,.int x.2]))):=by
    have s:IT (.tup [.int x.1,.int x.2]) .non=some (.bl true):=rfl;unfold Qe at c
    simp_arith [qW,w,t,c,s]
   refine⟨[],?_⟩;rw[l];show(qW [v0,some (.sh (dM N)),v2]).bind _=_;rw[n];rfl
def FJ(h:∀N∈P,EY N)(n:oN x = .list (P.map dM))(e:K51.wB [dM M]=some x):tQ [dM M]=some (.sh (Qe (uu P))):=by
 obtain⟨S,l⟩:=Dj P h (v0:=some (.sh (dM M))) (v1:=none) (v2:=none);unfold Qe;cases q:uu P with
 |none=>
  rw[q]at l
  simp_arith [tQ,zT,e,n,l]
 |some p=>
  rw[q]at l
  simp_arith [tQ,zT,e,n,l]
def O9(n:Mp M)(hs:s0<M.length)(pc:K51.Pc M s0 ps):EY (ps.map λk=>M.getD k []):=by
 have lt:=pc.lt;obtain⟨Q,U,s⟩:=K52.N4 pc.nd lt;have L:(ps.map λk=>M.getD k []).flatten.Perm (Q.flatMap λp=>M.getD p []):=by
  exact aE.flatMap_right _ U
 have X:=K51.XG M.length ps pc.nd lt;have x:∀{j k:Nat},ps[j]?=some k->(ps.map λk=>M.getD k [])[j]?=some (M.getD k []):=λ{j k} e=>by
  rw[gMq,e];rfl
 have H:∀{e:Int},e∈M.flatten->plc M e∈ps->e∈(ps.map λk=>M.getD k []).flatten:=λ{e} l q=>mFq.mpr ⟨_,mMq.mpr ⟨plc M e,q,rfl⟩,(K52.row_at n l).2⟩
 have t:∀{e:Int},e∈(ps.map λk=>M.getD k []).flatten->e∈M.flatten/\plc M e∈ps:=λ{e} l=>by
  obtain⟨r,hr,G⟩:=mFq.mp l;obtain⟨k,hk,rfl⟩:=mMq.mp hr;have O:=K43.qm (lt k hk);refine⟨mFq.mpr ⟨_,mGq O,G⟩,?_⟩;rw[plc_eq n.hn O G];exact hk
 have clo:∀{e:Int},e∈M.flatten->plc M e∈ps->plc M (-e)∈ps:=λ{e} l q=>by
  obtain⟨r,Y,G⟩:=n.at l;exact(pc.iff _).mpr (.step ((pc.iff _).mp q) Y G)
 have mp:Mp (ps.map λk=>M.getD k []):=⟨L.nodup_iff.mpr (n.hn.sublist s),by have:=L.length_eq;have:=s.length_le;have:=n.hl;lia,by rw[lMq];have:=n.hr;lia,λe l=>H (n.hneg e (t l).1) (clo (t l).1 (t l).2)⟩
 have go:∀{i k I:Nat},ps[i]?=some k->K51.tZ M k I->∃j,ps[j]?=some I/\K51.tZ (ps.map λk=>M.getD k []) i j:=λ{i k I} hi r=>by
  induction r with
  |base=>exact⟨i,hi,.base⟩
  | @step k1 row e r1 u l ih=>
   obtain⟨j,z,rj⟩:=ih;have P:=mFq.mpr ⟨row,mGq u,l⟩;have q1:=clo P (by rw[plc_eq n.hn u l];exact mGq z)
   obtain⟨j',B⟩:=ay.mp q1;have E:K51.tZ (ps.map λk=>M.getD k []) i (plc (ps.map λk=>M.getD k []) (-e)):=.step rj (x z) (by rw[gDq,u];exact l)
   rw[plc_eq mp.hn (x B) (K52.row_at n (n.hneg e P)).2]at E;exact⟨j',B,E⟩
 have J:=(pc.iff s0).mpr .base;have pos:=fk J;refine⟨mp,by rw[lMq];exact pos,λk hk=>?_⟩
 rw[lMq]at hk;have R:=gEg pos;have S:=gEg hk;have r0:=(pc.iff _).mp (mGq R);have rk:=(pc.iff _).mp (mGq S);obtain⟨j,z,r⟩:=go R ((r0.symm (K43.vz n)).trans rk);have:=(ik (gSq.mp z).1 pc.nd).mp (z.trans S.symm);rw[←this];exact r
def Ip(n:Mp M):∃P:List Λ,P.flatten.Perm M/\(∀N∈P,EY N)/\P.length=K47.pn M/\tQ [dM M]=some (.sh (Qe (uu P))):=by
 obtain⟨kn,PS,s,e⟩:=K51.pieces_ok (K43.vz n);have all:∀N∈PS.map λl=>l.map λk=>M.getD k [],EY N:=λN u=>by
  obtain⟨l,t,rfl⟩:=mMq.mp u;obtain⟨x,hs,pc⟩:=s.pc l t;exact O9 n hs pc
 refine⟨PS.map λl=>l.map λk=>M.getD k [],K12.tJ s,all,by rw[lMq];exact K47.MY n s,FJ all ?_ e⟩
 rw[rM,mPq,mPq];refine congrArg D.list (mCq λl _=>?_)
 show oN (.ow (l.map λk=>aI (M.getD k [])))=dM _
 rw[rM,mPq];show _=D.list ((l.map λk=>M.getD k []).map dI)
 rw[mPq];exact congrArg D.list (mCq λk _=>pd _)
end K54
namespace K54
open PySem L2 Mr Z Xe Zl
open K18 (Ln nL PC xJ)
open K47 (Mv pn)
open K52 (EY run)
def WM(h:Mv (X++Y))(l:∀e∈X.flatten, -e∈X.flatten):Mv X:=by
 have n:=h.mp.hn;rw[fAq]at n;have s:=h.mp.hl;have t:=h.mp.hr;have u:=h.lv;have x:=h.le;rw[fAq,lAq]at s x;rw[lAq]at t u;exact⟨⟨(nAq.mp n).1,by lia,by lia,l⟩,λe z=>h.nz e (by rw[fAq];exact ao _ z),by lia,by lia⟩
theorem XO:∀{P},(∀N∈P,EY N)->(∀e∈P.flatten.flatten,e≠0)->P.flatten.flatten.length<=400->∃s g,Ln P.flatten s/\P.flatten.flatten.length+4*P.length=2*P.flatten.length+2*nL P.flatten s+4*g/\(uu P=none↔g=0)
 | [],_,_,_=>⟨[],0,⟨λx y=>rfl,λc l=>(by cases l)⟩,rfl,λ_=>rfl,λ_=>rfl⟩
 |N::P,hp,nz,hl=>by
  rw[fCq,fAq]at nz hl;rw[lAq]at hl;obtain⟨z,B,t,ex,E⟩:=VC (hp N (ah ..)) (λe n=>nz e (ao _ n)) ∅
  obtain⟨G,H,u,I,J⟩:=XO (λK L=>hp K (mCo _ L)) (λe n=>nz e (aj _ n)) ∅
  refine⟨z++G,B+H,⟨λx y=>?_,λc l=>(mAq.mp l).elim (t.ne c) (u.ne c)⟩,?_,?_⟩
  .rw[fCq,xJ,xJ,t.cnt x y,u.cnt x y]
  .unfold K18.nL at ex I ⊢;rw[fCq,fAq,lAq,lAq,lAq,cAq,lCq];lia
  .have f:uu (N::P)=none↔B3 [] (run N N.flatten.length).th=none/\uu P=none:=by
    rw[zH,zH];simp only[aa,forall_eq_or_imp]
   rw[f,E,J];lia
end K54
namespace K54
open PySem L2 Mr Z Xe Zl
open K18 (Ln nL yV)
open K47 (Mv pn Ti MY M5 uU)
open K43 (rds)
open K52 (EY)
def Nb(h:Mv M)(l:M.flatten.length<=400){N:Λ}(u:K15.qD [dM M]=some (.ow (N.map aI))):∃g q,4*pn M+M.flatten.length=2*M.length+2*N.length+4*g/\tQ [dM M]=some (.sh (Qe q))/\(q=none↔g=0):=by
 obtain⟨P,pm,pc,pl,x⟩:=Ip h.mp;have n:=pI pm;obtain⟨I,g,z,s,q⟩:=XO pc (λe B=>h.nz e (n.mem_iff.mp B)) (by rw[n.length_eq];exact l)
 have E:=z.congr λq=>(aE.flatMap_right _ pm).symm.count_eq q
 obtain⟨J,t,G⟩:=E.lands h.mp;rw[u]at t;have H:=K17.CV (AV.ow.inj (aA.inj t));subst H;refine⟨g,_,?_,x,q⟩;have c:=pm.count_eq ([]);rw[n.length_eq,pm.length_eq]at s;unfold K18.nL at s G;lia
def Mk(h:Mv M){N:Λ}(n:K15.qD [dM M]=some (.ow (N.map aI)))(u:4*pn M+M.flatten.length=2*M.length+2*N.length+4*g):yn [dM M]=i0 (g:Int):=by
 obtain⟨kn,PS,s,l⟩:=K17.Pp h.mp n;have k:=MY h.mp s;have x:=K17.rds_len h.mp h.nz;have hd:(2*((PS.length):Int)-(M.length)+((rds M).length)-(N.length)) / 2=(g):=by lia
 rw[hd]at l;have t:∀a b c d e,Xc (.tup [.int a,.int b,.int c,.int d,.int e]) (.int 4)=some (.int e):=λ_ _ _ _ _=>rfl
 simp_arith [yn,EL,l,t]
def Vd(h:Mv M)(s:M.length+M.flatten.length<=450):∃N G:Λ,K15.qD [dM M]=some (.ow (N.map aI))/\Mv N/\N.flatten.length=M.flatten.length/\pn N=pn M/\K15.qD [dM N]=some (.ow (G.map aI))/\G.length=M.length:=by
 obtain⟨N,t,l,x,u,_,_,J⟩:=K16.JN h.mp ∅
 have fl:=u.length_eq;obtain⟨kn,PS,z,L⟩:=uU h.mp;obtain⟨B,E,n,H⟩:=uU l;have O:=K17.OD h.mp ∅ z t n
 exact⟨N,_,t,⟨l,λe I=>h.nz e (u.mem_iff.mp I),by lia,by rw[fl];exact h.le⟩,fl,by lia,x,by rw[qB,lMq]⟩
def UC(h:Mv M){N:Λ}(z:K15.qD [dM M]=some (.ow (N.map aI))):∃G:Λ,Mv (K19.mr M)/\(K19.mr M).length=M.length/\pn (K19.mr M)=pn M/\K15.qD [dM (K19.mr M)]=some (.ow (G.map aI))/\G.length=N.length:=by
 have l:=K19.MZ h.mp;have s:=K19.yG M;have fl:=s.length_eq;have t:(K19.mr M).length=M.length:=by unfold K19.mr;rw[qB,lMq,lMq]
 obtain⟨Q,u,g2,_,_⟩:=K19.UQ h.mp;obtain⟨R,x,B,_,_⟩:=K15.LO h.mp;rw[B]at u;rw[z]at x;have E:=K17.CV (AV.ow.inj (aA.inj u));have H:=K17.CV (AV.ow.inj (aA.inj x));obtain⟨kn,PS,I,S⟩:=uU h.mp;obtain⟨J,L,n,O⟩:=uU l;have U:=K17.KW h.mp I n;exact⟨_,⟨l,λe P=>h.nz e (s.mem_iff.mp P),by rw[t];exact h.lv,by rw[fl];exact h.le⟩,t,by lia,g2,by rw[qB,lMq,lMq,←E,←H]⟩
structure Qi (P:List Λ):Prop where
 pc:∀N∈P,EY N
 nd:P.flatten.flatten.Nodup
 nz:∀z∈P.flatten.flatten,z≠0
 le:P.flatten.flatten.length<=134
 lt:P.flatten.length<=140
section
variable {P:List Λ}
def J7(h:∀N∈P,∀e∈N.flatten, -e∈N.flatten):∀z∈P.flatten.flatten, -z∈P.flatten.flatten:=λe x=>by
 obtain⟨r,hr,l⟩:=mFq.mp x;obtain⟨K,u,n⟩:=mFq.mp hr;obtain⟨B,s,t⟩:=mFq.mp (h K u e (mFq.mpr ⟨r,n,l⟩));exact mFq.mpr ⟨B,mFq.mpr ⟨K,u,s⟩,t⟩
def Qi.perm(h:Qi P)(p:P.Perm Q):Qi Q:=by
 have n:=p.flatten;have l:=n.flatten;exact⟨λN s=>h.pc N (p.mem_iff.mpr s),l.nodup_iff.mp h.nd,λz t=>h.nz z (l.mem_iff.mpr t),by rw[←l.length_eq];exact h.le,by rw[←n.length_eq];exact h.lt⟩
def Qi.mv(h:Qi P):Mv P.flatten:=⟨⟨h.nd,by have:=h.le;lia,by have:=h.lt;lia,J7 λN l=>(h.pc N l).mp.hneg⟩,h.nz,by have:=h.lt;lia,by have:=h.le;lia⟩
theorem MQ:∀{P:List Λ},(∀N∈P,EY N)->Mv P.flatten->pn P.flatten=P.length
 | [],_,h=>by
  obtain⟨kn,PS,s,e⟩:=uU h.mp;rw[←e];cases PS with
  |nil=>rfl
  |cons t _=>
   obtain⟨u,hs,_⟩:=s.pc t (ah ..);exact absurd hs (cG _)
 |N::P,hN,h=>by
  rw[fCq]at h ⊢;have n:=J7 λK l=>(hN K (mCo _ l)).mp.hneg
  have p:=hN N (ah ..);rw[Ti h.mp p.mp.hneg n,X1 p.mp p.pos p.one,MQ (λK l=>hN K (mCo _ l)) (WM (h.perm aG) n),lCq]
  lia
theorem Qi.srt(h:Qi P):Mv (srt P.flatten)/\pn (srt P.flatten)=P.length:=by
 have mv:=h.mv;refine⟨mv.perm (pV _).symm,?_⟩;rw[←M5 mv.mp (pV _).symm,MQ h.pc mv]
end
end K54
namespace K54
open PySem L2 Mr Z Xe Zl
open K15 (nx fw tI xQ Rd Jw kI kI_get kI_new kI_len tu vi)
noncomputable def mu6(N:Nat):AS->Nat
 | [_,_,some (.owd kvs),_,_,_]=>N+1-kvs.length
 |_=>0
def round_ok(z:Mp rs)(hr:Rd (fw rs) rs.flatten kn H)(u:e∈rs.flatten)(I:e∉kn):∃l v5,Cy (fw rs) e l/\rH (tN (qR (oH 5) (oH 2))) mb_L_lands_0 100000 [v0,some (.sh (.fd (K51.ud (K51.pE rs)))),some (.owd (kI kn)),v3,v4,i0 e]=some (.nx [v0,some (.sh (.fd (K51.ud (K51.pE rs)))),some (.owd (kI (kn++l))),v3,v4,v5]):=by
 have one:=tI z;obtain⟨l,cy,J,E⟩:=one.cy u;have hl:=z.hl;have L:=Mb _ _ hr.nd hr.sub;have M:=hr.out cy I;have B:∀n,Z.getD (K51.ud (K51.pE rs)) (.inl (-(itr (fw rs) n e)))=some (.int (itr (fw rs) (n+1) e)):=λn=>xQ z.hn (z.hneg _ (one.itr_mem u n))
 have key:=uK (c:=tN (qR (oH 5) (oH 2))) (body:=mb_L_lands_0) (λS=>∃n,n<=l.length/\S=[v0,some (.sh (.fd (K51.ud (K51.pE rs)))),some (.owd (kI (kn++l.take n))),v3,v4,i0 (itr (fw rs) n e)]) (mu6 (kn.length+l.length)) (λS=>∃v5,S=[v0,some (.sh (.fd (K51.ud (K51.pE rs)))),some (.owd (kI (kn++l))),v3,v4,v5]) (by
  rintro S ⟨n,R,rfl⟩;have x:=kI_get (kn++l.take n) (itr (fw rs) n e)
  by_cases hn:n<l.length
  .have t:=cy.at hn;have s:itr (fw rs) n e∉kn++l.take n:=λm=>by
    rcases mAq.mp m with q|q
    .exact M _ (mGq t) q
    .have:=bu.sublist (bB (n+1) l) cy.nd;rw[qt t]at this;exact(nAq.mp this).2.2 _ q _ ⋯ rfl
   rw[d4 s]at x;have G:=kI_new s;rw[ae,←qt t]at G;have hs:=B n;have O:(kI (kn++l.take n)).length<qM:=by rw[kI_len,lAq,lTq];show _<16777216;lia
   refine⟨true,[v0,some (.sh (.fd (K51.ud (K51.pE rs)))),some (.owd (kI (kn++l.take n))),v3,v4,i0 (itr (fw rs) n e)],?_,λ_=>⟨[v0,some (.sh (.fd (K51.ud (K51.pE rs)))),some (.owd (kI (kn++l.take (n+1)))),v3,v4,i0 (itr (fw rs) (n+1) e)],?_,⟨n+1,by lia,rfl⟩,?_⟩,λq=>(nomatch q)⟩
   .simp_arith [x]
   .simp_arith [mb_L_lands_0,O,G,hs]
   .show kn.length+l.length+1-_<kn.length+l.length+1-_;simp only[kI_len,lAq,lTq];lia
  .have P:n=l.length:=by lia
   subst P;have hb:=cy.back;rw[hb,aK]at x ⊢;rw[d0 (mAq.mpr (.inr cy.self))]at x;refine⟨false,[v0,some (.sh (.fd (K51.ud (K51.pE rs)))),some (.owd (kI (kn++l))),v3,v4,i0 e],?_,λq=>(nomatch q),λ_=>⟨_,rfl⟩⟩
   simp_arith [x])
 obtain⟨U,Q,v5,rfl⟩:=key 100000 [v0,some (.sh (.fd (K51.ud (K51.pE rs)))),some (.owd (kI kn)),v3,v4,i0 e] ⟨0,aX _,by simp[itr]⟩ (by
  show kn.length+l.length+1-_<100000;lia)
 exact⟨l,v5,cy,Q⟩
def lands_loop(I:Mp rs)(b:Nat):∃v2 v4 v5 L,rZ 4 mb_L_lands_1 (rs.flatten.map D.int) [some (.sh (dM rs)),some (.sh (.fd (K51.ud (K51.pE rs)))),some (.owd []),i0 (b:Int),none,none]=some (.nx [some (.sh (dM rs)),some (.sh (.fd (K51.ud (K51.pE rs)))),v2,i0 ((b:Int)+(L.length:Int)),v4,v5])/\CK (fw rs) rs.flatten L:=by
 have one:=tI I;have key:=tO (x:=4) (body:=mb_L_lands_1) (λi S=>∃kn L v4 v5,S=[some (.sh (dM rs)),some (.sh (.fd (K51.ud (K51.pE rs)))),some (.owd (kI kn)),i0 ((b:Int)+(L.length:Int)),v4,v5]/\Rd (fw rs) rs.flatten kn L/\∀j x,j<i->rs.flatten[j]?=some x->x∈kn) (ds:=rs.flatten.map D.int) (S:=[some (.sh (dM rs)),some (.sh (.fd (K51.ud (K51.pE rs)))),some (.owd []),i0 (b:Int),none,none]) ⟨[],[],none,none,by simp[kI],⟨by simp,rfl,bb,by simp,by simp⟩,λj x h=>absurd h (cG _)⟩ (by
  rintro i d S hd ⟨kn,L,v4,v5,rfl,hr,n⟩;rw[gMq]at hd;obtain⟨e,B,rfl⟩:=oMq.mp hd;have u:e∈rs.flatten:=mGq B;have z:=kI_get kn e
  by_cases c:e∈kn
  .rw[d0 c]at z;refine⟨[some (.sh (dM rs)),some (.sh (.fd (K51.ud (K51.pE rs)))),some (.owd (kI kn)),i0 ((b:Int)+(L.length:Int)),i0 e,i0 e],?_,kn,L,_,_,rfl,hr,λj x t s=>?_⟩
   .have E:rH (tN (qR (oH 5) (oH 2))) mb_L_lands_0 100000 [some (.sh (dM rs)),some (.sh (.fd (K51.ud (K51.pE rs)))),some (.owd (kI kn)),i0 ((b:Int)+(L.length:Int)),i0 e,i0 e]=some (.nx [some (.sh (dM rs)),some (.sh (.fd (K51.ud (K51.pE rs)))),some (.owd (kI kn)),i0 ((b:Int)+(L.length:Int)),i0 e,i0 e]):=by
     obtain⟨J,M,O⟩:=uK (c:=tN (qR (oH 5) (oH 2))) (body:=mb_L_lands_0) (λS=>S=[some (.sh (dM rs)),some (.sh (.fd (K51.ud (K51.pE rs)))),some (.owd (kI kn)),i0 ((b:Int)+(L.length:Int)),i0 e,i0 e]) (λ_=>0) (λS=>S=[some (.sh (dM rs)),some (.sh (.fd (K51.ud (K51.pE rs)))),some (.owd (kI kn)),i0 ((b:Int)+(L.length:Int)),i0 e,i0 e]) (by
      rintro S rfl;refine⟨false,_,?_,λq=>(nomatch q),λ_=>rfl⟩
      simp_arith [z]) 100000 _ rfl ⋯
     rw[M,O]
    simp_arith [mb_L_lands_1,z,E]
   .rcases bT.mp t with q|rfl
    .exact n j x q s
    .rw[B]at s;cases s;exact c
  .rw[d4 c]at z;have P:(b:Int)+(L.length)+1=(b)+((L.length+1:Nat)):=by lia
   obtain⟨l,G,cy,E⟩:=round_ok I hr u c (v0:=some (.sh (dM rs))) (v3:=i0 ((b)+((L.length+1:Nat)))) (v4:=i0 e);have H:=hr.add one cy u c;have Q:(L++[l]).length=L.length+1:=by rw[lAq,lSq]
   refine⟨[some (.sh (dM rs)),some (.sh (.fd (K51.ud (K51.pE rs)))),some (.owd (kI (kn++l))),i0 ((b)+((L++[l]).length)),i0 e,G],?_,kn++l,L++[l],_,_,rfl,H,λj x t s=>?_⟩
   .rw[Q]
    simp_arith [mb_L_lands_1,z,P,E]
   .rcases bT.mp t with q|rfl
    .exact mAq.mpr (.inl (n j x q s))
    .rw[B]at s;cases s;exact mAq.mpr (.inr cy.self))
 obtain⟨J,e,kn,L,v4,v5,rfl,hr,n⟩:=key;refine⟨_,_,_,L,e,hr.orb λx s=>?_⟩
 obtain⟨j,t⟩:=ay.mp s;exact n j x (by rw[lMq];exact(gSq.mp t).1) t
def O3(rs:Λ):rS (BP (yz (oH 0))) (oW 0) [] (rs.map dI)=some ((rs.filter λr=>decide (r=[])).map λr=>.sh (dI r)):=by
 rw[Z.vk (λd=>decide (yt d=[])) (λd=>.sh d)]
 .rw[fR,mPq];have:(λd=>decide (yt d=[]))∘dI=λr=>decide (r=[]):=by funext r;show decide (yt (dI r)=[])=_;rw[tW]
  rw[this];rfl
 .intro d hd;obtain⟨r,hr,rfl⟩:=Bh hd;rw[tW];refine⟨[some (.sh (dI r))],?_,λ_=>⟨[some (.sh (dI r))],?_⟩⟩
  .cases r with
   |nil=>
    have t0:AF (dI [])=some false:=rfl
    simp_arith [t0]
   |cons x r=>
    have l:AF (dI (x::r))=some true:=rfl
    simp_arith [l]
  .simp_arith []
def Wp(l:Mp rs){N:Λ}(t:K15.qD [dM rs]=some (.ow (N.map aI))):f_L_lands [dM rs]=i0 (N.length:Int):=by
 obtain⟨G,u,s⟩:=vi l;rw[t]at s;have q:=K17.CV (AV.ow.inj (aA.inj s));have x:=O3 rs;have z:=K52.Pu l;have B:=Jw rs;have n:((4)≠1)=True:=by simp
 obtain⟨H,I,J,L,e,o⟩:=lands_loop l (rs.filter λr=>decide (r=[])).length
 have p:=(CK.perm (tI l) o u).length_eq;rw[lMq,lMq]at p;have E:((rs.filter λr=>decide (r=[])).length:Int)+(L.length)=(N.length):=by
  rw[q,qB,lMq,lAq];unfold tu;rw[lMq];lia
 rw[E]at e;have lr:rs.length<=qM:=uS (by have:=l.hr;lia)
 simp_arith [f_L_lands,mf_L_lands,z,dM,x,lr,n,B,e]
section
variable {P:List Λ}
def oR(rs:Λ):AV:=.ow (rs.map λr=>.sh (dI r))
def Ci rs:oN (oR rs)=dM rs:=by
 unfold oR;rw[rM,mPq];exact congrArg D.list (mCq λr _=>uk _)
def Gz(hl:P.flatten.length<=1000):uT [.list (P.map dM)]=some (oR (srt P.flatten)):=by
 have key:=tO (x:=2) (body:=xH) (λi S=>∃l,S=[i3 (P.map dM),some (oR (P.take i).flatten),l]) (ds:=P.map dM) (S:=[i3 (P.map dM),some (.ow []),none]) ⟨none,rfl⟩ (by
  rintro i d S hd ⟨l,rfl⟩;rw[gMq]at hd;obtain⟨N,s,rfl⟩:=oMq.mp hd;have t:(P.take (i+1)).flatten.length<=P.flatten.length:=by
   have:=congrArg (λz=>z.flatten.length) (aZ (i+1) P)
   simp only[fAq,lAq]at this;lia
  have n:(P.take (i+1)).flatten=(P.take i).flatten++N:=by rw[qt s,fAq,aQ]
  rw[n,lAq]at t;have u:(P.take i).flatten.length+N.length<=qM:=uS ∅
  have B:(P.take i).flatten.map (λr=>AV.sh (dI r))++N.map (λr=>.sh (dI r))=((P.take i).flatten++N).map λr=>.sh (dI r):=by rw[mBq]
  refine⟨_,?_,some (.sh (dM N)),rfl⟩;rw[n];unfold oR dM
  simp_arith [xH,u,B])
 obtain⟨H,e,l,rfl⟩:=key;rw[lMq,aK]at e;have E:=AZ P.flatten;have G:(P.flatten.map λr=>AV.sh (dI r)).map oN=P.flatten.map dI:=by rw[mPq];exact mCq λr _=>uk _
 unfold oR at e ⊢
 simp_arith [uT,DA,e,G,E]
def Ub(rs:Λ):rS uz (kSc (uR rE (oI (oH 0) oS))) [] (rs.map dI)=some ((rs.map λr=>(r.length:Int)).map λn=>.sh (.int n)):=by
 rw[Z.uj (λd=>.sh (.int ((yt d).length)))]
 .rw[mPq,mPq];refine congrArg some (mCq λr _=>?_)
  show AV.sh (.int ((yt (dI r)).length))=_;rw[tW];rfl
 .intro d hd;obtain⟨r,hr,rfl⟩:=Bh hd;rw[tW];refine⟨[some (.sh (dI r))],?_⟩
  simp_arith [dI]
theorem NH:∀rs:Λ,(rs.map λr=>(r.length:Int)).sum=(rs.flatten.length:Int)
 | []=>rfl
 |r::rs=>by
  rw[aw,jE,NH rs,fCq,lAq];lia
def Sa(l:P.flatten.length<=140)(s:P.flatten.flatten.length<=134)(mp:Mp (srt P.flatten)){N:Λ}(u:K15.qD [dM (srt P.flatten)]=some (.ow (N.map aI))):qP [.list (P.map dM)]=i0 (2*(P.length:Int)-((srt P.flatten).length:Int)+((srt P.flatten).flatten.length:Int) / 2-(N.length:Int)):=by
 have t:=Gz (P:=P) ∅
 have la:=Wp mp u;have fl:(srt P.flatten).flatten.length<=134:=by rw[(pI (pV P.flatten)).length_eq];exact s
 have x:(srt P.flatten).length<=140:=by rw[qB];exact l
 generalize srt P.flatten=M at t mp la fl x;have lc:=Ub M;have so:M9 (M.map λr=>(r.length)):=⟨λn hn=>by
  obtain⟨r,hr,rfl⟩:=mMq.mp hn;have:=(aT hr).length_le;constructor <;> lia,by rw[lMq];lia⟩
 have z:=NH M;have B:=rp (M.map λr=>(r.length))
 have E:M.length<=qM:=uS ∅
 have mu:∀i,wW (.int 2) (.int i)=some (.int (2*i)):=λi=>Kn ⋯ ⋯
 have G:=λi=>za (i:=i) (j:=2) ⋯ ⋯
 have H:=Ci M;have I:((M.map λr=>(r.length)).map λn=>AV.sh (.int n)).map oN=(M.map λr=>(r.length)).map D.int:=by rw[mPq];exact mCq λr _=>uk _
 have fs:WS [.list ((M.map λr=>(r.length)).map D.int)]=some (.int (M.flatten.length)):=by
  show(rz _).bind _=_;rw[B,gF,eq_true so,wL,z]
 simp_arith [qP,wq,t,H,dM,lc,E,I,fs,mu,G,la]
def Sb(h:Qi P){N:Λ}(l:K15.qD [dM (srt P.flatten)]=some (.ow (N.map aI))):qP [.list (P.map dM)]=i0 (2*(P.length:Int)-((srt P.flatten).length:Int)+((srt P.flatten).flatten.length:Int) / 2-(N.length:Int)):=Sa h.lt h.le h.srt.1.mp l
end
end K54
namespace K52
open PySem L2 Mr Z Xe Zl
open K31 (BJ Sg Wd UU zD Eo EK)
open K12 (cN Fp NC TM Ir vN Da B6)
def Za:Θ->MS:=(E3 3 (yz (oH 1)) (Fl 3 (Dk 10 (Th wW (xX 1) (qe AY (rC (.int 1)) (qe wW (rC (.int 2)) (qe tP (qe A3 (oH 6) (rC (.int 7))) (rC (.int 2))))))) (λpath=>oM ((JG 3 (oW 10)) path) (zC (tN (qe FQ (oH 7) (rC (.int 2)))) (oM (uD 4 (kSc (uR rE (oI (oH 3) oS)))) (uD 3 (sm (oO (kSc (GN vS (oH 10))) pH)))) (uD 5 (oW 10))))) (λ_=>qK))
def Qk:Θ->MS:=(E3 3 (B2 (tN (qe FQ (rC (.int 4)) (oH 7))) (yz (oH 5))) (Fl 3 (oX 9 (kSc (qe AY (uR rE (oI (oH 5) oS)) (rC (.int 1))))) (Fl 3 (zC (tN (oH 2)) (oX 9 (kSc (qe tP (qe A3 (oH 6) (rC (.int 7))) (uR rE (oI (oH 5) oS))))) qK) (Fz 3 (MB vS (Ay 5 (oH 9)))))) (E3 3 (B2 (tN (TF FQ FQ (rC (.int 1)) (oH 7) (rC (.int 4)))) (tN (qe Ml (uR rE (oI (oH 4) oS)) (rC (.int 1))))) (λ_=>(E9 (xX 4))) Za))
def Ul:mb_L_piece_0=(oM (oX 7 (kSc (qe tP (oH 6) (rC (.int 7))))) (QD 8 3 (ZF 3 (Mf 3) (qe FG (oH 4) (GN vS (rC (.int 1))))) Qk)):=rfl
def wg(v0:Option AV)(b:Bool)(T:Λ)(t0:Θ)(h:Nat)(op rd:Ϝ)(v6 v7 v8 v9 v10:Option AV):AS:=[v0,some (aI rd),i4 b,some (.ow (T.map aI)),some (aI (cN (t0++[h]))),some (aI op),v6,v7,v8,v9,v10]
section
variable {t0:Θ}{op r:Ϝ}
def UP:AF (.list [])=some false:=rfl
def Ux(u:Ϝ)y:AF (.list ((u++[y]).map D.int))=some true:=by cases u <;> rfl
def adC{u:Ϝ}(h:u≠[]):AF (.list (u.map D.int))=some true:=by
 cases u with
 |nil=>exact absurd rfl h
 |cons a l=>rfl
def Zr(hr:T[h]?=some r):mb_L_piece_0 (wg v0 b T t0 h op rd (i0 c) v7 v8 v9 v10)=Qk [h] (wg v0 b T t0 h op rd (i0 c) (i0 (c % 7)) none v9 v10):=by
 have hh:=(gSq.mp hr).1;have n:=BJ hr;have s:=Nv hh;have t:=pd (cN (t0++[h]));have l:atI ((cN (t0++[h])).map D.int) (-1)=some (.int (h)):=by
  unfold K12.cN;rw[mBq,mBq];exact JQ _ _
 have u:=sJ (i:=c) (j:=7) ⋯
 have q:((8)≠3/\8<11)=True:=by simp
 rw[Ul]
 simp_arith [wg,u,n,s,t,dI,l,q]
noncomputable def GO(b:Bool)(c:Int)(op:Ϝ):Nat:=if b then (c / 7 % op.length).toNat else op.length-1
noncomputable def ID(c x:Int):Int:=x*(1-2*(c / 7 % 2))
def Q0(l:op≠[]):GO b c op<op.length:=by
 have n:=eV.mpr l;unfold GO;have b1:c / 7 % (op.length)<(op.length):=bI _ ∅
 split <;> lia
def YH(hr:T[h]?=some r)(M:r.length<500000)(O:op.length<500000)(hk:4<k)(l:op≠[]):∃t,Qk [h] (wg v0 b T t0 h op rd (i0 c) (i0 k) v8 v9 v10)=some (.nx (wg v0 b (T.set h (r++[-(op.getD (GO b c op) 0)])) t0 h (op.eraseIdx (GO b c op)) rd (i0 c) (i0 k) v8 t v10)):=by
 have x:0<op.length:=eV.mpr l;have P:=za (i:=c) (j:=7) ⋯ ⋯
 have Q:=sJ (i:=c / 7) (j:=(op.length:Int)) ∅
 have z:=BJ hr;have B:r.length<qM:=by show _<16777216;lia
 have E:=pd op;have G:decide (4<k)=true:=d0 hk;have tr:=adC l;have s:=Q0 (b:=b) (c:=c) l;have R:op.length<=qM:=by show _<=16777216;lia
 have H:(op.map λn=>AV.sh (.int n))[GO b c op]?=i0 (op.getD (GO b c op) 0):=by
  rw[gMq,gEg s,gDq,gEg s];rfl
 have g2:(op.map λn=>AV.sh (.int n)).eraseIdx (GO b c op)=(op.eraseIdx (GO b c op)).map λn=>.sh (.int n):=Ir _ _ _
 have I:=Sg (r':=r++[-(op.getD (GO b c op) 0)]) hr;have J:=Fp r (-(op.getD (GO b c op) 0));have q:(0<=((GO b c op):Int)/\((GO b c op):Int)<(op.length)/\op.length<=qM)=True:=by simp[R,s]
 have L:((GO b c op):Int).toNat=GO b c op:=bF _;refine⟨i0 (GO b c op),?_⟩;cases b with
 |true=>
  have u:c / 7 % (op.length)=((GO true c op)):=by
   have S:0<=c / 7 % (op.length):=cg _ ∅
   show _=(((c / 7 % (op.length)).toNat):Int);lia
  simp_arith [Qk,wg,G,tr,z,E,dI,P,Q,u,q,L,H,g2,B,J,I,true_and,Qq]
 |false=>
  have u:(op.length:Int)-1=((GO false c op)):=by
   show _=((op.length-1:Nat):Int);lia
  simp_arith [Qk,wg,G,tr,z,E,dI,u,q,L,H,g2,B,J,I,true_and,Qq]
def Yr(hr:T[h]?=some r)(l:1<k)(s:k<4):Qk [h] (wg v0 b T (t++[h']) h op rd (i0 c) (i0 k) v8 v9 v10)=some (.nx (wg v0 b T t h' op rd (i0 c) (i0 k) v8 v9 v10)):=by
 have u:=BJ hr;have x:=pd (cN (t++[h']++[h]));have cl:=EK (t++[h']++[h]);have z:(1:Int)<((t++[h']++[h]).length):=by simp;lia
 have B:decide (4<k)=false:=d4 ∅
 have E:=d0 l;have G:=d0 s;have H:=(TM (t++[h']) h).symm;have I:((cN (t++[h'])).map (λn=>AV.sh (.int n))++[AV.sh (.int (h))])[((cN (t++[h'])).map (λn=>AV.sh (.int n))++[AV.sh (.int (h))]).length-1]?=i0 (h):=by
  simp
 have J:((cN (t++[h'])).map (λn=>AV.sh (.int n))++[AV.sh (.int (h))]).dropLast=(cN (t++[h'])).map (λn=>AV.sh (.int n)):=eQ
 simp_arith [Qk,wg,B,IX,E,G,u,x,dI,cl,z,eq_self,H,I,J]
def WN(hr:T[h]?=some r)(I:¬ (4<k/\op≠[]))(J:¬ ((1<k/\k<4)/\t0≠[])):Qk [h] (wg v0 b T t0 h op rd (i0 c) (i0 k) v8 v9 v10)=Za [h] (wg v0 b T t0 h op rd (i0 c) (i0 k) v8 v9 v10):=by
 have t:=BJ hr;have u:=pd op;have x:=pd (cN (t0++[h]));have cl:=EK (t0++[h]);have L:1<k/\k<4->decide ((1:Int)<((t0++[h]).length))=false:=λhh=>by
  by_cases hn:t0=[]
  .subst hn;simp
  .exact absurd ⟨hh,hn⟩ J
 by_cases B:4<k
 .have M:=ir λz=>I ⟨B,z⟩
  subst M;have n:=d0 B;have l:decide (1<k)=true:=d0 ∅
  have s:decide (k<4)=false:=d4 ∅
  simp_arith [Qk,wg,n,UP,IX,l,s,t,u,x,cl,dI]
 .have n:=d4 B
  by_cases E:1<k
  .have l:=d0 E
   by_cases G:k<4
   .have s:=d0 G;have H:=L ⟨E,G⟩
    simp_arith [Qk,wg,n,IX,l,s,t,u,x,cl,dI,H]
   .have s:=d4 G
    simp_arith [Qk,wg,n,IX,l,s,t,u,x,cl,dI]
  .have l:=d4 E
   simp_arith [Qk,wg,n,IX,l,t,u,x,cl,dI]
def ZI(hr:T[h]?=some r):Za [h] (wg v0 b T t0 h op [] (i0 c) (i0 k) v8 v9 v10)=some (.nx (wg v0 b T t0 h op [] (i0 c) (i0 k) v8 v9 v10)):=by
 have l:=BJ hr;have n:=pd []
 simp_arith [Za,wg,l,n,dI,UP]
def X8(hr:T[h]?=some r)(L:r.length<500000)(M:T.length<500000)(O:t0.length<500000)(P:op.length<500000):Za [h] (wg v0 b T t0 h op (rd++[x]) (i0 c) (i0 k) v8 v9 v10)=some (.nx (if k<2 then wg v0 b (T.set h (r++[ID c x])++[[-(ID c x)]]) (t0++[h]) T.length op rd (i0 c) (i0 k) v8 v9 (i0 (ID c x))else wg v0 b (T.set h (r++[ID c x])) t0 h (op++[ID c x]) rd (i0 c) (i0 k) v8 v9 (i0 (ID c x)))):=by
 have s:=za (i:=c) (j:=7) ⋯ ⋯
 have t:=sJ (i:=c / 7) (j:=2) ⋯
 have X:0<=c / 7 % 2:=cg _ ⋯
 have b1:c / 7 % 2<2:=bI _ ⋯
 have u:=Kn (i:=2) (j:=c / 7 % 2) ∅ ∅
 have z:=XU (i:=x) (j:=1-2*(c / 7 % 2)) ∅ ∅
 have B:=BJ hr;have E:=pd (rd++[x]);have tr:=Ux rd x;have G:r.length<qM:=by show _<16777216;lia
 have H:x*(1-2*(c / 7 % 2))=ID c x:=rfl;have I:=Fp r (ID c x);have J:=Sg (r':=r++[ID c x]) hr;have lT:(T.set h (r++[ID c x])).length=T.length:=lZq;have Q:T.length<qM:=by show _<16777216;lia
 have R:=NC (T.set h (r++[ID c x])) (-(ID c x));have lw:(t0++[h]).length<qM:=by rw[lAq,lSq];show t0.length+1<16777216;lia
 have lo:op.length<qM:=by show _<16777216;lia
 have S:=TM (t0++[h]) T.length;have U:op.map (λn=>AV.sh (.int n))++[.sh (.int (ID c x))]=(op++[ID c x]).map λn=>.sh (.int n):=by rw[mBq];rfl
 have cl:=EK (t0++[h]);have la:((rd++[x]).map λn=>AV.sh (.int n))[(rd++[x]).length-1]?=i0 x:=by rw[lAq,lSq,fi,mBq,gYq (by rw[lMq];exact af _),lMq,dA];rfl
 have ld:((rd++[x]).map λn=>AV.sh (.int n)).dropLast=rd.map λn=>.sh (.int n):=by rw[mBq];exact eQ
 by_cases e:k<2
 .have l:=d0 e;rw[pO e]
  simp_arith [Za,wg,l,s,t,u,z,B,E,dI,tr,la,ld,H,G,I,J,lT,Q,R,cl,lw,S]
 .have l:=d4 e;rw[pK e]
  simp_arith [Za,wg,l,s,t,u,z,B,E,dI,tr,la,ld,H,G,I,J,lT,lo,U]
noncomputable abbrev wd(T:Λ)(t0:Θ)(h:Nat)(op rd:Ϝ):Wd:=⟨T,t0,h,op.map λz=>-z,rd⟩
def NR a c x:[ID c x].count a+[-(ID c x)].count a=[x, -x].count a:=by
 rw[show[x, -x]=[x]++[-x]from rfl,cAq]
 unfold ID;have h:c / 7 % 2=0∨c / 7 % 2=1:=by lia
 rcases h with h|h
 .rw[h,show(1:Int)-2*0=1 from rfl,iJ]
 .rw[h,show(1)-2*1 = -1 from rfl,Int.mul_neg,iJ,bw]
  lia
def T8(x)l a:(zD (l++[x])).count a=(zD l).count a+[x, -x].count a:=by
 unfold K31.zD;rw[fP,cAq];rfl
def Gv(w:UU nm (wd T t0 h op rd) n)(hn:n<1000)(U:nm.length<=1000):∃R E h' G s M O H I,mb_L_piece_0 (wg v0 b T t0 h op rd (i0 c) v7 v8 v9 v10)=some (.nx (wg v0 b R E h' G s (i0 c) M O H I))/\UU nm (wd R E h' G s) (n+1)/\s.Sublist rd:=by
 have u:=w.len;obtain⟨hh,ht,lw,lT,lf,cnt,tr⟩:=w;simp only at hh ht lw lT lf cnt tr u;have hr:T[h]?=some (T.getD h []):=by rw[gDq,gEg hh];rfl
 have P:=B6 hr;generalize T.getD h []=r at hr P;have lo:op.length<=2000:=by rw[lMq]at u;lia
 rw[Zr hr]
 by_cases J:4<c % 7/\op≠[]
 .obtain⟨H,e⟩:=YH (b:=b) (v0:=v0) (t0:=t0) (rd:=rd) (c:=c) (v8:=none) (v9:=v9) (v10:=v10) hr ∅ ∅ J.1 J.2
  refine⟨_,_,_,_,_,_,_,_,_,e,⟨?_,?_,?_,?_,lf,λa=>?_,?_⟩,bZ.refl _⟩
  .simp only[lZq];exact hh
  .simp only[lZq];exact ht
  .simp only;lia
  .simp only[lZq];lia
  .simp only;have B:=Q0 (b:=b) (c:=c) J.2;have Q:=Da a (l:=op.map λz=>-z) (j:=GO b c op) (by rw[lMq];exact B)
   rw[Ir]at Q;have gd:(op.map λz=>-z).getD (GO b c op) 0 = -(op.getD (GO b c op) 0):=by
    rw[gDq,gMq,gEg B,gDq,gEg B];rfl
   rw[gd]at Q;rw[vN a hr,←cnt a,←Q];lia
  .exact tr.set hr
 .by_cases L:(1<c % 7/\c % 7<4)/\t0≠[]
  .rcases fE t0 with z|⟨t,h',z⟩
   .exact absurd z L.2
   .rw[fF]at z;subst z;rw[lAq,lSq]at lw;exact⟨_,_,_,_,_,_,_,_,_,Yr hr L.1.1 L.1.2,⟨ht _ ⋯,λk hk=>ht k (by simp[hk]),(by simp only;lia),(by simp only;lia),lf,cnt,tr⟩,bZ.refl _⟩
  .rw[WN hr J L];rcases fE rd with z|⟨s,x,z⟩
   .subst z;exact⟨_,_,_,_,_,_,_,_,_,ZI hr,⟨hh,ht,(by simp only;lia),(by simp only;lia),lf,cnt,tr⟩,bZ.refl _⟩
   .rw[fF]at z;subst z;rw[lAq,lSq]at lf;have S:=λa=>T8 x s a
    rw[X8 hr ∅ ∅ ∅ ∅]
    by_cases e:c % 7<2
    .rw[pO e];refine⟨_,_,_,_,_,_,_,_,_,rfl,⟨?_,?_,?_,?_,(by simp only;lia),λa=>?_,?_⟩,iw _ _⟩
     .simp only[lAq,lZq,lSq];lia
     .intro k hk;simp only[lAq,lZq,lSq]at hk ⊢;rcases mAq.mp hk with hk|hk
      .have:=ht k hk;lia
      .rw[mSq.mp hk];lia
     .simp only[lAq,lSq];lia
     .simp only[lAq,lZq,lSq];lia
     .simp only;rw[fAq,aQ,cAq,vN a hr];have:=cnt a;rw[S a,←NR a c x]at this;lia
     .exact(tr.set hr).add (by rw[lZq];exact hh) (K11.Hc hr ⋯)
    .rw[pK e];refine⟨_,_,_,_,_,_,_,_,_,rfl,⟨?_,?_,?_,?_,(by simp only;lia),λa=>?_,?_⟩,iw _ _⟩
     .simp only[lZq];exact hh
     .simp only[lZq];exact ht
     .simp only;lia
     .simp only[lZq];lia
     .simp only;rw[vN a hr,mBq,cAq];have:=cnt a;rw[S a,←NR a c x]at this;show _+(_+[-(ID c x)].count a)+_=_;lia
     .exact tr.set hr
end
end K52
namespace K72
open PySem L2 Mr Z Xe Zl
def DD(n:Nat):Ϝ:=(aF n).map λk:Nat=>(k:Int)
def Ke n:qr 0 n=(DD n).map D.int:=by
 unfold qr DD;rw[mPq];refine mCq λk _=>?_
 show D.int (0+(k))=D.int (k);rw[gR]
noncomputable def hs(cs:Ϝ)(c t:Int):Bool:=decide (t<(cs.length:Int)) && decide (cs.getD t.toNat 0=c)
def Of(hl:r.length<=1000){X:Λ}(L:X.length<=1000):∃u x,vw [v0,some (.ow (X.map λr=>.sh (dI r))),some (.sh (dI r)),v3]=some (.nx [v0,some (.ow ((X++[good r]).map λr=>.sh (dI r))),u,x]):=by
 have B:X.length<qM:=aR (show X.length<2000 by lia) ⋯
 cases r with
 |nil=>
  have z:AF (.list [])=some false:=rfl;have q:(X.map λr=>AV.sh (dI r))++[AV.sh (.list [])]=(X++[good []]).map λr=>.sh (dI r):=by rw[mBq];rfl
  refine⟨some (.sh (dI [])),v3,?_⟩
  simp_arith [vw,dI,z,B,q]
 |cons n l=>
  obtain⟨E,G⟩:=CF;have e:=xh E G;have s:=zt (n::l);have z:AF (dI (n::l))=some true:=rfl;have H:IP [dI (n::l)]=some (.int (l.foldl min n)):=by
   show(rz ((n::l).map D.int)).bind (λl=>(DQ l).map D.int)=_
   rw[rp];rfl
  have I:xD (dI (n::l)) [.int (l.foldl min n)]=some (.int (pW (n::l) (n::l).length)):=by
   show(rz ((n::l).map D.int)).bind _=_;rw[rp];show(if _ then _ else _)=_
   rw[pO E,e]
  generalize M:n::l=N at *;have t:(N.drop (pW N N.length)).length+(N.take (pW N N.length)).length<=qM:=by rw[aJ,lTq];show _<=16777216;lia
  have J:good N=N.drop (pW N N.length)++N.take (pW N N.length):=rfl;have q:(X.map λr=>AV.sh (dI r))++[AV.sh (.list ((N.drop (pW N N.length)++N.take (pW N N.length)).map D.int))]=(X++[good N]).map λr=>.sh (dI r):=by rw[mBq (l₁:=X)];rfl
  refine⟨some (.sh (dI (good N))),i0 (pW N N.length),?_⟩
  simp_arith [vw,z,H,I,tE,Am N _ s,ye N _ s,t,←mBq,Ca,B,q,J]
def Nu(u:∀r∈T,r.length<=1000)(hl:T.length<=1000):zF [dM T]=some (.ow ((srt (T.map good)).map λr=>.sh (dI r))):=by
 have key:=tO (x:=2) (body:=vw) (λi S=>∃n l,S=[some (.sh (dM T)),some (.ow (((T.take i).map good).map λr=>.sh (dI r))),n,l]) (ds:=T.map dI) (S:=[some (.sh (dM T)),some (.ow []),none,none]) ⟨none,none,by simp⟩ (by
  rintro i d S hd ⟨n,l,rfl⟩;rw[gMq]at hd;obtain⟨r,hr,rfl⟩:=oMq.mp hd;have z:(T.take (i+1)).map good=(T.take i).map good++[good r]:=by rw[bG,hr,mBq];rfl
  obtain⟨s,t,e⟩:=Of (u r (mGq hr)) (v0:=some (.sh (dM T))) (v3:=l) (X:=(T.take i).map good) (by rw[lMq,lTq];lia)
  refine⟨_,e,s,t,by rw[z]⟩)
 obtain⟨E,e,n,l,rfl⟩:=key;rw[lMq,aK]at e;have B:((T.map good).map λr=>AV.sh (dI r)).map oN=(T.map good).map dI:=by rw[mPq];exact mCq λr _=>uk _
 simp_arith [zF,Ga,dM,dI,e,B]
theorem pm_nodup:∀{l:Ϝ},l.Nodup->(∀x∈l,1<=x)->(l.flatMap λx=>[x, -x]).Nodup
 | [],_,_=>bb
 |x::l,hn,hp=>by
  obtain⟨u,B⟩:=aq.mp hn;have i:=pm_nodup B λy n=>hp y (mCo _ n)
  have G:=hp x (ah ..);have t:∀z∈l.flatMap λx=>[x, -x],z≠x/\z ≠ -x:=λz s=>by
   obtain⟨y,n,s⟩:=bf.mp s;have:=hp y (mCo _ n);have E:y≠x:=λe=>u (e ▸ n)
   simp only[aa,bL,or_false]at s;rcases s with z|z <;> constructor <;> lia
  refine aq.mpr ⟨λh=>?_,aq.mpr ⟨λh=>(t _ h).2 rfl,i⟩⟩
  rcases aa.mp h with z|z
  .lia
  .exact(t _ z).1 rfl
def Px k:rS uz (sm pH) [] (qr 0 k)=some ((aV k ([]:Ϝ)).map aI):=by
 rw[Z.uj λ_=>AV.ow []]
 .rw[eF,List.map_const',qh];rfl
 .intro d hd;refine⟨[some (.sh d)],?_⟩
  simp_arith []
end K72
namespace K75
open PySem L2 Mr Z Xe Zl K72
theorem FZ{α β:Type}(g:α->β):∀(l:List α) z,(l.eraseIdx z).map g=(l.map g).eraseIdx z
 | [],_=>rfl
 |x::l,0=>rfl
 |x::l,z+1=>by
  show g x::(l.eraseIdx z).map g=g x::(l.map g).eraseIdx z;rw[FZ g l z]
def erase_perm{l:Ϝ}(h:l[z]?=some x):(x::l.eraseIdx z).Perm l:=by
 induction l generalizing z with
 |nil=>simp at h
 |cons y l n=>
  cases z with
  |zero=>
   simp only[ff,aA.injEq]at h;subst h;exact .refl _
  |succ z=>
   exact(aE.swap ..).trans (aE.cons _ (n (by simpa using h)))
def Qy c{n:Nat}(hn:n<=100):∃o,Aw [.int c,.int (n:Int)]=some (aI o)/\o.Perm (DD n):=by
 have key:=tO (x:=4) (body:=zh) (λi S=>∃c l o B,S=[i0 c,i0 (n:Int),some (aI l),some (aI o),B]/\(o++l).Perm (DD n)/\o.length=i) (ds:=qr 0 n) (S:=[i0 c,i0 (n:Int),some (aI (DD n)),some (.ow []),none]) ⟨c,DD n,[],none,rfl,.refl _,rfl⟩ (by
  rintro i d S hd ⟨c,l,o,B,rfl,t,E⟩;have hi:i<n:=by
   have:=(gSq.mp hd).1
   rwa [qh]at this
  have hl:=t.length_eq;unfold DD at hl;rw[lAq,lMq,aB]at hl;have s:0<(l.length:Int):=by lia
  have I:=sJ (i:=c) (j:=(l.length:Int)) s;have z0:=cg c (b:=(l.length:Int)) ∅
  have J:=bI c s;obtain⟨z,L⟩:∃z:Nat,c % (l.length:Int)=(z:Int):=⟨(c % (l.length:Int)).toNat,by lia⟩
  rw[L]at I J;have u:z<l.length:=by lia
  have G:=gEg u;generalize l[z]=x at G;have M:=pd l;have O:(l.map λn=>AV.sh (.int n))[z]?=i0 x:=by rw[gMq,G];rfl
  have P:(l.map λn=>AV.sh (.int n)).eraseIdx z=(l.eraseIdx z).map λn=>AV.sh (.int n):=(FZ _ l z).symm
  have Q:l.length<=qM:=uS ∅
  have le:(l.eraseIdx z).length=l.length-1:=List.length_eraseIdx_of_lt u;have R:=pd (l.eraseIdx z);have U:=za (i:=c) (j:=((l.eraseIdx z).length:Int)+1) ∅ ∅
  have X:o.length<qM:=aR (show o.length<2000 by lia) ⋯
  have Y:o.map (λn=>AV.sh (.int n))++[.sh (.int x)]=(o++[x]).map λn=>.sh (.int n):=by rw[mBq];rfl
  have zz:((z:Nat):Int).toNat=z:=bF z;refine⟨[i0 (c / (((l.eraseIdx z).length:Int)+1)),i0 (n:Int),some (aI (l.eraseIdx z)),some (aI (o++[x])),some (.sh d)],?_,_,_,_,_,rfl,?_,by rw[lAq,lSq,E]⟩
  .simp_arith [zh,M,I,J,zz,O,P,Q,XQ,R,U,X,Y,Int.natCast_nonneg,true_and,and_true]
  .rw[ae];exact(aE.append_left o (erase_perm G)).trans t)
 obtain⟨S',e,c',l,o,B,rfl,t,E⟩:=key;rw[qh]at E;have hl:=t.length_eq;unfold DD at hl;rw[lAq,lMq,aB]at hl;have H:l=[]:=bV.mp ∅
 subst H;rw[aNq]at t;refine⟨o,?_,t⟩;have r:=yD (n:=n) ∅
 have lr:(qr 0 n).length<=qM:=by rw[qh];exact uS ∅
 have er:(qr 0 n).map AV.sh=(DD n).map λz=>AV.sh (.int z):=by rw[Ke,mPq];rfl
 simp_arith [Aw,Fq,Hv,r,lr,er,e]
def adJ(l:0<j)(n:j<2 ^ 250):Qw (.int i) (.int j)=some (.int (i / j)):=by
 refine vh ⟨l,?_⟩ _;have s:j.natAbs<2 ^ 250:=by
  have:((j.natAbs:Nat):Int)=j:=Int.natAbs_of_nonneg ∅
  have t:((j.natAbs:Nat):Int)<((2 ^ 250:Nat):Int):=by rw[this];exact n
  exact Int.ofNat_lt.mp t
 exact aR ((Nat.log2_lt ∅).mpr s) ⋯
def Pb ns{n:Nat}(hn:n<=30):∃N,yU [.scr ns,.int (n:Int)]=some (aI N)/\N.length=n/\N.Nodup/\∀x∈N,1<=x:=by
 have X:(100:Int)<10 ^ 60:=by decide
 have E:(10:Int) ^ 60<2 ^ 250:=by decide
 have key:=tO (x:=5) (body:=xG) (λi S=>∃c N nm G H,S=[some (.sh (.scr ns)),i0 (n:Int),i0 c,some (aI N),i0 nm,G,H]/\N.length=i/\N.Nodup/\(∀x∈N,1<=x/\x<=nm)/\0<=nm/\nm<10 ^ 60-(n:Int)+(i:Int)) (ds:=qr 0 n) (S:=[some (.sh (.scr ns)),i0 (n:Int),i0 (cell ns 2),some (.ow []),i0 0,none,none]) ⟨cell ns 2,[],0,none,none,rfl,rfl,bb,(λx h=>by cases h),iK _,by lia⟩ (by
  rintro i d S hd ⟨c,N,nm,G,H,rfl,u,s,B,Y,h1⟩;have hi:i<n:=by
   have:=(gSq.mp hd).1
   rwa [qh]at this
  rw[wI hi]at hd;cases hd;rw[gR];have l:0<10 ^ 60-(n:Int)+(i:Int)-nm:=by lia
  have t:10 ^ 60-(n:Int)+(i:Int)-nm<2 ^ 250:=Int.lt_of_le_of_lt (show 10 ^ 60-(n:Int)+(i:Int)-nm<=10 ^ 60 by lia) E
  have I:nm+(10 ^ 60-(n:Int)+(i:Int)-nm)<10 ^ 60-(n:Int)+((i+1:Nat):Int):=by lia
  have ps:J9 (.int 10) (.int 60)=some (.int (10 ^ 60)):=by simp_arith []
  generalize L:10 ^ 60-(n:Int)+(i:Int)-nm=R at l t I;have M:=sJ (i:=c) (j:=R) l;have a0:=cg c (b:=R) ∅
  have a1:=bI c l;have O:=adJ (i:=c) l t;have P:N.length<qM:=aR (show N.length<2000 by lia) ⋯
  have Q:N.map (λn=>AV.sh (.int n))++[.sh (.int (nm+1+c % R))]=(N++[nm+1+c % R]).map λn=>.sh (.int n):=by rw[mBq];rfl
  refine⟨[some (.sh (.scr ns)),i0 (n:Int),i0 (c / R),some (aI (N++[nm+1+c % R])),i0 (nm+1+c % R),i0 (i:Int),i0 R],?_,_,_,_,_,_,rfl,by rw[lAq,lSq,u],?_,?_,by lia,by lia⟩
  .simp_arith [xG,L,M,O,P,Q]
  .refine nAq.mpr ⟨s,by simp,λa ha b hb e=>?_⟩
   rw[mSq.mp hb]at e;have:=(B a ha).2;lia
  .intro x J;rcases mAq.mp J with z|z
   .have:=B x z;lia
   .rw[mSq.mp z];lia)
 obtain⟨S',e,c,N,nm,G,H,rfl,u,s,B,_⟩:=key;rw[qh]at u;refine⟨N,?_,u,s,λx h=>(B x h).1⟩
 have r:=yD (n:=n) ∅
 have U:oV [.scr ns,.int 2]=i0 (cell ns 2):=vO ns ⋯
 simp_arith [yU,Dr,U,r,e]
def kI(ks:Ϝ):List (pQ×D):=ks.map λk=>((aN k:pQ),D.bl true)
def kI_any(ks)t:(kI ks).any (λkv=>decide (kv.1=(aN t:pQ)))=decide (t∈ks):=by
 induction ks with
 |nil=>simp[kI]
 |cons k ks l=>
  unfold kI at l ⊢;rw[aw,dW,l]
  by_cases h:t=k
  .subst h;simp
  .have n:¬ (aN k:pQ)=aN t:=λq=>h (aN.inj q).symm
   simp[n,h]
def kI_get(ks)t:(Z.getD (kI ks) (aN t)).isSome=decide (t∈ks):=by
 unfold Z.getD;rw[dQ,←kI_any,cE,fD,fN]
def kI_new(h:t∉ks):xC (kI ks) (aN t) (.bl true)=kI (ks++[t]):=by
 unfold xC;rw[kI_any,d4 h];simp[kI]
def kI_len ks:(kI ks).length=ks.length:=by unfold kI;rw[lMq]
noncomputable def sQ(N:Ϝ):Ϝ:=N.flatMap λx=>[x,0-x]
def adi(B:N.length<=30):∃v4,rZ 4 ze (N.map D.int) [s0,s1,s2,some (.ow []),none,none,none,none,none,none,none]=some (.nx [s0,s1,s2,some (aI (sQ N)),v4,none,none,none,none,none,none]):=by
 have key:=tO (x:=4) (body:=ze) (λi S=>∃v4,S=[s0,s1,s2,some (aI (sQ (N.take i))),v4,none,none,none,none,none,none]) (ds:=N.map D.int) (S:=[s0,s1,s2,some (.ow []),none,none,none,none,none,none,none]) ⟨none,rfl⟩ (by
  rintro i d S hd ⟨v4,rfl⟩;rw[gMq]at hd;obtain⟨x,s,rfl⟩:=oMq.mp hd;have t:sQ (N.take (i+1))=sQ (N.take i)++[x,0-x]:=by
   unfold sQ;rw[bG,s,fP];rfl
  have u:(sQ (N.take i)).length+2<=qM:=by
   have:∀l:Ϝ,(sQ l).length=2*l.length:=λl=>by
    unfold sQ
    induction l with
    |nil=>rfl
    |cons x l E=>rw[bO,lAq];simp only[lCq,cF];lia
   rw[this,lTq];exact uS ∅
  have z:(sQ (N.take i)).map (λn=>AV.sh (.int n))++[.sh (.int x),.sh (.int (0-x))]=(sQ (N.take i)++[x,0-x]).map λn=>.sh (.int n):=by rw[mBq];rfl
  refine⟨_,?_,i0 x,by rw[t]⟩
  simp_arith [ze,u,z])
 obtain⟨G,e,v4,rfl⟩:=key;rw[lMq,aK]at e;exact⟨v4,e⟩
noncomputable def mu3(N:Nat):AS->Nat
 | [_,_,_,_,_,_,_,_,_,some (.ow l),_]=>N+1-l.length
 |_=>0
def adD(hE:E.Nodup)(hl:E.length<=60)(Y:o.Perm (DD E.length))(hk:kn.Nodup)(hs:∀x∈kn,x∈E)(he:e∈E):∃t z,rH (tN (qR (oH 10) (oH 7))) zq 100000 [s0,s1,s2,some (.sh (dI E)),s4,some (aI o),s6,some (.owd (kI kn)),s8,some (.ow []),i0 e]=some (.nx [s0,s1,s2,some (.sh (dI E)),s4,some (aI o),s6,some (.owd (kI (kn++t))),s8,some (aI t),i0 z])/\(kn++t).Nodup/\(∀x∈kn++t,x∈E)/\e∈kn++t:=by
 have key:=uK (c:=tN (qR (oH 10) (oH 7))) (body:=zq) (λS=>∃t z,S=[s0,s1,s2,some (.sh (dI E)),s4,some (aI o),s6,some (.owd (kI (kn++t))),s8,some (aI t),i0 z]/\z∈E/\(kn++t).Nodup/\(∀x∈kn++t,x∈E)/\(z=e∨e∈kn++t)) (mu3 60) (λS=>∃t z,S=[s0,s1,s2,some (.sh (dI E)),s4,some (aI o),s6,some (.owd (kI (kn++t))),s8,some (aI t),i0 z]/\(kn++t).Nodup/\(∀x∈kn++t,x∈E)/\e∈kn++t) (by
  rintro S ⟨t,z,rfl,Q,hn,l,u⟩;have M:=kI_get (kn++t) z;have R:=Mb _ _ hn l;rw[lAq]at R
  by_cases c:z∈kn++t
  .rw[d0 c]at M;refine⟨false,[s0,s1,s2,some (.sh (dI E)),s4,some (aI o),s6,some (.owd (kI (kn++t))),s8,some (aI t),i0 z],?_,λq=>(nomatch q),λ_=>⟨t,z,rfl,hn,l,?_⟩⟩
   .simp_arith [M]
   .rcases u with q|q
    .rw[←q];exact c
    .exact q
  .rw[d4 c]at M;have hp:=kI_new c;rw[ae]at hp;have B:=Y.length_eq;unfold DD at B;rw[lMq,aB]at B;have hi:E.idxOf z<E.length:=fT.mpr Q;have s:E.idxOf z<o.length:=by lia
   have G:xD (dI E) [.int z]=some (.int (E.idxOf z:Nat)):=by
    show(rz (E.map D.int)).bind _=_;rw[rp];show(if _ then _ else _)=_
    rw[pO Q]
   generalize E.idxOf z=k at hi s G;have O:=gEg s;obtain⟨j,P,U⟩:∃j:Nat,j<E.length/\o[k]=(j:Int):=by
    have:=Y.mem_iff.mp (gRq s);obtain⟨j,P,e⟩:=mMq.mp this;exact⟨j,bA.mp P,e.symm⟩
   rw[U]at O;have X:atI (o.map D.int) (k:Int)=some (.int (j:Int)):=uC (by rw[gMq,O];rfl)
   have H:atI (E.map D.int) (j:Int)=some (.int E[j]):=uC (by rw[gMq,gEg P];rfl)
   have hy:E[j]∈E:=gRq P;generalize E[j]=y at H hy;have so:=pd o;have I:(kn++(t++[z])).Nodup:=by
    rw[←ae,nAq];exact⟨hn,by simp,λa ha b hb q=>c (by rw[mSq.mp hb]at q;exact q ▸ ha)⟩
   have J:∀x∈kn++(t++[z]),x∈E:=λx G=>by
    rw[←ae]at G;rcases mAq.mp G with q|q
    .exact l x q
    .rw[mSq.mp q];exact Q
   have L:=Mb _ _ I J;rw[lAq,lAq,lSq]at L;have l1:(kI (kn++t)).length<qM:=by rw[kI_len,lAq];show _<16777216;lia
   have l2:t.length<qM:=by show _<16777216;lia
   have ap:t.map (λn=>AV.sh (.int n))++[.sh (.int z)]=(t++[z]).map λn=>.sh (.int n):=by rw[mBq];rfl
   refine⟨true,[s0,s1,s2,some (.sh (dI E)),s4,some (aI o),s6,some (.owd (kI (kn++t))),s8,some (aI t),i0 z],?_,λ_=>⟨[s0,s1,s2,some (.sh (dI E)),s4,some (aI o),s6,some (.owd (kI (kn++(t++[z])))),s8,some (aI (t++[z])),i0 y],?_,⟨t++[z],y,rfl,hy,I,J,?_⟩,?_⟩,λq=>(nomatch q)⟩
   .simp_arith [M]
   .simp_arith [zq,l1,hp,l2,ap,G,so,X,H]
   .refine .inr ?_;rcases u with q|q
    .rw[←q];simp
    .rw[←ae];exact mAq.mpr (.inl q)
   .show 60+1-_<60+1-_;simp only[lMq,lAq,lSq];lia)
 obtain⟨S',ew,t,z,rfl,O,h2,h3⟩:=key 100000 [s0,s1,s2,some (.sh (dI E)),s4,some (aI o),s6,some (.owd (kI kn)),s8,some (.ow []),i0 e] ⟨[],e,by simp,he,by simpa using hk,by simpa using hs,.inl rfl⟩ (by
  show 60+1-0<100000;lia)
 exact⟨t,z,ew,O,h2,h3⟩
def ac8(J:E.Nodup)(hl:E.length<=60)(R:o.Perm (DD E.length)){B:Λ}(U:l.map oN=B.map dI)(X:B.length<=10)(Y:B.flatten=[]):∃(n:List AV) (TT:Λ) (v7 v8 v9 v10:Option AV),rZ 8 wO (E.map D.int) [s0,s1,s2,some (.sh (dI E)),s4,some (aI o),some (.ow l),some (.owd []),none,none,none]=some (.nx [s0,s1,s2,some (.sh (dI E)),s4,some (aI o),some (.ow n),v7,v8,v9,v10])/\n.map oN=TT.map dI/\TT.flatten.Perm E/\TT.length<=70:=by
 have key:=tO (x:=8) (body:=wO) (λi S=>∃n TT kn v8 v9 v10,S=[s0,s1,s2,some (.sh (dI E)),s4,some (aI o),some (.ow n),some (.owd (kI kn)),v8,v9,v10]/\n.map oN=TT.map dI/\TT.flatten=kn/\kn.Nodup/\(∀x∈kn,x∈E)/\(∀x∈E.take i,x∈kn)/\TT.length<=10+i) (ds:=E.map D.int) (S:=[s0,s1,s2,some (.sh (dI E)),s4,some (aI o),some (.ow l),some (.owd []),none,none,none])
  ⟨l,B,[],none,none,none,rfl,U,Y,bb,(λ_ h=>by cases h),(λ_ h=>by cases h),X⟩ (by
  rintro i d S hd ⟨l,TT,kn,v8,v9,v10,rfl,s,G,hk,hs,ha,L⟩;rw[gMq]at hd;obtain⟨e,H,rfl⟩:=oMq.mp hd;have hi:i<E.length:=(gSq.mp H).1;have I:=mGq H;obtain⟨t,z,M,O,P,h3⟩:=adD (s0:=s0) (s1:=s1) (s2:=s2) (s4:=s4) (s6:=some (.ow l)) (s8:=i0 e) J hl R hk hs I;have u:∀x∈E.take (i+1),x∈kn++t:=λx Q=>by
   rw[bG,H]at Q;rcases mAq.mp Q with q|q
   .exact mAq.mpr (.inl (ha x q))
   .have:x=e:=by simpa using q
    rw[this];exact h3
  have hla:l.length=TT.length:=by simpa using congrArg bJ s
  by_cases c:t=[]
  .subst c;have t0:AF (dI [])=some false:=rfl;refine⟨[s0,s1,s2,some (.sh (dI E)),s4,some (aI o),some (.ow l),some (.owd (kI (kn++[]))),i0 e,some (aI []),i0 z],?_,l,TT,kn++[],_,_,_,rfl,s,by rw[aNq];exact G,O,P,u,by lia⟩
   have s0:=pd []
   simp_arith [wO,M,s0,t0]
  .have t1:AF (dI t)=some true:=by
    cases t with
    |nil=>exact absurd rfl c
    |cons x t=>rfl
   have st:=pd t;have l1:l.length<qM:=by show _<16777216;lia
   refine⟨[s0,s1,s2,some (.sh (dI E)),s4,some (aI o),some (.ow (l++[.sh (dI t)])),some (.owd (kI (kn++t))),i0 e,some (.sh (dI t)),i0 z],?_,l++[.sh (dI t)],TT++[t],kn++t,_,_,_,rfl,by rw[mBq,s];simp,by rw[fAq,G,aQ],O,P,u,by rw[lAq,lSq];lia⟩
   simp_arith [wO,M,st,t1,l1])
 obtain⟨S',e,n,TT,kn,v8,v9,v10,rfl,s,G,hk,hs,ha,L⟩:=key;rw[lMq]at L ha;rw[aK]at ha;refine⟨n,TT,_,v8,v9,v10,e,s,?_,by lia⟩
 rw[G];exact(aL hk J).mpr λx=>⟨hs x,ha x⟩
structure Rw (M:Λ):Prop where
 nd:M.flatten.Nodup
 len:M.flatten.length<=134
 lr:M.length<=100
 neg:∀e∈M.flatten, -e∈M.flatten
 nz:∀e∈M.flatten,e≠0
def Rw.mp(h:Rw M):Mp M:=⟨h.nd,by have:=h.len;lia,by have:=h.lr;lia,h.neg⟩
def ZL ns:∃M,BZ [.scr ns,.int 30]=some (.ow (M.map λr=>.sh (dI r)))/\Rw M:=by
 have t:=sJ (i:=cell ns 1) (j:=30+1) ⋯
 have b0:=cg (cell ns 1) (b:=30+1) ⋯
 have b1:=bI (cell ns 1) (b:=30+1) ⋯
 obtain⟨n,hn⟩:∃n:Nat,cell ns 1 % (30+1)=(n:Int):=⟨(cell ns 1 % (30+1)).toNat,by lia⟩
 rw[hn]at t b1;obtain⟨N,X,lN,H,R⟩:=Pb ns (n:=n) ∅
 have Y:=pd N;obtain⟨v4,S⟩:=adi (N:=N) ∅ (s0:=some (.sh (.scr ns))) (s1:=i0 30) (s2:=i0 (n:Int))
 have I:sQ N=N.flatMap λx=>[x, -x]:=by
  unfold sQ;congr 1;funext x;rw[Int.zero_sub]
 have J:(sQ N).Nodup:=by rw[I];exact pm_nodup H R
 have lE:(sQ N).length=2*N.length:=by
  unfold sQ;have:∀l:Ϝ,(l.flatMap λx=>[x,0-x]).length=2*l.length:=λl=>by
   induction l with
   |nil=>rfl
   |cons x l ih=>rw[bO,lAq,ih,lCq];simp only[lCq,cF];lia
  exact this N
 have s:∀z∈sQ N, -z∈sQ N:=λz h=>by
  rw[I]at h ⊢;obtain⟨y,L,q⟩:=bf.mp h;refine bf.mpr ⟨y,L,?_⟩;simp only[aa,bL,or_false]at q ⊢;lia
 have u:∀z∈sQ N,z≠0:=λz h=>by
  rw[I]at h;obtain⟨y,L,q⟩:=bf.mp h;have:=R y L;simp only[aa,bL,or_false]at q;lia
 generalize sQ N=E at S J lE s u;have sE:=pd E;have c4:oV [.scr ns,.int 4]=i0 (cell ns 4):=vO ns ⋯
 have c1:oV [.scr ns,.int 1]=i0 (cell ns 1):=vO ns ⋯
 obtain⟨o,eo,po⟩:=Qy (cell ns 4) (n:=E.length) ∅
 have O:=za (i:=cell ns 1) (j:=30+1) ⋯ ⋯
 have U:=sJ (i:=cell ns 1 / (30+1)) (j:=4) ⋯
 have a0:=cg (cell ns 1 / (30+1)) (b:=4) ⋯
 have a1:=bI (cell ns 1 / (30+1)) (b:=4) ⋯
 obtain⟨k,hk⟩:∃k:Nat,cell ns 1 / (30+1) % 4=(k:Int):=⟨(cell ns 1 / (30+1) % 4).toNat,by lia⟩
 rw[hk]at U a1;have rk:=yD (n:=k) ∅
 have nk:=Px k;have rd:=qh 0 k;have lk:k<=qM:=uS ∅
 have sK:((aV k ([]:Ϝ)).map aI).map oN=(aV k ([]:Ϝ)).map dI:=by rw[mPq];exact mCq λr _=>pd r
 obtain⟨avs,TT,v7,v8,v9,v10,e3,P,B,lT⟩:=ac8 (s0:=some (.sh (.scr ns))) (s1:=i0 30) (s2:=i0 (n)) (s4:=v4) J ∅ po sK (by rw[bU];lia) ⋯
 have fl:=B.length_eq;have gd:=Nu (T:=TT) (λr hr=>by have:=Qo hr;lia) ∅
 have G:=OC TT;refine⟨srt (TT.map good),?_,⟨G.nodup_iff.mpr (B.nodup_iff.mpr J),by rw[G.length_eq];lia,by rw[qB,lMq];lia,λe Q=>G.mem_iff.mpr (B.mem_iff.mpr (s e (B.mem_iff.mp (G.mem_iff.mp Q)))),λe Q=>u e (B.mem_iff.mp (G.mem_iff.mp Q))⟩⟩
 simp_arith [BZ,JA,c1,c4,t,X,Y,S,sE,eo,O,U,rk,nk,rd,lk,e3,P,gd]
end K75
namespace K52
open PySem L2 Mr Z Xe Zl
open K31 (BJ Sg Wd UU zD EK)
open K12 (cN Fp vN B6)
open K43 (vz qm)
open K51 (tZ Ps)
section
variable {r:Ϝ}
def DU(l:Ϝ):Ϝ:=l.map λz=>-z
def GK(hr:T[h]?=some r)(hl:r.length+op.length<=10000) :
  rH (yz (oH 5)) mb_L_piece_1 100000 (wg v0 b T t0 h op rd v6 v7 v8 v9 v10)=some (.nx (wg v0 b (T.set h (r++DU op.reverse)) t0 h [] rd v6 v7 v8 v9 v10)):=by
 have hh:h<T.length:=(gSq.mp hr).1;obtain⟨L,e,s,rfl,z⟩:=uK (c:=yz (oH 5)) (body:=mb_L_piece_1)
  (λS=>∃B s,S=wg v0 b (T.set h (r++DU s)) t0 h B rd v6 v7 v8 v9 v10/\op=B++s.reverse)
  (λS=>match S with|[_,_,_,_,_,some (.ow l),_,_,_,_,_]=>l.length|_=>0)
  (λL=>∃s,L=wg v0 b (T.set h (r++DU s)) t0 h [] rd v6 v7 v8 v9 v10/\op=s.reverse) (by
   rintro S ⟨B,s,rfl,E⟩;have t:=congrArg bJ E;rw[lAq,cm]at t;rcases fE B with rfl|⟨l,x,rfl⟩
   .refine⟨false,wg v0 b (T.set h (r++DU s)) t0 h [] rd v6 v7 v8 v9 v10,?_,λq=>(nomatch q),λ_=>⟨s,rfl,by rw[E];rfl⟩⟩
    have G:=pd []
    simp_arith [wg,G,dI,UP]
   .rw[fF]at E t ⊢;have M:(DU s).length=s.length:=lMq _;have u:(T.set h (r++DU s))[h]?=some (r++DU s):=aW hh;have O:=BJ u;have P:KF T.length (h:Int)=some h:=Nv hh;have lT:(T.set h (r++DU s)).length=T.length:=lZq;have Q:=pd (cN (t0++[h]));have H:atI ((cN (t0++[h])).map D.int) (-1)=some (.int (h:Int)):=by
     unfold K12.cN;rw[mBq,mBq];exact JQ _ _
    have G:=pd (l++[x]);have tr:=Ux l x;have la:((l++[x]).map λn=>AV.sh (.int n))[(l++[x]).length-1]?=i0 x:=by rw[lAq,lSq,fi,mBq,gYq (by rw[lMq];exact af _),lMq,dA];rfl
    have ld:((l++[x]).map λn=>AV.sh (.int n)).dropLast=l.map λn=>.sh (.int n):=by rw[mBq];exact eQ
    have pp:=Sg (r':=r++DU s++[-x]) u;have R:=Fp (r++DU s) (-x);have I:(r++DU s).length<qM:=by
     rw[lAq];show _<16777216;lia
    have J:(T.set h (r++DU s)).set h (r++DU s++[-x])=T.set h (r++DU (s++[x])):=by
     rw[gQ,ae];unfold DU;rw[mBq];rfl
    refine⟨true,wg v0 b (T.set h (r++DU s)) t0 h (l++[x]) rd v6 v7 v8 v9 v10,?_,λ_=>⟨wg v0 b (T.set h (r++DU (s++[x]))) t0 h l rd v6 v7 v8 v9 v10,?_,⟨l,s++[x],rfl,by rw[E];simp⟩,?_⟩,λq=>(nomatch q)⟩
    .simp_arith [wg,G,dI,tr]
    .simp_arith [mb_L_piece_1,wg,O,P,lT,Q,dI,H,la,ld,I,R,pp,J,Qq,eq_self,true_and]
    .show(l.map _).length<((l++[x]).map _).length;rw[lMq,lMq,lAq,lSq];lia) 100000 (wg v0 b T t0 h op rd v6 v7 v8 v9 v10) ⟨op,[],by show _=wg v0 b (T.set h (r++[])) t0 h op rd v6 v7 v8 v9 v10;rw[aNq,Z.C7 hr],by simp⟩ (by
   show(op.map _).length<100000;rw[lMq];lia)
 rw[e,z,gM]
def Kr(hn:K31.Nm nm)(w:K31.Wm nm T):EY (srt (T.map good)):=by
 have l:(srt (T.map good)).flatten.Perm T.flatten:=(pI (pV _)).trans (qj qJ _);have u:(srt (T.map good)).length=T.length:=by rw[qB,lMq]
 have hl:=w.le;have z:=hn.len;have B:=w.len;have n:=w.pos;have mp:Mp (srt (T.map good)):=⟨l.nodup_iff.mpr (w.nodup hn),by rw[l.length_eq];lia,by lia,λe s=>l.mem_iff.mpr (w.neg hn (l.mem_iff.mp s))⟩
 refine⟨mp,by lia,λk hk=>?_⟩
 exact K31.OM mp n w.tr (λq=>tZ (srt (T.map good)) 0 q) ⟨0,by show 0<(srt (T.map good)).length;lia,.base⟩ (λp r x hr t h=>.step h hr t) k hk
end
end K52
namespace K54
open PySem L2 Mr Z Xe Zl
open K31 (Wd UU zD Nm Wm)
open K12 (vN B6)
open K52 (EY wg wd DU GK Kr Gv)
def Tr{l:List AV}(hl:l.length=s)(t:l.map some++aV (n-l.length) none=S)(e:m S=some (.nx S'))(u:k S'=some (r,S2))(ha:S2[j]?.join=some a):Dl s n j m k l=some (r,a):=by
 unfold Dl;rw[pO hl,t,e];show((k S').bind _)=_;rw[u];show(S2[j]?.join).map _=_;rw[ha];rfl
def YA(h:Nm nm)(s:rd.Sublist nm):Nm rd:=⟨by have:=s.length_le;have:=h.len;lia,h.nd.sublist s,λx l=>h.lo x (s.subset l)⟩
def ZR{cs:Ϝ}(L:cs.length<=63)(u:nm.length<=1000):∃T t0 h op rd v6 v7 v8 v9 v10,Bi 6 mb_L_piece_0 (cs.map D.int) (wg v0 b [[]] [] 0 [] nm none none none none none)=some (.nx (wg v0 b T t0 h op rd v6 v7 v8 v9 v10))/\UU nm (wd T t0 h op rd) cs.length/\rd.Sublist nm:=by
 have key:=Xv (x:=6) (λi S=>∃T t0 h op rd v6 v7 v8 v9 v10,S=wg v0 b T t0 h op rd v6 v7 v8 v9 v10/\UU nm (wd T t0 h op rd) i/\rd.Sublist nm) (ds:=cs.map D.int) (S:=wg v0 b [[]] [] 0 [] nm none none none none none) ⟨_,_,_,_,_,_,_,_,_,_,rfl,K31.ab4 nm,bZ.refl _⟩ (by
  rintro i d S hd ⟨T,t0,h,op,rd,v6,v7,v8,v9,v10,rfl,w,l⟩;rw[gMq]at hd;obtain⟨c,n,rfl⟩:=oMq.mp hd;have hi:=(gSq.mp n).1;obtain⟨M,z,O,B,E,G,H,I,t,e,J,s⟩:=Gv w ∅ u
  exact⟨_,e,_,_,_,_,_,_,_,_,_,_,rfl,J,s.trans l⟩)
 obtain⟨P,e,T,t0,h,op,rd,v6,v7,v8,v9,v10,rfl,w,l⟩:=key;rw[cH,lMq]at w;exact⟨T,t0,h,op,rd,v6,v7,v8,v9,v10,e,w,l⟩
def TV{i}S o(e:Fx i l n S=some o):∃S',o = .nx S':=by
 obtain⟨x,_,e⟩:=oBq.mp e;obtain⟨s,_,e⟩:=oBq.mp e;obtain⟨t,_,e⟩:=oBq.mp e;obtain⟨y,_,e⟩:=oBq.mp e;rcases pJ e with⟨_,e⟩|e
 .cases e;exact⟨_,rfl⟩
 .cases e
def Ql(P:cs.length<=63)(hn:Nm nm):∃T rd,yf [.sh (dI cs),aI nm,.sh (.bl b)]=some (oR (srt (T.map good)),aI rd)/\Wm nm T/\Nm rd/\(∀a,T.flatten.count a+(zD rd).count a=(zD nm).count a)/\T.length<=cs.length+1:=by
 have Q:=hn.len;obtain⟨T,t0,h,n,rd,u,x,B,E,l,R,w,U⟩:=ZR (v0:=some (.sh (dI cs))) (b:=b) (nm:=nm) P ∅
 have s:=w.len;obtain⟨hh,ht,lw,lT,lf,cnt,tr⟩:=w;simp only at hh ht lw lT lf cnt tr s;have hr:T[h]?=some (T.getD h []):=by rw[gDq,gEg hh];rfl
 have H:=B6 hr;generalize T.getD h []=r at hr H;rw[lMq]at s;have O:=FX (λS o e=>TV S o e) (GK (b:=b) (v0:=some (.sh (dI cs))) (t0:=t0) (op:=n) (rd:=rd) (v6:=u) (v7:=x) (v8:=B) (v9:=E) (v10:=l) hr ∅)
 have I:∀a,(DU n.reverse).count a=(n.map λz=>-z).count a:=λa=>by
  unfold DU;rw[iC];exact(gi _).count_eq a
 have cn:∀a,(T.set h (r++DU n.reverse)).flatten.count a+(zD rd).count a=(zD nm).count a:=λa=>by
  rw[vN a hr,I];exact cnt a
 have J:Wm nm (T.set h (r++DU n.reverse)):=⟨⟨rd,cn⟩,tr.set hr,by rw[lZq];lia,by rw[lZq];lia⟩
 have G:(T.set h (r++DU n.reverse)).length<=cs.length+1:=by rw[lZq];exact lT
 generalize T.set h (r++DU n.reverse)=t at O J cn G;have wl:=J.le;have go:=K72.Nu (T:=t) (λr hr=>by have:=Qo hr;lia) ∅
 have X:(t.map aI).map oN=t.map dI:=by rw[mPq];exact mCq λr _=>pd r
 refine⟨t,rd,?_,J,YA hn U,cn,G⟩;have L:Bi 6 mb_L_piece_0 (cs.map D.int) [i3 (cs.map D.int),some (aI nm),i4 b,some (.ow [.ow []]),some (.ow [.sh (.int 0)]),some (.ow []),none,none,none,none,none]=some (.nx (wg (some (.sh (dI cs))) b T t0 h n rd u x B E l)):=R;have M:yM (yz (oH 5)) mb_L_piece_1 100000 (wg (some (.sh (dI cs))) b T t0 h n rd u x B E l)=some (.nx (wg (some (.sh (dI cs))) b t t0 h [] rd u x B E l)):=O;have Y:Bc [some (.sh (dI cs)),some (aI nm),i4 b,none,none,none,none,none,none,none,none]=some (.nx (wg (some (.sh (dI cs))) b t t0 h [] rd u x B E l)):=by
  simp_arith [Bc,ZS,L,M]
 refine Tr rfl rfl Y (S2:=[some (.sh (dI cs)),some (aI rd),i4 b,some (.sh (dM t)),some (aI (K12.cN (t0++[h]))),some (aI []),u,x,B,E,l]) ?_ rfl;unfold wg
 simp_arith [X,go,oR,dM]
end K54
namespace K54
open PySem L2 Mr Z Xe Zl
open K31 (zD Nm)
open K47 (Mv)
open K52 (EY)
def bth_len l:(zD l).length=2*l.length:=by
 unfold zD
 induction l with
 |nil=>rfl
 |cons x l n=>rw[bO,lAq];simp only[lCq,cF];lia
def Sk:EY [[]]:=⟨⟨by simp,by simp,by simp,by simp⟩,by simp,λk hk=>by
 have:k=0:=by simpa using hk
 rw[this];exact .base⟩
structure Bq (P:List Λ):Prop where
 cn:∀T∈P,K11.Cn T
 pc:∀T∈P,EY (srt (T.map good))
 nd:P.flatten.flatten.Nodup
 nz:∀z∈P.flatten.flatten,z≠0
 le:P.flatten.flatten.length<=134
 lt:P.flatten.length<=140
def Uy(hn:Nm nm)(l:nm.length<=67)(pc:∀N∈P,K11.Cn N/\EY (srt (N.map good)))(cnt:∀a,P.flatten.flatten.count a+(zD rd).count a=(zD nm).count a)(lt:P.flatten.length<=140):Bq P:=by
 have n:=K31.Gb hn;have pm:(P.flatten.flatten++zD rd).Perm (zD nm):=dX.mpr λa=>by rw[cAq];exact cnt a
 have s:=pm.length_eq;rw[lAq,bth_len nm]at s;refine⟨λT h=>(pc T h).1,λT h=>(pc T h).2,?_,λz t=>?_,by lia,lt⟩
 .exact(nAq.mp (pm.nodup_iff.mpr n)).1
 .have u:=pm.mem_iff.mp (ao _ t);obtain⟨x,B,q⟩:=bf.mp u;have:=hn.lo x B;simp only[aa,bL,or_false]at q;lia
def Wf:K11.Cn [[]]:=⟨by simp,by simp,λk n l=>by simp at l;lia⟩
def J4(hn:Nm nm)(w:K31.Wm nm T):K11.Cn T/\EY (srt (T.map good)):=⟨⟨λq=>(by have:=w.pos;rw[q]at this;cases this),λz l=>w.neg hn l,w.tr⟩,K52.Kr hn w⟩
abbrev gd(T:Λ):Λ:=srt (T.map good)
def QR{cs:Ϝ}(h:j<=cs.length):zf cs none (some (j:Int))=cs.take j/\zf cs (some (j:Int)) none=cs.drop j:=⟨Am cs j h,ye cs j h⟩
def pieces_ok(ns)b:∃P,rR [.scr ns,.int 67,.bl b]=some (.ow ((A6 (P.map gd)).map λm=>.sh (dM m)))/\Bq P:=by
 obtain⟨st,sh,a,b',h1,h1',h2,h2',h3,h4,h5,h6,X⟩:=K51.roads_ok ns;have hn:(K51.rds st sh a b').Nodup:=K51.OY h1 h3 h4;have hp:∀z∈K51.rds st sh a b',1<=z:=λz hz=>K51.Vu h1 h2 hz
 have hR:(K51.rds st sh a b').length=67:=K51.rds_len st sh a b';generalize K51.rds st sh a b'=R at X hn hp hR;have nm:Nm R:=⟨by lia,hn,hp⟩
 have H:zf R none (some 67)=R:=by
  rw[show(67:Int)=((67:Nat):Int)from rfl,Am R 67 ∅,cf ∅]
 have sR:=pd R;have u:zf ns (some 3) (some 66)=(ns.drop 3).take 63:=Ut ns 3 66;have hl:((ns.drop 3).take 63).length<=63:=by rw[lTq];exact Nat.min_le_left ..
 generalize (ns.drop 3).take 63=l at u hl;have c2:oV [.scr ns,.int 2]=i0 (cell ns 2):=vO ns ⋯
 have d8:=za (i:=cell ns 2) (j:=8) ⋯ ⋯
 have Y:=sJ (i:=cell ns 2) (j:=8) ⋯
 have ml:=sJ (i:=cell ns 2 / 8) (j:=(l.length:Int)+1) ∅
 have p0:0<=cell ns 2 / 8 % ((l.length:Int)+1):=cg _ ∅
 have p1:cell ns 2 / 8 % ((l.length:Int)+1)<(l.length:Int)+1:=bI _ ∅
 obtain⟨j,hj⟩:∃j:Nat,cell ns 2 / 8 % ((l.length:Int)+1)=(j:Int):=⟨(cell ns 2 / 8 % ((l.length:Int)+1)).toNat,by lia⟩
 rw[hj]at ml p1;have hjl:j<=l.length:=by lia
 have q0:0<=cell ns 2 % 8:=cg _ ∅
 have q1:cell ns 2 % 8<8:=bI _ ∅
 generalize cell ns 2 % 8=t at Y q0 q1;have sc:=pd l;have cL:=(QR (cs:=l) (af l.length)).1;rw[aK]at cL;obtain⟨k1,k2⟩:=QR hjl;have l1:(l.take j).length<=63:=by rw[lTq];lia
 have l2:(l.drop j).length<=63:=by rw[aJ];lia
 generalize l.take j=A at k1 l1;generalize l.drop j=B at k2 l2;have sA:=λA:Ϝ=>pd A
 have pk:=λ{l nm:Ϝ}{b:Bool}(hc:l.length<=63) (hn:Nm nm)=>show ∃M rd,yf [.sh (.list (l.map D.int)),.ow (nm.map λn=>.sh (.int n)),.sh (.bl b)]=some (oR (gd M),.ow (rd.map λn=>.sh (.int n)))/\K31.Wm nm M/\Nm rd/\(∀a,M.flatten.count a+(zD rd).count a=(zD nm).count a)/\M.length<=l.length+1 from Ql hc hn
 by_cases t3:t<3
 .have E:decide (t<3)=true:=d0 t3;have G:decide (2<t)=false:=d4 ∅
  have s:decide (4<t)=false:=d4 ∅
  have e5:KC (.int t) (.int 5)=some (.bl true):=by rw[DT,d4 ∅];rfl
  obtain⟨M1,rd1,I,L,_,O,lM1⟩:=pk (b:=b) (nm:=R) hl nm;have S:zP [dM (gd M1)]=some [gd M1]:=wF [gd M1];have sO:=Ci (gd M1);have lot:Bq [M1]:=Uy (rd:=rd1) nm ∅ (λN J=>by rw[mSq.mp J];exact J4 nm L) (λa=>by rw[aQ];exact O a) (by rw[aQ];lia)
  refine⟨[M1],?_,lot⟩;show _=some (AV.ow ((A6 [gd M1]).map λm=>.sh (dM m)))
  cases b with
  |true=>simp_arith [rR,tj,X,sR,dI,H,u,c2,d8,sc,ml,Y,E,yh,Ao,tE,cL,e5,I,G,s,yP,sO,S]
  |false=>simp_arith [rR,tj,X,sR,dI,H,u,c2,d8,sc,ml,Y,E,yh,Ao,tE,cL,I,G,s,yP,sO,S]
 .have E:decide (t<3)=false:=d4 t3;have G:decide (2<t)=true:=d0 ∅
  obtain⟨b5,e5⟩:∃x,KC (.int t) (.int 5)=some (.bl x):=⟨_,DT _ _⟩;obtain⟨b6,e6⟩:∃x,KC (.int t) (.int 6)=some (.bl x):=⟨_,DT _ _⟩;obtain⟨M1,rd1,I,L,n1,O,lM1⟩:=pk (b:=b && b5) (nm:=R) l1 nm;obtain⟨M2,rd2,U,pc2,n2,cn2,lM2⟩:=pk (b:=b && b6) (nm:=rd1) l2 n1;have sO:=λN=>Ci N
  have g1:(0+1<qM)=True:=eq_true (by show 0+1<16777216;decide)
  have Q:(1<qM)=True:=eq_true (by show 1<16777216;decide)
  have g2:(2<qM)=True:=eq_true (by show 2<16777216;decide)
  have b1:∀x:Bool,(true && x)=x:=λx=>rfl
  have b0:∀x:Bool,(false && x)=false:=λx=>rfl
  by_cases t4:4<t
  .have s:decide (4<t)=true:=d0 t4;have S:zP [dM (gd M1),dM (gd M2),.list [.list []]]=some [gd M1,gd M2,[[]]]:=wF [gd M1,gd M2,[[]]];have lot:Bq [M1,M2,[[]]]:=Uy (rd:=rd2) nm ∅ (λN J=>by
    rcases aa.mp J with q|J
    .rw[q];exact J4 nm L
    .rcases aa.mp J with q|J
     .rw[q];exact J4 n1 pc2
     .rw[mSq.mp J];exact⟨Wf,by show EY (srt [good []]);rw[Cb,show srt [([]:Ϝ)]=[[]]from ja.mp (pV _)];exact Sk⟩) (λa=>by
    have:=O a;have:=cn2 a;simp only[fCq,gJ,fAq,cAq,bH];lia) (by simp only[fCq,gJ,lAq,lCq,cF];lia)
   refine⟨[M1,M2,[[]]],?_,lot⟩;show _=some (AV.ow ((A6 [gd M1,gd M2,srt [good []]]).map λm=>.sh (dM m)))
   rw[Cb,show srt [([]:Ϝ)]=[[]]from ja.mp (pV _)]
   cases b with
   |true=>
    rw[b1]at I U
    simp_arith [rR,tj,X,sR,dI,H,u,c2,d8,sc,ml,Y,E,yh,Ao,HK,tE,k1,k2,e5,e6,I,U,G,s,yP,sO,S,g1,Q,g2]
   |false=>
    rw[b0]at I U
    simp_arith [rR,tj,X,sR,dI,H,u,c2,d8,sc,ml,Y,E,yh,Ao,HK,tE,k1,k2,I,U,G,s,yP,sO,S,g1,Q,g2]
  .have s:decide (4<t)=false:=d4 t4;have S:zP [dM (gd M1),dM (gd M2)]=some [gd M1,gd M2]:=wF [gd M1,gd M2];have lot:Bq [M1,M2]:=Uy (rd:=rd2) nm ∅ (λN J=>by
    rcases aa.mp J with q|J
    .rw[q];exact J4 nm L
    .rw[mSq.mp J];exact J4 n1 pc2) (λa=>by
    have:=O a;have:=cn2 a;simp only[fCq,gJ,fAq,cAq,bH];lia) (by simp only[fCq,gJ,lAq,lCq,cF];lia)
   refine⟨[M1,M2],?_,lot⟩;cases b with
   |true=>
    rw[b1]at I U
    simp_arith [rR,tj,X,sR,dI,H,u,c2,d8,sc,ml,Y,E,yh,Ao,HK,tE,k1,k2,e5,e6,I,U,G,s,yP,sO,S,g1,Q,g2]
   |false=>
    rw[b0]at I U
    simp_arith [rR,tj,X,sR,dI,H,u,c2,d8,sc,ml,Y,E,yh,Ao,HK,tE,k1,k2,I,U,G,s,yP,sO,S,g1,Q,g2]
def tl:MS:=(oM (oX 2 (qb K54.uT (oO (oW 1) pH)))
 (oM (oX 3 (kSc (ti K54.qP (oI (oH 1) oS))))
 (oM (oX 4 (kSc (ti K54.yn (oI (rOf (qb K51.tx (oO (oW 2) pH))) oS))))
 (oM (zC (ON (BP (tN (ti K51.yg (oI (oH 4) oS)))) (ON (tN (qe FQ (oH 4) (rC (.int 0)))) (tN (qe KC (qe wW (rC (.int 2)) (oH 4)) (oH 3))))) (qT (kSc (rC (.bl false)))) qK)
 (oM (xA 5 (sm (oO (qb K51.tx (oO (oW 2) pH)) (oO (qb K15.qD (oO (qb K51.tx (oO (oW 2) pH)) pH)) (oO (qb K19.zN (oO (qb K51.tx (oO (oW 2) pH)) pH)) pH)))) uJ)
 (qT (kSc (rC (.bl true)))))))))
def Cr(g:Nat)(N:Λ):Prop:=∃q,tQ [dM N]=some (.sh (Qe q))/\(q=none↔g=0)
def T5{G:Λ}(h:Mv N)(hl:N.flatten.length<=400)(e:K15.qD [dM N]=some (.ow (G.map aI)))(t:4*K47.pn N+N.flatten.length=2*N.length+2*G.length+4*g):Cr g N:=by
 obtain⟨l,q,u,n,s⟩:=Nb h hl e;have:l=g:=by lia
 subst this;exact⟨q,n,s⟩
def HZ(h:Cr g N):uJ [v0,v1,v2,i0 (2*(g:Int)),v4,some (.sh (dM N))]=some (.nx [v0,v1,v2,i0 (2*(g:Int)),v4,some (.sh (dM N))]):=by
 obtain⟨q,e,s⟩:=h;have dn:∀b,KC (.bl b) (.bl b)=some (.bl false):=λb=>by cases b <;> rfl
 cases q with
 |none=>
  have t:=s.mp rfl;have l:decide ((2:Int)*(g)=0)=true:=d0 ∅
  have n:WO (Qe none) .non=some (.bl true):=rfl
  simp_arith [uJ,e,n,l,dn]
 |some p=>
  have t:¬ g=0:=λz=>by have:=s.mpr z;cases this
  have l:decide ((2:Int)*(g)=0)=false:=d4 ∅
  have n:WO (Qe (some p)) .non=some (.bl false):=rfl
  simp_arith [uJ,e,n,l,dn]
def V9(ha:Cr g A)(hb:Cr g B)(n:Cr g C):∃l,rZ 5 uJ [dM A,dM B,dM C] [v0,v1,v2,i0 (2*(g:Int)),v4,v5]=some (.nx [v0,v1,v2,i0 (2*(g:Int)),v4,l]):=by
 have a:=HZ ha (v0:=v0) (v1:=v1) (v2:=v2) (v4:=v4);have b:=HZ hb (v0:=v0) (v1:=v1) (v2:=v2) (v4:=v4);have c:=HZ n (v0:=v0) (v1:=v1) (v2:=v2) (v4:=v4);refine⟨some (.sh (dM C)),?_⟩;show((uJ _).bind _)=_;rw[show([v0,v1,v2,i0 (2*(g)),v4,v5]).set 5 (some (.sh (dM A)))=[v0,v1,v2,i0 (2*(g)),v4,some (.sh (dM A))]from rfl,a]
 show((uJ _).bind _)=_;rw[show([v0,v1,v2,i0 (2*(g)),v4,some (.sh (dM A))]).set 5 (some (.sh (dM B)))=[v0,v1,v2,i0 (2*(g)),v4,some (.sh (dM B))]from rfl,b]
 show((uJ _).bind _)=_;rw[show([v0,v1,v2,i0 (2*(g)),v4,some (.sh (dM B))]).set 5 (some (.sh (dM C)))=[v0,v1,v2,i0 (2*(g)),v4,some (.sh (dM C))]from rfl,c]
 rfl
def Ng(h:Qi P)(J:oN x = .list (P.map dM)):tl [v0,some x,none,none,none,none]=some (.rt (.sh (.bl true))):=by
 have n:=h.lt;have s:=h.le;have E:=Gz (P:=P) ∅
 obtain⟨mv,L⟩:=h.srt;have fl:(srt P.flatten).flatten.length<=134:=by rw[(pI (pV P.flatten)).length_eq];exact s
 have O:(srt P.flatten).length<=140:=by rw[qB];exact n
 obtain⟨N,G,l,t,u,Q,R,S⟩:=Vd mv ∅
 have z:=Sb h l;generalize srt P.flatten=M at E mv L l z fl O u Q S;obtain⟨g,_,I,_,_⟩:=Nb mv ∅ l
 have hh:=Mk mv l I;have U:2*(P.length:Int)-(M.length:Int)+(M.flatten.length:Int) / 2-(N.length:Int)=2*(g:Int):=by lia
 rw[U]at z;obtain⟨H,B,lR,pR,X,lH⟩:=UC mv l;have Y:=(K19.yG M).length_eq;have mi:=K19.OJ (rs:=M) ∅ ∅
 have cA:=T5 mv ∅ l I
 have cB:=T5 t ∅ R (g:=g) ∅
 have cC:=T5 B ∅ X (g:=g) ∅
 have sO:=Ci M;have cp:=K51.Vp (rs:=M) ∅
 have sM:(M.map aI).map oN=M.map dI:=by rw[mPq];exact mCq λr _=>pd r
 have sN:(N.map aI).map oN=N.map dI:=by rw[mPq];exact mCq λr _=>pd r
 have sR:((K19.mr M).map aI).map oN=(K19.mr M).map dI:=by rw[mPq];exact mCq λr _=>pd r
 have wh:K51.yg [.int (g:Int)]=i4 true:=by simp_arith [K51.yg,K51.Eu]
 have mu:∀i:Int,wW (.int 2) (.int i)=some (.int (2*i)):=λi=>Kn ⋯ ⋯
 have g0:decide ((g:Int)<0)=false:=d4 ∅
 have dn:KC (.int (2*(g))) (.int (2*(g)))=some (.bl false):=by simp
 obtain⟨v5,lo⟩:=V9 cA cB cC (v0:=v0) (v1:=i3 (P.map dM)) (v2:=some (.sh (dM M))) (v4:=i0 (g)) (v5:=none)
 simp_arith [tl,J,E,sO,z,cp,sM,hh,wh,g0,mu,dn,l,sN,mi,sR,lo]
def aaa(h:oN x = .list ds):lsA x=some ds:=by
 cases x with
 |sh d=>
  subst h;rfl
 |ow l=>
  rw[rM]at h;cases h;rfl
 |_=>cases h
theorem NG:∀P:List Λ,((P.map gd).flatten).flatten.Perm P.flatten.flatten/\(P.map gd).flatten.length=P.flatten.length
 | []=>⟨.refl _,rfl⟩
 |T::P=>by
  obtain⟨a,b⟩:=NG P;have e:=(pI (pV _)).trans (qj qJ T);refine⟨?_,?_⟩
  .rw[aw,fCq,fCq,fAq,fAq];exact e.append a
  .rw[aw,fCq,fCq,lAq,lAq,b,qB,lMq]
def Bq.lot(h:Bq P):Qi (A6 (P.map gd)):=by
 obtain⟨a,b⟩:=NG P;refine Qi.perm ⟨λM l=>?_,a.nodup_iff.mpr h.nd,λz n=>h.nz z (a.mem_iff.mp n),by rw[a.length_eq];exact h.le,by rw[b];exact h.lt⟩ (CJ _).symm
 obtain⟨T,s,rfl⟩:=mMq.mp l;exact h.pc T s
def YN(J:ns.length<=63):M7 [.scr ns]=i4 true:=by
 have B:oV [.scr ns,.int 0]=i0 (cell ns 0):=vO ns ⋯
 have E:oV [.scr ns,.int 1]=i0 (cell ns 1):=vO ns ⋯
 have G:=sJ (i:=cell ns 1) (j:=3) ⋯
 have n:=sJ (i:=cell ns 0) (j:=2) ⋯
 obtain⟨P,H,M⟩:=pieces_ok ns (decide (0<cell ns 1 % 3));have I:∀P:List Λ,oN (.ow (P.map λm=>.sh (dM m))) = .list (P.map dM):=λP=>by rw[rM,mPq];exact congrArg D.list (mCq λr _=>uk _)
 have lw:Uv=(oM (oX 1 (qb K54.rR (oO (oW 0) (oO (kSc (rC (.int 67))) (oO (kSc (qe Ml (qe tP (ti Zl.oV (oI (oH 0) (oI (rC (.int 1)) oS))) (rC (.int 3))) (rC (.int 0)))) pH)))))
  (oM (zC (tN (qe FP (qe tP (ti Zl.oV (oI (oH 0) (oI (rC (.int 0)) oS))) (rC (.int 2))) (rC (.int 1)))) (oX 1 (Fg (lOf (qb K52.wj (oO (qb K75.BZ (oO (oW 0) (oO (kSc (rC (.int 30))) pH))) pH))))) qK) tl)):=rfl
 by_cases q:cell ns 0 % 2=1
 .have s:=d0 q;obtain⟨A,O,l⟩:=K75.ZL ns;obtain⟨x,L,Q,R,Y,ll,pl,pm⟩:=K52.Rz l.mp;have lot:Qi L:=by
   rcases pm with pm|pm
   .have t:=pI pm;exact⟨pl,t.nodup_iff.mpr l.nd,λz S=>l.nz z (t.mem_iff.mp S),by rw[t.length_eq];exact l.len,by rw[pm.length_eq];have:=l.lr;lia⟩
   .subst pm;exact⟨pl,by simp,by simp,by simp,by simp⟩
  have fin:=Ng (lot.perm (CJ L).symm) (v0:=some (.sh (.scr ns))) (I _);have U:=wF L;have X:=aaa R;have u:∀N:Λ,(N.map λr=>AV.sh (dI r)).map oN=N.map dI:=λN=>by rw[mPq];exact mCq λr _=>uk _
  simp_arith [M7,lw,B,E,G,H,n,s,O,u,Q,X,yP,U,fin]
 .have s:=d4 q;have fin:=Ng M.lot (v0:=some (.sh (.scr ns))) (I _)
  simp_arith [M7,lw,B,E,G,H,n,s,fin]
end K54
namespace K54
open PySem L2 Mr Z Xe
def Zp{l:W.OpenLaw}{w:ke}{K:Ζ}{h:Heap}{mg:Str->Υ}{fa:Addr}(X:K.In h)(G:h.Ns kc mg)(hfa:mg "law" = some (.ref fa))
  (a0:At K "turned" B9 f0 fd0)
  (a1:At K "told_ends" wZ f1 fd1)
  (a2:At K "in_good_order" uq f2 fd2)
  (a3:At K "ends_of" AE f3 fd3)
  (a4:At K "roads_of" yC f4 fd4)
  (a5:At K "places_at" xw f5 fd5)
  (a6:At K "nexts" D6 f6 fd6)
  (a7:At K "reached" Ai f7 fd7)
  (a8:At K "pieces" BE f8 fd8)
  (a9:At K "refuse_not_one_piece" qU f9 fd9)
  (E:At K "walk" Iw f10 fd10)
  (H:At K "first_crossing" tX f11 fd11)
  (I:At K "crossing" yW f12 fd12)
  (J:At K "onwards" As f13 fd13)
  (L:At K "gone_round" vR f14 fd14)
  (M:At K "lands" D4 f15 fd15)
  (O:At K "counts" BL f16 fd16)
  (Q:At K "handles" Ar f17 fd17)
  (R:At K "mirror" Bx f18 fd18)
  (S:At K "_law_cell" BK f19 fd19)
  (U:At K "_law_roads" Ax f20 fd20)
  (Y:At K "_law_good" B7 f21 fd21)
  (a22:At K "_law_piece" AA f22 fd22)
  (a23:At K "_law_pieces" zk f23 fd23)
  (a24:At K "_law_joined" yI f24 fd24)
  (a25:At K "_law_copy" Cg f25 fd25)
  (a26:At K "_law_follow" zi f26 fd26)
  (a27:At K "_law_lands" Al f27 fd27)
  (a28:At K "_law_twice_handles" sY f28 fd28)
  (a29:At K "_law_whole" Ap f29 fd29)
  (a30:At K "_law_places" zl f30 fd30)
  (a31:At K "_law_order" AC f31 fd31)
  (a32:At K "_law_called" yB f32 fd32)
  (a33:At K "_law_any" DZ f33 fd33)
  (a34:At K "_law_split" Au f34 fd34)
  (a35:W.nsIn K kc "law" = some (some (.ref f35))) (l35:K.lookup f35=some ⟨oc35,od35,.func (W.fnOf "law" "law" (vM AN) (ur AN) (oJ AN) .none kV35 dc35 pm35 an35 cd35 ct35),sl35⟩) (c35:W.codeIn K cd35 "law" = true) (k35:W.keepIn K (.ref f35)=true)
  (t:W.nsIn K kc "set" = some none)
  (u:W.nsIn K kc "sum" = some none)
  (z0:W.nsIn K kc "len" = some none) (z1:W.nsIn K kc "min" = some none) (z2:W.nsIn K kc "max" = some none) (z3:W.nsIn K kc "abs" = some none) (z4:W.nsIn K kc "all" = some none) (z5:W.nsIn K kc "sorted" = some none) (z6:W.nsIn K kc "isinstance" = some none) (z7:W.nsIn K kc "list" = some none) (z8:W.nsIn K kc "int" = some none) (z9:W.nsIn K kc "bool" = some none) (z10:W.nsIn K kc "str" = some none) (z11:W.nsIn K kc "dict" = some none) (z12:W.nsIn K kc "zip" = some none) (z13:W.nsIn K kc "enumerate" = some none) (z14:W.nsIn K kc "range" = some none) (z15:W.nsIn K kc "reversed" = some none) :
  ∃fd:ky,(∀s v,nQ s fd ⟨[v],[]⟩ [("_law_script", v)])/\∀base:Heap,K.In base->base.Ns kc mg->DB l.prog w K mg base Xj 7 fa fd ["_law_script"] (NW K):=by
 have e:=hfa.symm.trans (W.mg_of X G a35);cases e;have B:Bt mg:=⟨W.mg_none_of X G z0,W.mg_none_of X G z1,W.mg_none_of X G z2,W.mg_none_of X G z3,W.mg_none_of X G z4,W.mg_none_of X G z5,W.mg_none_of X G z6,W.mg_none_of X G z7,W.mg_none_of X G z8,W.mg_none_of X G z9,W.mg_none_of X G z10,W.mg_none_of X G z11,W.mg_none_of X G z12,W.mg_none_of X G z13,W.mg_none_of X G z14,W.mg_none_of X G z15⟩;have D35:yu K mg "law" AN ["_law_script"] _ _:=⟨K9 l35 c35 k35,W.mg_of X G a35,b1 (K9 l35 c35 k35) λ_ _ _ _ _ _ _=>rfl⟩
 refine⟨W.fnOf "law" "law" (vM AN) (ur AN) (oJ AN) .none kV35 dc35 pm35 an35 cd35 ct35,λs v=>.of_eq rfl,λbase kb nb=>?_⟩
 have x:=W.mg_none_of X G t;have z:=W.mg_none_of X G u;have F0:=Ox (P:=l.prog) (w:=w) (base:=base) (zX X G a0 (b1 a0.F)) B
 have F1:=Hu (P:=l.prog) (w:=w) (base:=base) (zX X G a1 (b1 a1.F)) B
 have F2:=De (zX X G a2 (b1 a2.F)) B F0
 have F3:=Lm (zX X G a3 (b1 a3.F)) B F1
 have F4:=IY (zX X G a4 (b1 a4.F)) B F3
 have F5:=Ij (P:=l.prog) (w:=w) (base:=base) (zX X G a5 (b1 a5.F)) B
 have F6:=RD (P:=l.prog) (w:=w) (base:=base) (zX X G a6 (b1 a6.F)) B
 have F7:=LG (zX X G a7 (b2 a7.F)) B F5
 have F8:=P6 (zX X G a8 (b1 a8.F)) B F7
 have F9:=yq (zX X G a9 (b1 a9.F)) B F8
 have F10:=Wh (zX X G E (b1 E.F)) B F9 F5 F6
 have F11:=Bz (P:=l.prog) (w:=w) (base:=base) (zX X G H (b1 H.F)) B
 have F12:=JL (zX X G I (b1 I.F)) B F8 F11 F10
 have F13:=LQ (zX X G J (b1 J.F)) B F6
 have F14:=FV (P:=l.prog) (w:=w) (base:=base) (zX X G L (b2 L.F)) B
 have F15:=QZ (zX X G M (b1 M.F)) B F13 F3 F2 F14
 have F16:=Pd (zX X G O (b1 O.F)) B F4 F15 F8
 have F17:=Mc (zX X G Q (b1 Q.F)) B F16
 have F18:=Pr (zX X G R (b1 R.F)) B F2
 have n:=Om (P:=l.prog) (w:=w) (base:=base) (zX X G S (b2 S.F)) B
 have F20:=LF (zX X G U (b1 U.F)) B n
 have F21:=P8 (P:=l.prog) (w:=w) (base:=base) (zX X G Y (b1 Y.F)) B
 have F22:=KP (zX X G a22 (b3 a22.F)) B F21
 have F23:=JM (zX X G a23 (b3 a23.F)) B n F20 F22
 have F24:=J3 (P:=l.prog) (w:=w) (base:=base) (zX X G a24 (b1 a24.F)) B
 have F25:=PD (P:=l.prog) (w:=w) (base:=base) (zX X G a25 (b1 a25.F)) B
 have F26:=Jo (P:=l.prog) (w:=w) (base:=base) (zX X G a26 (b1 a26.F)) B
 have F27:=LH (zX X G a27 (b1 a27.F)) B F26
 have F28:=A5 (zX X G a28 (b1 a28.F)) B z F24 F27
 have F29:=LK (P:=l.prog) (w:=w) (base:=base) (zX X G a29 (b1 a29.F)) B
 have F30:=JW (P:=l.prog) (w:=w) (base:=base) (zX X G a30 (b1 a30.F)) B
 have F31:=Lf (P:=l.prog) (w:=w) (base:=base) (zX X G a31 (b2 a31.F)) B
 have F32:=JV (zX X G a32 (b2 a32.F)) B n
 have F33:=SJ (zX X G a33 (b2 a33.F)) B F32 F31 F21 n
 have F34:=Mg (zX X G a34 (b1 a34.F)) B x F30
 have F35:=ZJ D35 B F23 F24 F28 F17 F25 F15 F18 n F34 F29 F33 F12;exact F35.ok.imp (VL λns h=>YN h)
def ac7{l:W.OpenLaw}{G:(Str->Υ)->Heap->Prop}{K:Params->Ζ}(hn:l.most=some 63)(t:d.params.defaults=[])
  (H:∀w h,B w h->(K w.params).In h)
  (F:∀w (mg:Str->Υ) E h,(K w.params).In h->h.Ns kc mg->mg d.name=some (.ref E) ->
   ∃fd:ky,(∀s u,nQ s fd ⟨[u],[]⟩ [("_law_script", u)])/\∀base:Heap,(K w.params).In base->base.Ns kc mg->DB l.prog w (K w.params) mg base Xj 7 E fd ["_law_script"] (NW (K w.params))) :
  W.WalkO q loose G B l.row.toRowW d [] (λf vs=>PySem.call f vs):=
 L2.V4 (n:=63) (k:=7) (x:= "_law_script") (CX:=λ_=>Xj) (sp:=λw=>NW (K w.params)) hn ⋯ t ⟨rfl,by decide,by decide⟩ H F (λ_ _ a I hl _ J=>⟨a,I,rfl,J,hl,λ_=>rfl⟩) λ_ _ _ _ _ z=>z
end K54
structure PySem.W.Fast:Prop where(tw13062947410959523079 tw14187312698110696404 tw12189353470971874174 tw16122810357834904209 tw15565823086532260946 tw12687553432333200112 tw10352105055741890193 tw9945107992534162663 tw2296272195906986833 tw6659627974636254416 tw14031327102765307394 tw7590061909827158794 tw7659443708415309075 tw1628359335341744031 tw15906912648276099772 tw5081291452512926722 tw6966896212575795810 tw5914971538810700665 tw7050557735081769909 tw534484783476217012 tw7455045140779483981 tw14175576079787806844 tw9120223380798914123 tw7529817911220666824 tw3395249887059045328 tw3533280646332355971 tw7238768606312477239 tw11860741792783013248 tw228938889216220924 tw16088796337251385081 tw10755351447332235229 tw11265018237693493133 tw7048593043586051284 tw556331615598247706 tw16582223157237532458 tw11653948145637140956 tw3050621733470148146 tw15688186539310723666 tw12118920185431430438 tw5881380280692048626 tw15547197197868693505 tw5876463951196331494 tw4358535643663171598 tw1654344024467707972 tw12851957698996175106 tw8364035640748073058 tw10182266559749175480 tw7585002907853052030 tw10507905110405378972 tw7164989521403172249 tw12929311386541687287 tw15995412477810954220 tw1396991183532129387 tw1116401804888718616 tw15674766173803296862 tw15185790544306551123 tw8040965233796670872 tw1230442751321912478 tw10026901145315907713 tw14185213903238566601 tw8073135306281290438 tw13403662247916783143 tw2212323637094625338 tw16656909084110245248 tw9433525629908906602 tw5637443566202416673 tw6361076711971318402 tw15074255259980405672 tw16921431061891327456 tw4088622671458843478 tw5739952040647990334 tw18443670403660537043 tw9504871803283905185 tw2957071952320798064 tw9978519175497354159 tw16709427250626404211 tw2942604140275942330 tw16126041913605145401 tw7383512474396121788 tw4641779172056239105 tw25829627134136263 tw15378095201253954055 tw12743592600617813394 tw6034225458310660123 tw11678671815076441826 tw15294361235131027681 tw17796384936752669279 tw16360678211037261741 tw4740099221567687211 tw4702193891138750387 tw542366255489292097 tw629359163749223708 tw1204978221705256642 tw16919121111049758093 tw11206000576467097833 tw17082104481799711571 tw15371191101704503346:True)
open PySem PySem.W PyProof.Rows
set_option maxRecDepth 100000 in
set_option maxHeartbeats 0 in
theorem PySem.Challenge.cw_mapround_k54_whole_no_crossing_no_handle_holds : PySem.Challenge.rw_mapround_k54_whole_no_crossing_no_handle.Holds := by
 w_on;o_law;k_head;(case hw=>w_witness2)
 k_fill
 refine K54.ac7 (l:=PySem.Challenge.rw_mapround_k54_whole_no_crossing_no_handle) rfl rfl (λw h Y=>W.kIn_of Y) ?F
 case F=>
  intro w mg fa h KX G hmg;apply K54.Zp KX G hmg
  all_goals first|exact Mr.abX (by k_is) (by k_is) (by k_is) (by k_is)|exact Mr.atM_mk (by k_is) (by k_is) (by k_is) (by k_is) (by k_is)|k_is|kernel_rfl

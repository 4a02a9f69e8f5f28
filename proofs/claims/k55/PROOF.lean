import PyProof.Rows.All
import Wide.All
import OpenK.AllK
import Wide.FinOn
import Lean
import PyProof.EqAt
import PyProof.EqKinds
import PyProof.TupleCall
import KE.KIntText
import PyProof.ConsumeWalk
import PySem.Challenge.RW_mapround_k55_whole_handles_by_crossings
set_option Elab.async false
set_option linter.all false
set_option bootstrap.genMatcherCode false
set_option genSizeOf false
set_option compiler.extract_closed false
set_option maxRecDepth 100000
set_option maxHeartbeats 4000000
open Option renaming bind_eq_some_iff->oBq,map_eq_some_iff->oMq
open List renaming getElem?_eq_some_iff->gSq,getElem?_eq_getElem->gEg,getD_eq_getElem?_getD->gDq,length_append->lAq,length_map->lMq,mem_append->mAq,mem_flatten->mFq,mem_map->mMq,getElem?_map->gMq,mem_of_getElem?->mGq,map_congr_left->mCq,getElem_mem->gRq,length_singleton->lSq,mem_singleton->mSq,length_take->lTq,nodup_append->nAq,append_nil->aNq,flatten_append->fAq,getElem?_append_right->gYq,getElem?_append_left->gZq,length_cons->lCq,map_map->mPq,map_append->mBq,mem_cons_of_mem->mCo,length_set->lZq,flatten_cons->fCq,count_append->cAq,append_assoc->aa,mem_cons->ae,mem_cons_self->ai,mem_append_right->aj,mem_append_left->ak,nodup_cons->ar,map_cons->au,mem_iff_getElem?->ay,range->az,length_range->aB,drop_eq_getElem_cons->aC,take_length->aE,size_toArray->aF,getElem?_set_ne->aG,Perm->aL,getElem?_set_self->aN,length_drop->aQ,pairwise_append->aR,take_append_drop->aS,perm_append_comm->aT,mem_filter->aU,pairwise_map->aV,nodup_iff_pairwise_ne->aW,perm_ext_iff_of_nodup->aX,count_pos_iff->aZ,sublist_flatten_of_mem->bh,getElem?_eq_none->bo,mem_flatMap->bp,Pairwise->bq,replicate->bu,nodup_nil->bw,idxOf_lt_length_of_mem->bz,flatten_singleton->bB,mem_range->bD,take_sublist->bE,take_add_one->bF,getElem?_set->bG,pairwise_iff_getElem->bI,mem_of_mem_drop->bL,getElem?_replicate->bM,flatMap_cons->bO,mem_of_mem_take->bP,getElem_idxOf->bQ,length_replicate->bT,length_eq_zero_iff->bU,length->bV,drop_sublist->bW,count_nil->bX,getElem?_drop->cf,mem_reverse->cj,take_of_length_le->cw,Sublist->cD,length_filter_le->cG,count_cons->cH,set_cons_zero->cJ,not_mem_nil->cM,mem_iff_getElem->cP,eraseIdx_cons_succ->cQ,filter_cons_of_pos->cS,filter_cons_of_neg->cT,ext_getElem?->cV,nil_append->cX,foldl_cons->cZ,getElem?_range->dh,append_eq_nil_iff->dr,drop_length->du,nodup_range->dz,count_eq_zero->dA,append_of_mem->dC,eq_of_mem_replicate->dD,length_eraseIdx->dF,find?_cons->dG,any_cons->dN,countP_eq_length_filter->dO,filter_sublist->dP,drop_eq_nil_of_le->dU,cons_append->dW,find?_cons_of_neg->dX,set_cons_succ->dY,eq_nil_or_concat->dZ,concat_eq_append->eD,length_nil->eJ,mem_or_eq_of_mem_set->eO,getElem?_zip_eq_some->eP,dropLast_concat->eQ,nodup_iff_count->eR,findIdx_lt_length_of_exists->eS,getElem?_take_of_lt->eT,length_pos_iff->eU,reverse_append->eZ,getElem?_cons_zero->fi,find?_cons_of_pos->fo,find?_isSome->fv,idxOf_cons_self->fB,any_eq_true->fF,all_eq_true->fG,extract_eq_take_drop->fI,flatMap_append->fK,perm_iff_count->fL,idxOf_lt_length_iff->fM,sublist_append_left->fO,pairwise_cons->fQ,filter_append->fT,map_nil->fU,drop_zero->fX,idxOf_append->fZ,getElem_drop->gc,countP_congr->gg,length_pos_of_mem->gi,drop_of_length_le->gn,pairwise_lt_range->gu,take_succ_eq_append_getElem->gw,eraseIdxIfInBounds_toArray->gA,getElem?_zipWith->gD,set_getElem_self->gE,reverse_reverse->gJ,findIdx_getElem->gL,filter_map->gM,eq_nil_of_length_eq_zero->gO,map->gP,zipWith->gS,set_set->gT,filterMap_cons->gX,perm_append_comm_assoc->gY,getElem?_take->hV,map_id->ij,getElem_take->iq,map_take->ir,foldl_append->iu,sublist_append_right->iz,countP_cons->iC,append_inj'->iD,perm_middle->iE,flatMap_def->iF,pairwise_mergeSort->iH,of_mem_zip->iM,getElem?_toArray->iS,countP_eq_length->iU,take_zero->iW,all_cons->iZ,mergeSort_perm->ja,mem_filterMap->je,getElem?_inj->jk,drop_append->jm,ext_getElem->jq,length_zip->jt,countP_map->ju,map_drop->jC,sum_cons->jD,any_map->jI,all_map->jL,map_id'->jM,zip_map->jN
open Nat renaming le_refl->af,ne_of_lt->aD,lt_of_lt_of_le->aK,zero_le->bx,zero_add->bK,le_trans->bY,le_succ->cg,lt_succ_of_lt->cB,le_of_lt->cC,lt_succ_iff_lt_or_eq->cI,sub_self->cR,not_lt_zero->cW,lt_succ_self->dS,ne_of_gt->eI,lt_irrefl->eK,mod_eq_of_lt->fc,add_sub_cancel->fj,min_eq_left->fk,lt_trichotomy->fu,le_of_eq->fA,add_one_sub_one->fJ,lt_or_eq_of_le->fP,pos_of_ne_zero->fR,add_comm->fW,add_assoc->gB,le_add_right->gC,strongRecOn->gN,mul_comm->gU,mod_self->gV,mul_assoc->iy,le_of_not_lt->iB,add_sub_cancel_left->iG,pow_succ->iK,mod_lt->jb,lt_trans->jg,add_zero->jh,le_of_lt_succ->ji,max_eq_right->jn,min_eq_right->jr,min_self->jJ
open Array renaming getElem?_eq_getElem->ag,length_toList->aq,getElem?_toList->aw,toList_append->aY,getElem?_eq_some_iff->bj,getElem_mem->bC,toList_reverse->dE,toList_push->dJ,size_extract->fS,getD->gj,toList_extract->gI,toArray_toList->gK,toList_setIfInBounds->ic,getElem?_extract->iN,mem_toList_iff->iY,Perm->jv,size_map->jy
open PySem.Heap renaming get?_push_of_some->ah,lt_size->ao,get?_push_size->aH,SameBut->bZ,get?_update_ne->de,get?_update_other->dQ,size_update->fE,get?_push_ne->gf,get?_update_self->gF,size_push->iX,ExtBut->jS
open PySem.F renaming plainAttrs_list->ax,slot_list_append->bf,type_list_append->bg,slot_list_pop->cE,type_list_pop->cF,called_set->cL,slot_list_index->fV,plain_extend_loop->iw,type_list_index->iJ,plain_set_new->iR,slot_set_iter->iT
open Sum renaming inl->aA,inr->ik
open Bool renaming false_ne_true->aJ,eq_iff_iff->bS,false_eq_true->cK,not_eq_true->cO,and_eq_true->fD,xor_assoc->gZ,xor_false->hU,not_eq_true'->jj,false_and->jx,false_or->jB,xor_comm->jE,and_true->jF,true_or->jH
open Int renaming neg_neg->aM,toNat_natCast->bA,emod_lt_of_pos->bH,emod_nonneg->bJ,le_of_lt->gR,fdiv_eq_ediv_of_nonneg->hZ,zero_add->iI,mul_one->iP,le_refl->iQ,toNat->iV
open Option renaming some->aO,bind_some->bN,isSome_map->cU,map_some->df,isSome_some->jf,getD_none->jl,none->jR
open PyProof.Rows renaming callWith_type1->bR,boot_list->fq,boot_int->gG,callWith_builtin1->gH,boot_isinstance->jw,boot_sorted->jG,boot_tuple->jK,boot_bool->jO,boot_min->jT,boot_sum->jU,boot_str->jV,boot_abs->jW,lt_int->jY
open PySem.Value renaming ref->cA,type->eF,int->fY,none->gh,isStrOf->jz,str->jA,isInt->jQ,bool->jX
open Classical renaming propDecidable->fh,byContradiction->iA
open Or renaming inr->gQ,inl->jc
open Prod renaming ext->jd,fst->jP
open PySem renaming wpAny_bind->jZ,wpAny_pure->kf,wpAny->ki,model->kj,sizeLine->kr,Program->ku,mainGlobals->kx,World->ky,starEach->kA,call_isinstance->kB,rawInt->kE,wpAny_truthy_bool->kF,compareOp->kG,FuncData->kH,sizeLine_eq->kJ,codeAny_builtin->kL,wpAny_mono->kM,wpAny_call_entry->kN,wpAny_setState_of->kO,relabel->kS,lookup_relabel_local->kT,sysModules->kX,Scope->kY,wpAny_setField_rec->kZ,wpAny_passesOwn->lg,isinstance_true->lj,wpAny_holding->lu,wpAny_newObj_type->ly,cLine->lB,unsupported->lC,scanBound->lF,wpAny_comprehension_free->lK,wpAny_callSpecial?_slot->lO,intKind->lU,codeAny->lV,wpAny_Call_Name_kw->lW,wpAny_ite_split->lY,foldedSetIterable->mj,isSubtype_type->mn,isinstance_false_int->mq,wpAny_newList->mw,plainId_quiet->mB,behindInMarks->mC,pyNext->mD,sliceBounds->mE,tupleKind_room_in1->mH,bootBuiltins->mI,binaryOp->mJ,backTo->mK,wpAny_attempt->mM,setNext->mP,wpAny_execs_nil->mR,letOwnedTupleGo->mS,codeAny_mono->mU,setEntries->mV,call_meets->mW,wpAny_fieldsOf->mX,firstArgMember->mY,swapsWith->mZ,assign->nc,fits_of_scanBound->nh,assignEach->ni,valueAt->nj,newList->nq,callerA->nr,wpAny_isInstance->nt,wpAny_askSetting->nu,relayAll->nv,isTrue->ny,tupleKind->nC,atKey->nD,subscripted->nF,wpAny_isTrue_Compare1->nH,isinstance_false_none->nJ,exec_Assign_Name_used->nK,builtinLookup_eq_fast->nO,wpAny_runValue->nP,newFunctionEnv->nR,getItem->nU,BindsTo->nV,Result->nX,isinstance_false_str->nY,wpAny_rule->oa,intKind_is->oe,closureFor->og,wpAny_standAt->oi,wpAny_typeOf->oq,seqIndex?->oz,wpAny_of_eq->oA
open PyProof.Rows renaming Keyed->ke,wpS_bind->km,wpS_pure->ko,arrOf->kz,seqObj->kC,IntsAre->kK,wpS_forRange->kP,setArr->kQ,SortKind->kR,wpS_mono->kU,elem'->kW,pairsOf->lJ,pendingOf->lZ,envOfC->mh,oneType'->mi,wpS_modify->mv,wpS_get->mF,getElem?_mirror_all->mG,sortedHeap->mL,reverseSlice'->mN,gallopOf->mO,AllBare->mQ,pairsOf_size->mT,get?_update_seq->nA,entry_list_sort->nB,subscriptTail_builtinR->nE,slot_list_sort->nQ,args_list_sort->nT,entry_proto_collect'->nZ,keyKind'->oh,subscriptTail->oj,listUpdate_at->om,plain_sorted->ot,keyKind_ints->ou,entry_sorted->ox,args_sorted1->oy,seqEpoch_at->oB,kind_sorted->oC
abbrev Λ:=List (List Int)
abbrev Ϝ:=List Int
abbrev Φ:=List (PySem.Addr×PySem.Obj)
abbrev Δ:=List PySem.Addr
abbrev Θ:=List Nat
abbrev Ξ:=List PySem.Value
abbrev Ω:=Array PySem.Value
abbrev Υ:=Option PySem.Value
abbrev Ψ:=PySem.Value->PySem.Shared->Prop
abbrev Ζ:=PySem.W.Frag
noncomputable section
open Array renaming mem_of_getElem?->aQq
local macro_rules|`(tactic|trivial)=>`(tactic|first|exact jc rfl|exact gQ rfl|exact gQ (jc rfl)|exact gQ (gQ rfl)|exact⟨rfl,rfl,rfl,by decide +kernel,rfl,by decide +kernel,by decide +kernel⟩|decide +kernel|fail)
def pH{c:Prop}{_:Decidable c}(h:c){α}{t e:α}:ite c t e=t:=if_pos h
def pE{c:Prop}{_:Decidable c}(h:¬c){α}{t e:α}:ite c t e=e:=if_neg h
theorem d0{p:Prop}[Decidable p](h:p):decide p=true:=decide_eq_true h
theorem d4{p:Prop}[Decidable p](h:¬p):decide p=false:=decide_eq_false h
namespace L2
open PySem PySem.Spec PyProof.Rows
abbrev pI:=Sum Int Str
noncomputable def FL:pI->Value->Bool
 | .inl k,v=>jQ k v
 | .inr x,v=>jz x v
def abE(w:ky):pI->Int
 | .inl k=>hashInt k
 | .inr x=>hashStr w x
def qA:∀{k:pI}{v:Value},FL k v=true->(∃i t,k=aA i/\v=fY i t)∨(∃x t,k=ik x/\v=jA x t)
 | .inl i,v,h=>by
  obtain⟨t,e⟩:=Value.isInt_shape (k:=i) (v:=v) h;exact .inl ⟨i,t,rfl,e⟩
 | .inr x,v,h=>by
  obtain⟨t,e⟩:=Value.isStrOf_shape (x:=x) (v:=v) h;exact .inr ⟨x,t,rfl,e⟩
def MJ(i:Int)(t:Tok):FL (.inl i) (.int i t)=true:=by simp[FL,jQ]
def N1(x:Str)(t:Tok):FL (.inr x) (.str x t)=true:=by simp[FL,jz]
def Wq(a b:Int):decide ((aA a:pI)=aA b)=(a == b):=by
 by_cases e:a=b
 .subst e;simp
 .have h:¬ (aA a:pI)=aA b:=λq=>e (aA.inj q)
  rw[d4 h];exact(beq_eq_false_iff_ne.mpr e).symm
def XR(a b:Str):decide ((ik a:pI)=ik b)=decide (a=b):=by
 by_cases e:a=b
 .subst e;simp
 .have h:¬ (ik a:pI)=ik b:=λq=>e (ik.inj q)
  rw[d4 h,d4 e]
def WH(a:Int)(b:Str):decide ((aA a:pI)=ik b)=false:=d4 (λq=>nomatch q)
def Yy(a:Str)(b:Int):decide ((ik a:pI)=aA b)=false:=d4 (λq=>nomatch q)
def qE(prog:ku)(w:ky):PySem.KeyKind prog w pI where
 is:=FL
 hash:=abE w
 inj:=λv a b ha hb=>by
  rcases qA ha with⟨i,t,rfl,rfl⟩|⟨x,t,rfl,rfl⟩
  .rcases qA hb with⟨j,u,rfl,e⟩|⟨y,u,rfl,e⟩
   .injection e with l _;rw[l]
   .exact nomatch e
  .rcases qA hb with⟨j,u,rfl,e⟩|⟨y,u,rfl,e⟩
   .exact nomatch e
   .injection e with l _;rw[l]
 byValue:=λk v h=>by
  rcases qA h with⟨i,t,rfl,rfl⟩|⟨x,t,rfl,rfl⟩ <;> rfl
 pyHash:=λn h=>by
  rcases qA n with⟨i,t,rfl,rfl⟩|⟨x,t,rfl,rfl⟩
  .exact wpAny_pyHash_int h
  .exact wpAny_pyHash_str h
 eqBool:=λs n h=>by
  rcases qA s with⟨i,t,rfl,rfl⟩|⟨x,t,rfl,rfl⟩
  .rcases qA n with⟨j,u,rfl,rfl⟩|⟨y,u,rfl,rfl⟩
   .rw[Wq]at h;exact wpAny_eqBool_int h
   .rw[WH]at h;exact SeqAt.EqAt.int_str i t y u _ _ _ _ h
  .rcases qA n with⟨j,u,rfl,rfl⟩|⟨y,u,rfl,rfl⟩
   .rw[Yy]at h;exact SeqAt.EqAt.str_int x t j u _ _ _ _ h
   .rw[XR]at h;exact wpAny_eqBool_str h
 «strs»:=λk x t v h=>by
  rcases qA h with⟨i,u,rfl,e⟩|⟨y,u,rfl,e⟩
  .exact nomatch e
  .injection e with l _
   subst l;cases v <;> rfl
def Il(prog:ku)(w:ky)(i:Int)(t:Tok):(qE prog w).is (.inl i) (.int i t)=true:=MJ i t
def Jb(prog:ku)(w:ky)(x:Str)(t:Tok):(qE prog w).is (.inr x) (.str x t)=true:=N1 x t
inductive V where
 |non|bl (b:Bool)|int (i:Int)|str (x:Str)|byt (b:Array UInt8)|flt (b:UInt64)|ref (a:Addr)|ty (n:String)
 deriving DecidableEq
def qr:V->Value->Prop
 | .non,u=>u=gh
 | .bl b,u=>u=jX b
 | .int i,u=>∃t,u=fY i t
 | .str x,u=>∃t,u=jA x t
 | .byt b,u=>∃t,u=Value.bytes b t
 | .flt b,u=>∃t,u=Value.float b t
 | .ref a,u=>u=cA a
 | .ty n,u=>u=eF n
abbrev qc:List V->Ξ->Prop:=Paired qr
theorem qc.length{xs:List V}{l:Ξ}(r:qc xs l):xs.length=l.length:=Paired.length r
theorem qc.get:∀{xs:List V}{l:Ξ}{i:Nat}{x:V},qc xs l->xs[i]?=some x->∃u,l[i]?=some u/\qr x u
 |_,_,_,_,.nil,e=>by simp at e
 |_,_,0,_,.cons r _,e=>by simp at e;subst e;exact⟨_,rfl,r⟩
 |_,_,i+1,x,.cons _ t,e=>by
  obtain⟨u,n,s⟩:=qc.get (i:=i) (x:=x) t (by simpa using e)
  exact⟨u,by simpa using n,s⟩
theorem qc.set{x:V}{u:Value}(r:qr x u):∀{xs:List V}{l:Ξ}(i:Nat),qc xs l->qc (xs.set i x) (l.set i u)
 |_,_,_,.nil=>.nil
 |_,_,0,.cons _ t=>.cons r t
 |_,_,i+1,.cons q t=>.cons q (qc.set r i t)
theorem qc.append:∀{xs ys:List V}{l ws:Ξ},qc xs l->qc ys ws->qc (xs++ys) (l++ws)
 |_,_,_,_,.nil,s=>s
 |_,_,_,_,.cons r t,s=>.cons r (qc.append t s)
theorem qc.take:∀{xs:List V}{l:Ξ}(n:Nat),qc xs l->qc (xs.take n) (l.take n)
 |_,_,0,_=>.nil
 |_,_,_+1,.nil=>.nil
 |_,_,n+1,.cons r t=>.cons r (qc.take n t)
theorem qc.drop:∀{xs:List V}{l:Ξ}(n:Nat),qc xs l->qc (xs.drop n) (l.drop n)
 |_,_,0,r=>r
 |_,_,_+1,.nil=>.nil
 |_,_,n+1,.cons _ t=>qc.drop n t
def EM:Option V->Υ->Prop
 |some v,some u=>qr v u
 |none,none=>True
 |_,_=>False
def KV{κ:Type}:List (κ×V)->List (κ×Value)->Prop:=Paired λ(p:κ×V) (q:κ×Value)=>p.1=q.1/\qr p.2 q.2
def kV:pI->V
 | .inl i=>.int i
 | .inr x=>.str x
inductive HO where
 /-- a list -/
 |lst (xs:List V)
 /-- a tuple (never changes) -/
 |tup (xs:List V)
 /-- a dict whose keys are ints and texts;one whose keys are tuples of ints and texts (the empty one is Z2) -/
 |dK (kvs:List (pI×V))|dT (kvs:List (List pI×V))
 /-- a set of ints: its members,its size -/
 |set (S:Int->Bool) (n:Nat)
 /-- an instance of the class at C,its dict at dx,its attributes -/
 |ins (C dx:Addr) (fs:List (Str×V))
 /-- the dict of the instance at x -/
 |own (x:Addr)
 /-- the dict of an exception -/
 |xd (fs:List (Str×V))
 /-- a bound method,f of x -/
 |met (f x:Addr)
 /-- a range object lo,lo+1,.. below hi -/
 |rng (lo hi:Int)
 /-- a thing that is known to the object (the script;a dict while a loop walks it): read,never written while it is so -/
 |frz (o:Obj) (u:HO)
 /-- a code object's table -/
 |tbl (ps:Ω)
 /-- any other thing,by what is true of its one object (a def of one's own: SetO a S n:=HO.ext λh=>..) -/
 |ext (φ:Heap->Prop)
abbrev Hp:=Addr->Option HO
def qw(H:Hp)(a:Addr)(o:HO):Hp:=λb=>if b=a then some o else H b
def pB{H:Hp}{a:Addr}{o:HO}:qw H a o a=some o:=by unfold qw;rw[pH rfl]
def pd{H:Hp}{a b:Addr}{o:HO}(h:b≠a):qw H a o b=H b:=by unfold qw;rw[pE h]
def Y7{H:Hp}{a b:Addr}{o u:HO}(h:H a=some o)(h':H b=some u)(d:o≠u):a≠b:=by
 intro e;subst e;rw[h]at h';exact d (aO.inj h')
def qO{H:Hp}{a b:Addr}{o:HO}(h:H a=some o)(h':H b=none):a≠b:=by
 intro e;subst e;rw[h]at h';cases h'
section
variable (P:ku)(w:ky)
def qR(H:Hp)(h:Heap)(a:Addr):HO->Prop
 | .lst xs=>xs.length<=kr/\∃(l:Ξ) (n:Nat),qc xs l/\h.get? a=some { cls:=.type "list", data:=.seq l.toArray n }
 | .tup xs=>xs.length<=kr/\∃l:Ξ,qc xs l/\IsTup h a l.toArray
 | .dK kvs=>kvs.length<=kr/\(a == kX)=false/\∃vs,KV kvs vs/\h.DictOf (qE P w) a vs
 | .dT kvs=>kvs.length<=kr/\(a == kX)=false/\∃xs:List (List pI×Addr×Value),
   Paired (λ(p:List pI×V) (q:List pI×Addr×Value)=>p.1=q.1/\H q.2.1=some (.tup (p.1.map kV))/\qr p.2 q.2.2) kvs xs /\
   ∃o es ep,h.get? a=some o/\o.ExactDict/\o.data = .dict es ep/\es.toList=xs.map (entryOfKey (nC (qE P w)))/\(xs.map (·.1)).Nodup
 | .set S n=>h.SetOf (lU P w) a S n
 | .ins C z fs=>H z=some (.own a)/\fs.length<=1000/\z≠a/\h.get? a=some (W.instObj C z) /\
   ∃s,h.Ns1 z s/\(∀f,EM (fs.lookup f) (s f))/\PySem.Within s (fs.map (·.1))
 | .own _=>∃o,h.get? a=some o
 | .xd fs=>∃s,h.Ns1 a s/\∀f,EM (fs.lookup f) (s f)
 | .rng lo hi=>∃t u v,h.get? a=some { cls:=.type "range", data:=.fields #[.int lo t,.int hi u,.int 1 v] }
 | .frz o u=>h.get? a=some o/\qR H h a u
 | .tbl ps=>h.get? a=some { cls:=.none,data:=.fields ps }
 | .met f x=>h.get? a=some (W.methodObj (.ref f) (.ref x))
 | .ext φ=>φ h/\(∃o,h.get? a=some o)/\∀B E:Heap,φ B->(∀o,B.get? a=some o->E.get? a=some o)->φ E
def A7(H:Hp)(h:Heap):Prop:=∀a o,H a=some o->qR P w H h a o
end
section
variable {P:ku}{w:ky}{H H':Hp}{h h':Heap}{a:Addr}{o:HO}
theorem qR.lt(x:qR P w H h a o):a<h.objs.size:=by
 cases o with
 |lst s=>obtain⟨_,_,_,_,e⟩:=x;exact ao e
 |tup s=>obtain⟨_,_,_,p⟩:=x;exact p.lt
 |dK l=>obtain⟨_,_,_,_,o,_,_,e,_⟩:=x;exact ao e
 |dT l=>obtain⟨_,_,_,_,o,_,_,e,_⟩:=x;exact ao e
 |set S n=>obtain⟨o,_,_,_,e,_⟩:=x;exact ao e
 |ins C t fs=>obtain⟨_,_,_,e,_⟩:=x;exact ao e
 |own y=>obtain⟨_,e⟩:=x;exact ao e
 |xd fs=>obtain⟨_,⟨_,_,_,e,_⟩,_⟩:=x;exact ao e
 |rng lo hi=>obtain⟨_,_,_,e⟩:=x;exact ao e
 |frz z u=>obtain⟨e,_⟩:=x;exact ao e
 |tbl B=>exact ao (show h.get? a=some _ from x)
 |met f y=>exact ao (show h.get? a=some _ from x)
 |ext φ=>obtain⟨_,⟨_,e⟩,_⟩:=x;exact ao e
theorem Paired.mapP{α β:Type}{F G:α->β->Prop}:∀{l₁:List α}{l₂:List β},Paired F l₁ l₂->(∀a b,F a b->G a b)->Paired G l₁ l₂
 |_,_,.nil,_=>.nil
 |_,_,.cons r t,f=>.cons (f _ _ r) (Paired.mapP t f)
def qR.stay(x:qR P w H h a o)(k:∀b u,(b=a∨H b=some (.own a))->h.get? b=some u->h'.get? b=some u)
  (M:∀b,H b=some (.own a)->H' b=some (.own a)) (ht:∀b xs,H b=some (.tup xs)->H' b=some (.tup xs)):qR P w H' h' a o:=by
 induction o with
 |lst xs=>obtain⟨z,E,n,r,e⟩:=x;exact⟨z,E,n,r,k _ _ (.inl rfl) e⟩
 |tup xs=>obtain⟨z,E,r,l,e,c⟩:=x;exact⟨z,E,r,l,k _ _ (.inl rfl) e,c⟩
 |dK G=>obtain⟨z,y,O,r,l,s,B,e,c⟩:=x;exact⟨z,y,O,r,l,s,B,k _ _ (.inl rfl) e,c⟩
 |dT G=>
  obtain⟨z,y,xs,r,l,s,B,e,c⟩:=x;exact⟨z,y,xs,Paired.mapP r λp q z=>⟨z.1,ht _ _ z.2.1,z.2.2⟩,l,s,B,k _ _ (.inl rfl) e,c⟩
 |set S n=>obtain⟨l,s,B,t,e,c⟩:=x;exact⟨l,s,B,t,k _ _ (.inl rfl) e,c⟩
 |ins C U fs=>
  obtain⟨d,z,ne,e,I,⟨J,s,B,Q,c⟩,r⟩:=x;exact⟨M _ d,z,ne,k _ _ (.inl rfl) e,I,⟨J,s,B,k _ _ (.inr d) Q,c⟩,r⟩
 |own y=>obtain⟨l,e⟩:=x;exact⟨l,k _ _ (.inl rfl) e⟩
 |xd fs=>obtain⟨I,⟨J,s,B,e,c⟩,r⟩:=x;exact⟨I,⟨J,s,B,k _ _ (.inl rfl) e,c⟩,r⟩
 |rng lo hi=>obtain⟨t,u,v,e⟩:=x;exact⟨t,u,v,k _ _ (.inl rfl) e⟩
 |frz l u R=>obtain⟨e,q⟩:=x;exact⟨k _ _ (.inl rfl) e,R q⟩
 |tbl L=>
  have e:h.get? a=some { cls:=.none,data:=.fields L }:=x;show h'.get? a=some { cls:=.none,data:=.fields L };exact k a _ (.inl rfl) e
 |met f y=>
  have e:h.get? a=some (W.methodObj (.ref f) (.ref y)):=x;show h'.get? a=some (W.methodObj (.ref f) (.ref y));exact k a _ (.inl rfl) e
 |ext φ=>obtain⟨p,⟨o,e⟩,st⟩:=x;exact⟨st _ _ p λo q=>k _ _ (.inl rfl) q,⟨o,k _ _ (.inl rfl) e⟩,st⟩
theorem A7.lt(x:A7 P w H h)(e:H a=some o):a<h.objs.size:=(x a o e).lt
def A7.fresh(x:A7 P w H h)(e:h.objs.size<=a):H a=none:=by
 cases q:H a with
 |none=>rfl
 |some u=>exact absurd (aK (x.lt q) e) (eK _)
def A7.kept(x:A7 P w H h)(k:∀b u,h.get? b=some u->h'.get? b=some u):A7 P w H h':=λa o e=>
 (x a o e).stay (λb u _ q=>k b u q) (λ_ q=>q) λ_ _ q=>q
def A7.laid(x:A7 P w H h)(k:∀b u,h.get? b=some u->h'.get? b=some u)(l:h.objs.size<=a)(new:qR P w (qw H a o) h' a o):A7 P w (qw H a o) h':=λb u e=>by
 have hn:=x.fresh l
 by_cases hb:b=a
 .subst hb;rw[pB]at e;cases e;exact new
 .rw[pd hb]at e;exact(x b u e).stay (λc v _ q=>k c v q) (λc q=>by rw[pd (qO q hn)];exact q) λc n q=>by rw[pd (qO q hn)];exact q
end
def Rd(H:Hp)(a:Addr)(u:HO):Prop:=H a=some u∨∃o,H a=some (.frz o u)
def Rd.ok{P:ku}{w:ky}{H:Hp}{h:Heap}{a:Addr}{u:HO}(r:Rd H a u)(x:A7 P w H h):qR P w H h a u:=by
 rcases r with r|⟨o,r⟩
 .exact x a u r
 .obtain⟨_,q⟩:=x a _ r;exact q
def Mut:Option HO->Prop
 |some (.lst _)=>True
 |some (.dK _)=>True
 |some (.dT _)=>True
 |some (.set _ _)=>True
 |some (.ins _ _ _)=>True
 |some (.ext _)=>True
 |_=>False
section
variable {P:ku}{w:ky}{H:Hp}{h h':Heap}{x e:Addr}{o':HO}
def A7.write(ok:A7 P w H h)(mu:Mut (H x))(G:e=x∨H e=some (.own x))(k:∀b u,b≠e->h.get? b=some u->h'.get? b=some u)(E:∃u,h'.get? e=some u)
  (new:qR P w (qw H x o') h' x o'):A7 P w (qw H x o') h':=λb u q=>by
 have n:∀c y,H c=some (.own y)->c≠x:=λc y r z=>by subst z;rw[r]at mu;exact mu
 have s:∀c t,H c=some (.tup t)->c≠x:=λc t r z=>by subst z;rw[r]at mu;exact mu
 by_cases hb:b=x
 .subst hb;rw[pB]at q;cases q;exact new
 .rw[pd hb]at q
  by_cases l:b=e
  .have I:H b=some (.own x):=by
    rcases G with z|z
    .exact absurd (l.trans z) hb
    .rw[l];exact z
   rw[q]at I;cases I;obtain⟨v,J⟩:=E;exact⟨v,by rw[l];exact J⟩
  .refine(ok b u q).stay (λc v B r=>k c v ?_ r) (λc r=>by rw[pd (n c b r)];exact r) λc t r=>by rw[pd (s c t r)];exact r
   rcases B with rfl|B
   .exact l
   .rintro rfl;rcases G with z|z
    .exact n c b B z
    .rw[B]at z;cases z;exact hb rfl
end
structure Un (fs ex:Δ)(H H':Hp)(h h':Heap):Prop where
 keep:∀b o,h.get? b=some o->H b=none->b∉fs->b∉ex->h'.get? b=some o
 slot:∀b o,h.get? b=some o->H b=none->b∈fs->b∉ex->∃sl,h'.get? b=some { o with slots:=sl }
 free:∀b o,h.get? b=some o->H b=none->b∉ex->H' b=none
 there:∀b o,h.get? b=some o->b∉ex->∃o',h'.get? b=some o'
 tups:∀b xs,H b=some (.tup xs)->H' b=some (.tup xs)
 frzs:∀b o u,H b=some (.frz o u)->H' b=some (.frz o u)
 tbls:∀b ps,H b=some (.tbl ps)->∃more,H' b=some (.tbl (ps++more))
section
variable {fs fs' ex ex':Δ}{H H1 H2:Hp}{h h1 h2 h':Heap}{a x e:Addr}{o:HO}
def Un.any(u:Un fs ex H H1 h h1){b:Addr}{l:Obj}(q:h.get? b=some l)(n:H b=none)(s:b∉ex):∃sl,h1.get? b=some { l with slots:=sl }:=by
 by_cases hb:b∈fs
 .exact u.slot b l q n hb s
 .exact⟨l.slots,u.keep b l q n hb s⟩
def Un.kept(k:∀b u,h.get? b=some u->h'.get? b=some u):Un fs ex H H h h':=
 ⟨λb l q _ _ _=>k b l q,λb l q _ _ _=>⟨l.slots,k b l q⟩,λ_ _ _ n _=>n,λb l q _=>⟨l,k b l q⟩,λ_ _ q=>q,λ_ _ _ q=>q,λ_ s q=>⟨#[],by rw[q];simp⟩⟩
def Un.refl:Un fs ex H H h h:=Un.kept λ_ _ q=>q
def Un.laid(k:∀b u,h.get? b=some u->h'.get? b=some u)(l:h.objs.size<=a)(hn:H a=none):Un fs ex H (qw H a o) h h' where
 keep:=λb u q _ _ _=>k b u q
 slot:=λb u q _ _ _=>⟨u.slots,k b u q⟩
 free:=λb u q n _=>by rw[pd (aD (aK (ao q) l))];exact n
 there:=λb u q _=>⟨u,k b u q⟩
 tups:=λb xs q=>by rw[pd (qO q hn)];exact q
 frzs:=λb u xs q=>by rw[pd (qO q hn)];exact q
 tbls:=λb ps q=>⟨#[],by rw[pd (qO q hn),q];simp⟩
def Un.write(mu:Mut (H x))(E:e=x∨H e=some (.own x))(k:∀b u,b≠e->h.get? b=some u->h'.get? b=some u)(s:∃u,h'.get? e=some u):Un fs ex H (qw H x o) h h':=by
 have B:∀b,H b=none->b≠x:=λb n z=>by subst z;rw[n]at mu;exact mu
 have hb:∀b,H b=none->b≠e:=λb n z=>by
  subst z;rcases E with r|r
  .exact B b n r
  .rw[n]at r;cases r
 have t:∀b u,H b=some u->¬ Mut (some u)->b≠x:=λb u q nm z=>by subst z;rw[q]at mu;exact nm mu
 refine⟨λb u q n _ _=>k b u (hb b n) q,λb u q n _ _=>⟨u.slots,k b u (hb b n) q⟩,λb u q n _=>by rw[pd (B b n)];exact n,λb u q _=>?_,
  λb G q=>by rw[pd (t b _ q λz=>z)];exact q,λb u G q=>by rw[pd (t b _ q λz=>z)];exact q,λb I q=>⟨#[],by rw[pd (t b _ q λz=>z),q];simp⟩⟩
 by_cases l:b=e
 .subst l;exact s
 .exact⟨u,k b u l q⟩
end
noncomputable def trk(h:Heap)(H:Hp):Δ:=(az h.objs.size).filter λa=>(H a).isSome
def GU(h:Heap)(H:Hp):Heap:=W.hideAll h (trk h H)
def Mn(h:Heap)(H:Hp):(GU h H).objs.size=h.objs.size:=W.hideAll_size _ _
def Sz{h:Heap}{H:Hp}{b:Addr}{o:Obj}(e:h.get? b=some o)(n:H b=none):(GU h H).get? b=some o:=
 W.hideAll_get _ e λl=>by
  have q:(H b).isSome=true:=(aU.mp l).2;rw[n]at q;simp at q
def UJ{h:Heap}{H:Hp}{b:Addr}{o:Obj}(e:(GU h H).get? b=some o):h.get? b=some o/\H b=none:=by
 have l:h.get? b=some o:=W.of_hideAll (trk h H) e;refine⟨l,?_⟩;cases q:H b with
 |none=>rfl
 |some x=>
  have n:b∈trk h H:=aU.mpr ⟨bD.mpr (ao l),by simp[q]⟩
  have z:(GU h H).get? b=none:=W.hideAll_none (trk h H) n;rw[z]at e;cases e
def S5(g h:Heap)(L:Addr):Φ:=(az h.objs.size).filterMap λa=>if a=L∨(g.get? a).isSome=true then none else (h.get? a).map λo=>(a,o)
def sU(g h:Heap)(L d:Addr):Φ:=(S5 g h L).filter λp=>decide (p.1≠d)
structure Mod (K:Ζ)(mg:Str->Υ)(base:Heap):Prop where
 kin:K.In base
 glob:base.Ns kx mg
 blt:∃mb,base.Ns builtinsNs mb/\∀x:Str,x ≠ "__name__" -> mb x=mI x
 nolimit:base.NoLimit
structure Cx where
 prog:ku
 w:ky
 K:Ζ
 mg:Str->Υ
 base:Heap
 A:Around
 N:List Str
 s₀:Shared
 H₀:Hp
 env:Env
 outer:List Env
 stack:List Env
 ex:Δ
 fn:Str->Bool
 calm:Bool
 pn:Φ
 xe:Ψ
def RQ(l:List Env):Δ:=l.filterMap (·.frame)
abbrev Cx.fs(X:Cx):Δ:=RQ X.outer
def Vis(l:kY)(x:Str):Prop:=l.names.lookup x=some .local∨l.names.lookup x=some .cell∨l.names.lookup x=some .free
def VL(l:kY)(x:Str):Prop:=l.names.lookup x=some .local∨l.names.lookup x=some .cell
def abB(env:Env)(h:Heap)(m:Str->Υ)(x:Str)(u:Value):Prop:=
 (env.kindOf x=some .local/\m x=some u)∨((env.kindOf x=some .cell∨env.kindOf x=some .free)/\∃c,env.cells.lookup x=some c/\h.IsCell c (some u))
structure Cx.Ok (X:Cx):Prop where
 mod:Mod X.K X.mg X.base
 kind:X.env.scope.kind = .function
 glob:X.env.globals=kx
 blt:X.env.builtins=builtinsNs
 above:X.s₀.heap.objs.size<=X.env.locals
 inj:∀x y c,X.env.cells.lookup x=some c->X.env.cells.lookup y=some c->x=y
 has:∀x,(X.env.kindOf x=some .cell∨X.env.kindOf x=some .free)->∃c,X.env.cells.lookup x=some c
 cab:∀x c,X.fn x=true->X.env.cells.lookup x=some c->X.s₀.heap.objs.size<=c
 hd:X.calm=true->X.A.handled=none
 frames:X.A.frames=some X.stack
 stk:X.stack=X.outer∨(X.stack=X.env::X.outer/\X.env.frame=some X.env.locals)
 exf:∀b∈X.ex,b≠X.env.locals/\∀x c,X.env.cells.lookup x=some c->c≠b
 bs:∀b o,X.base.get? b=some o->X.s₀.heap.get? b=some o/\X.H₀ b=none
 bsz:X.base.objs.size<=X.s₀.heap.objs.size
 noex:∀b o,X.base.get? b=some o->b∉X.ex
 exfs:∀b∈X.ex,b∉X.fs
 funs:X.s₀.heap.FunFrames X.base X.outer
 frf:∀b∈X.fs,X.H₀ b=none
structure Inv (X:Cx)(oH:Φ)(σ:List (Option V))(H:Hp)(s:Shared):Prop where
 ok:X.Ok
 os:s.os=X.s₀.os
 bare:mQ s.gens
 base:Un X.fs X.ex X.H₀ H X.s₀.heap s.heap
 loc:∃m,s.heap.Ns X.env.locals m/\∀(i:Nat) (x:Str) (v:V),X.N[i]?=some x->σ[i]?=some (some v)->Vis X.env.scope x->∃u,qr v u/\abB X.env s.heap m x u
 cell:∀x c,X.env.cells.lookup x=some c->∃v,s.heap.IsCell c v
 free:H X.env.locals=none
 freeC:∀x c,X.env.cells.lookup x=some c->H c=none
 pin:∀p∈X.pn++oH,s.heap.get? p.1=some p.2/\H p.1=none/\p.1≠X.env.locals/\p.1∉X.fs/\∀v,p.2.data ≠ .cell v
 hok:A7 X.prog X.w H s.heap
 len:σ.length=X.N.length
section
variable {X:Cx}{oH:Φ}{σ:List (Option V)}{H H':Hp}{s:Shared}{h':Heap}
def Cx.Ok.nofr(ok:X.Ok){b:Addr}{o:Obj}(e:X.base.get? b=some o):b∉X.fs:=λhb=>by
 have:=(ok.funs.mem hb).1;rw[e]at this;cases this
theorem Inv.bs(I:Inv X oH σ H s):∀b o,X.base.get? b=some o->s.heap.get? b=some o/\H b=none:=λb o e=>
 ⟨I.base.keep b o (I.ok.bs b o e).1 (I.ok.bs b o e).2 (I.ok.nofr e) (I.ok.noex b o e),I.base.free b o (I.ok.bs b o e).1 (I.ok.bs b o e).2 (I.ok.noex b o e)⟩
def Inv.bk(I:Inv X oH σ H s):∀b o,X.base.get? b=some o->s.heap.get? b=some o:=λb o e=>(I.bs b o e).1
theorem Inv.mod(I:Inv X oH σ H s):Mod X.K X.mg X.base:=I.ok.mod
def Inv.kIn(I:Inv X oH σ H s):X.K.In s.heap:=I.ok.mod.kin.keeps I.bk
theorem Inv.lt(I:Inv X oH σ H s):X.env.locals<s.heap.objs.size:=let ⟨_,hn,_⟩:=I.loc;hn.lt
def Inv.sz(I:Inv X oH σ H s):X.s₀.heap.objs.size<=s.heap.objs.size:=bY I.ok.above (cC I.lt)
def Inv.nofs(I:Inv X oH σ H s){a:Addr}(h:s.heap.objs.size<=a):a∉X.fs:=λhb=>by
 obtain⟨_,o,l,_⟩:=I.ok.funs.mem hb;exact absurd (aK (ao l) (bY I.sz h)) (eK _)
def Inv.cne(I:Inv X oH σ H s):∀x c,X.env.cells.lookup x=some c->c≠X.env.locals:=λx c e z=>by
 obtain⟨v,o,t,hd⟩:=I.cell x c e;obtain⟨m,⟨u,B,E,l,n,_⟩,_⟩:=I.loc;rw[z,l]at t;cases t;rw[n]at hd;cases hd
theorem Inv.funs(I:Inv X oH σ H s):s.heap.FunFrames X.base X.outer:=by
 have all:∀(l:List Env),(∀b∈RQ l,b∈X.fs)->X.s₀.heap.FunFrames X.base l->s.heap.FunFrames X.base l:=by
  intro l
  induction l with
  |nil=>intro _ _;trivial
  |cons env r u=>
   intro hs hl;obtain⟨hk,⟨L,o,n,hn,x,hd⟩,hr⟩:=hl;have t:L∈X.fs:=hs L (by unfold RQ;rw[gX,n];exact ai)
   obtain⟨B,e⟩:=I.base.slot L o x (I.ok.frf L t) t λz=>I.ok.exfs L z t
   exact⟨hk,⟨L,_,n,hn,e,hd⟩,u (λb hb=>hs b (by unfold RQ;rw[gX,n];exact mCo _ hb)) hr⟩
 exact all X.outer (λ_ hb=>hb) I.ok.funs
theorem Inv.stack(I:Inv X oH σ H s):s.heap.FunFrames X.base X.stack:=by
 rcases I.ok.stk with e|⟨e,l⟩
 .rw[e];exact I.funs
 .rw[e];obtain⟨m,hn,_⟩:=I.loc;refine .cons (by rw[I.ok.kind];decide) l hn ?_ I.funs
  exact Heap.get?_none_of_le (bY I.ok.bsz I.ok.above)
def Inv.stkSub(I:Inv X oH σ H s):∀b∈RQ X.stack,b∈X.env.locals::X.fs:=λb hb=>by
 rcases I.ok.stk with e|⟨e,l⟩
 .rw[e]at hb;exact mCo _ hb
 .rw[e]at hb;unfold RQ at hb;rw[gX,l]at hb;exact hb
def Inv.stkFree(I:Inv X oH σ H s):∀b∈RQ X.stack,H b=none:=λb hb=>by
 rcases ae.mp (I.stkSub b hb)with e|hb
 .rw[e];exact I.free
 .obtain⟨_,o,l,_⟩:=I.ok.funs.mem hb;exact I.base.free b o l (I.ok.frf b hb) λz=>I.ok.exfs b z hb
def Inv.step{g':Array GenState}{t':Nat}{d':Drawn}{ch:Δ}(I:Inv X oH σ H s)
  (B:∀b∈ch,(b∈X.ex∨X.s₀.heap.objs.size<=b)/\b≠X.env.locals/\(∀x c,X.env.cells.lookup x=some c->c≠b)/\∀p∈X.pn++oH,p.1≠b)
  (keep:∀b o,b≠X.env.locals->b∉X.fs->b∉ch->s.heap.get? b=some o->H b=none->h'.get? b=some o)
  (slot:∀b o,b≠X.env.locals->b∈X.fs->b∉ch->s.heap.get? b=some o->H b=none->∃sl,h'.get? b=some { o with slots:=sl }) (free:∀b o,b∉ch->s.heap.get? b=some o->H b=none->H' b=none)
  (there:∀b o,b∉ch->s.heap.get? b=some o->∃O,h'.get? b=some O)
  (tups:∀b xs,H b=some (.tup xs)->H' b=some (.tup xs)) (frzs:∀b o u,H b=some (.frz o u)->H' b=some (.frz o u)) (tbls:∀b ps,H b=some (.tbl ps)->∃more,H' b=some (.tbl (ps++more)))
  (ns:∀m,s.heap.Ns X.env.locals m->h'.Ns X.env.locals m) (hok:A7 X.prog X.w H' h') (hg:mQ g') :
  Inv X oH σ H' { s with heap:=h',gens:=g',drawn:=d',toks:=t' }:=by
 have P:∀b o,X.s₀.heap.get? b=some o->b≠X.env.locals:=λb o e=>aD (aK (ao e) I.ok.above)
 have J:∀b o,X.s₀.heap.get? b=some o->b∉X.ex->b∉ch:=λb o e t hb=>by
  rcases(B b hb).1 with z|z
  .exact t z
  .exact absurd (aK (ao e) z) (eK _)
 have E:∀x c,X.env.cells.lookup x=some c->∀v,s.heap.IsCell c v->h'.IsCell c v:=λx c e v ⟨o,M,hd⟩=>by
  have G:c∉ch:=λz=>(B c z).2.2.1 x c e rfl
  by_cases S:c∈X.fs
  .obtain⟨sl,q⟩:=slot c o (I.cne x c e) S G M (I.freeC x c e);exact⟨_,q,hd⟩
  .exact⟨o,keep c o (I.cne x c e) S G M (I.freeC x c e),hd⟩
 refine⟨I.ok,I.os,hg,⟨λb o e n hb t=>?_,λb o e n hb t=>?_,λb o e n t=>?_,λb o e t=>?_,λb xs e=>tups b xs (I.base.tups b xs e),λb o xs e=>frzs b o xs (I.base.frzs b o xs e),λb ps e=>?_⟩,?_,λx c e=>?_,?_,λx c e=>?_,λp U=>?_,hok,I.len⟩
 .exact keep b o (P b o e) hb (J b o e t) (I.base.keep b o e n hb t) (I.base.free b o e n t)
 .obtain⟨sl,L⟩:=I.base.slot b o e n hb t;obtain⟨R,Q⟩:=slot b _ (P b o e) hb (J b o e t) L (I.base.free b o e n t);exact⟨R,Q⟩
 .obtain⟨O,L⟩:=I.base.there b o e t;exact free b O (J b o e t) L (I.base.free b o e n t)
 .obtain⟨O,L⟩:=I.base.there b o e t;exact there b O (J b o e t) L
 .obtain⟨m1,L⟩:=I.base.tbls b ps e;obtain⟨m2,Q⟩:=tbls b _ L;exact⟨m1++m2,by rw[Q,Array.append_assoc]⟩
 .obtain⟨m,hn,hl⟩:=I.loc;refine⟨m,ns m hn,λi x v L Q e3=>?_⟩
  obtain⟨u,r,l⟩:=hl i x v L Q e3;refine⟨u,r,?_⟩;rcases l with l|⟨k,c,e,z⟩
  .exact .inl l
  .exact .inr ⟨k,c,e,E x c e _ z⟩
 .obtain⟨v,z⟩:=I.cell x c e;exact⟨v,E x c e v z⟩
 .obtain⟨m,⟨o,_,_,M,_⟩,_⟩:=I.loc;exact free _ o (λz=>(B _ z).2.1 rfl) M I.free
 .obtain⟨v,o,M,hd⟩:=I.cell x c e;exact free c o (λz=>(B c z).2.2.1 x c e rfl) M (I.freeC x c e)
 .obtain⟨e,n,ne,Y,d⟩:=I.pin p U;have G:p.1∉ch:=λz=>(B p.1 z).2.2.2 p U rfl
  exact⟨keep p.1 p.2 ne Y G e n,free p.1 p.2 G e n,ne,Y,d⟩
def Inv.un{t':Nat}(I:Inv X oH σ H s)(u:Un X.fs [] H H' s.heap h')(hok:A7 X.prog X.w H' h'):Inv X oH σ H' { s with heap:=h',toks:=t' }:=by
 obtain⟨m,⟨o,L,M,B,r⟩,_⟩:=id I.loc;obtain⟨O,E⟩:=u.any B I.free (by simp)
 exact I.step (g':=s.gens) (d':=s.drawn) (ch:=[]) (λ_ z=>nomatch z) (λb o _ hb _ e n=>u.keep b o e n hb (by simp)) (λb o _ hb _ e n=>u.slot b o e n hb (by simp)) (λb o _ e n=>u.free b o e n (by simp)) (λb o _ e=>u.there b o e (by simp)) u.tups u.frzs u.tbls (λP G=>by
  obtain⟨Q,t,x,l,J⟩:=G;rw[B]at l;cases l;exact⟨_,t,x,E,J⟩) hok I.bare
def Inv.call{g':Array GenState}{t':Nat}{d':Drawn}{ch:Δ}(I:Inv X oH σ H s)(u:Un (RQ X.stack) ch H H' s.heap h')(hok:A7 X.prog X.w H' h')(M:mQ g')
  (t:∀b∈ch,(b∈X.ex∨X.s₀.heap.objs.size<=b)/\b≠X.env.locals/\(∀x c,X.env.cells.lookup x=some c->c≠b)/\∀p∈X.pn++oH,p.1≠b) :
  Inv X oH σ H' { s with heap:=h',gens:=g',drawn:=d',toks:=t' }:=by
 obtain⟨m,⟨o,Q,R,L,r⟩,_⟩:=id I.loc;obtain⟨S,E⟩:=u.any L I.free λz=>(t _ z).2.1 rfl
 exact I.step (ch:=ch) t (λb o E hb l e n=>u.keep b o e n (λz=>(ae.mp (I.stkSub b z)).elim E hb) l) (λb o _ _ l e n=>u.any e n l) (λb o l e n=>u.free b o e n l) (λb o l e=>u.there b o e l) u.tups u.frzs u.tbls (λU O=>by
  obtain⟨Y,G,J,B,P⟩:=O;rw[L]at B;cases B;exact⟨_,G,J,E,P⟩) hok M
def Inv.turned{t':Nat}{l:Addr}(I:Inv X oH σ H s)(k:∀b o,b≠l->s.heap.get? b=some o->h'.get? b=some o)(hn:H l=none)(E:l≠X.env.locals)
  (G:l∈X.ex∨X.s₀.heap.objs.size<=l) (J:∀x c,X.env.cells.lookup x=some c->c≠l) (L:∀p∈X.pn++oH,p.1≠l):Inv X oH σ H { s with heap:=h',toks:=t' }:=by
 have B:∀b u,H b=some u->b≠l:=λb u e z=>by rw[z,hn]at e;cases e
 refine I.step (g':=s.gens) (d':=s.drawn) (ch:=[l]) (λb hb=>?_) (λb o _ _ t e _=>k b o (λz=>t (by simp[z])) e) (λb o _ _ t e _=>⟨o.slots,k b o (λz=>t (by simp[z])) e⟩) (λ_ _ _ _ n=>n)
  (λb o t e=>⟨o,k b o (λz=>t (by simp[z])) e⟩) (λ_ _ e=>e) (λ_ _ _ e=>e) (λb R e=>⟨#[],by rw[e];simp⟩) (λm M=>?_) (λb u e=>?_) I.bare
 .have e:b=l:=by simpa using hb
  subst e;exact⟨G,E,J,L⟩
 .obtain⟨o,O,P,Q,r⟩:=M;exact⟨o,O,P,k _ o (Ne.symm E) Q,r⟩
 .refine(I.hok b u e).stay (λc v t q=>k c v ?_ q) (λ_ q=>q) λ_ _ q=>q
  rcases t with z|z
  .rw[z];exact B b u e
  .exact B c _ z
def Inv.tok(I:Inv X oH σ H s)(t:Nat):Inv X oH σ H { s with toks:=t }:=I.un (h':=s.heap) (t':=t) Un.refl I.hok
theorem Inv.kept{t':Nat}(I:Inv X oH σ H s)(k:∀b u,s.heap.get? b=some u->h'.get? b=some u):Inv X oH σ H { s with heap:=h',toks:=t' }:=I.un (Un.kept k) (I.hok.kept k)
theorem Inv.laid{a:Addr}{o:HO}{t':Nat}(I:Inv X oH σ H s)(k:∀b u,s.heap.get? b=some u->h'.get? b=some u)(l:s.heap.objs.size<=a)(new:qR X.prog X.w (qw H a o) h' a o) :
  Inv X oH σ (qw H a o) { s with heap:=h',toks:=t' }:=I.un (Un.laid k l (I.hok.fresh l)) (I.hok.laid k l new)
theorem Inv.write{x e:Addr}{o:HO}{t':Nat}(I:Inv X oH σ H s)(mu:Mut (H x))(n:e=x∨H e=some (.own x))(k:∀b u,b≠e->s.heap.get? b=some u->h'.get? b=some u)(l:∃u,h'.get? e=some u)
  (new:qR X.prog X.w (qw H x o) h' x o):Inv X oH σ (qw H x o) { s with heap:=h',toks:=t' }:=I.un (Un.write mu n k l) (I.hok.write mu n k l new)
def Inv.pins_of{l:Φ}(I:Inv X oH σ H s)(h:∀p∈l,s.heap.get? p.1=some p.2/\H p.1=none/\p.1≠X.env.locals/\p.1∉X.fs/\∀v,p.2.data ≠ .cell v):Inv X l σ H s:=
 ⟨I.ok,I.os,I.bare,I.base,I.loc,I.cell,I.free,I.freeC,λp n=>(mAq.mp n).elim (λz=>I.pin p (ak _ z)) (h p),I.hok,I.len⟩
def HR{N:List Str}(l:N.Nodup){i j:Nat}{x:Str}(a:N[i]?=some x)(b:N[j]?=some x):i=j:=by
 obtain⟨u,n⟩:=gSq.mp a;obtain⟨z,t⟩:=gSq.mp b;exact(List.getElem_inj l).mp (n.trans t.symm)
def Nz{M:Model}{A:Around}{E:Ψ}{i:Nat}{x:Str}{v:V}{u:Value}{Q:Unit->Shared->Prop}(I:Inv X oH σ H s)(hN:X.N.Nodup)(hi:X.N[i]?=some x)(G:VL X.env.scope x)(r:qr v u)
  (h:∀s',Inv X oH (σ.set i (some v)) H s'->(∃a,bZ a s.heap s'.heap/\(a=X.env.locals∨X.env.cells.lookup x=some a))->Q () s') (hf:X.fn x=true∨X.env.scope.names.lookup x=some .local:=by trivial):ki M A (storeName X.env x u) Q E s:=by
 obtain⟨m,hn,hl⟩:=id I.loc;have S:(X.env.scope.kind == .class || (X.env.scope.kind == .module && X.env.locals != X.env.globals))=false:=by rw[I.ok.kind];rfl
 have O:i<σ.length:=by rw[I.len];exact(gSq.mp hi).1
 have cne:=I.cne;have l:∀{a:Addr}{h':Heap},(∃o,s.heap.get? a=some o/\H a=none)->bZ a s.heap h'->A7 X.prog X.w H h':=λ{a h'} ha hs b ob e=>by
  obtain⟨_,_,J⟩:=ha;refine(I.hok b ob e).stay (λc w' B q=>(hs.2 c ?_).trans q) (λ_ q=>q) λ_ _ q=>q
  rintro rfl;rcases B with rfl|B
  .rw[J]at e;cases e
  .rw[J]at B;cases B
 rcases G with hk|hk
 .refine wpAny_storeName_local hk hn (λh' hn' hs=>?_) S
  obtain⟨oL,_,_,hoL,_⟩:=id hn;refine h _ ⟨I.ok,I.os,I.bare,⟨λb o e n hb G=>?_,λb o e n hb G=>?_,I.base.free,λb o e G=>?_,I.base.tups,I.base.frzs,I.base.tbls⟩,⟨_,hn',λj y v' t L e3=>?_⟩,λy c e=>?_,I.free,I.freeC,λp hp=>?_,l ⟨oL,hoL,I.free⟩ hs,by simpa using I.len⟩ ⟨_,hs,.inl rfl⟩
  .exact(hs.2 b (aD (aK (ao e) I.ok.above))).trans (I.base.keep b o e n hb G)
  .obtain⟨sl,t⟩:=I.base.slot b o e n hb G;exact⟨sl,(hs.2 b (aD (aK (ao e) I.ok.above))).trans t⟩
  .obtain⟨o',t⟩:=I.base.there b o e G;exact⟨o',(hs.2 b (aD (aK (ao e) I.ok.above))).trans t⟩
  .by_cases P:j=i
   .subst P;rw[hi]at t;cases t;rw[aN O]at L;cases L;exact⟨u,r,.inl ⟨hk,by simp⟩⟩
   .rw[aG (Ne.symm P)]at L;obtain⟨u',r',q⟩:=hl j y v' t L e3;refine⟨u',r',?_⟩;rcases q with⟨k,e⟩|⟨k,c,e,z⟩
    .refine .inl ⟨k,?_⟩;have:y≠x:=λe=>P (HR hN t (e ▸ hi))
     simp[this,e]
    .exact .inr ⟨k,c,e,z.sameBut hs (cne y c e)⟩
  .obtain⟨w',z⟩:=I.cell y c e;exact⟨w',z.sameBut hs (cne y c e)⟩
  .obtain⟨e,n,ne,nf,d⟩:=I.pin p hp;exact⟨(hs.2 p.1 ne).trans e,n,ne,nf,d⟩
 .have R:X.fn x=true:=by
   rcases hf with z|z
   .exact z
   .rw[z]at hk;cases hk
  obtain⟨c,B⟩:=I.ok.has x (.inl hk);obtain⟨w',z⟩:=I.cell x c B;refine wpAny_storeName_cell I.ok.kind hk B z (λh' U hs=>?_)
  obtain⟨oc,Y,hocd⟩:=id z;refine h { s with heap:=h' } ⟨I.ok,I.os,I.bare,⟨λb o e n hb G=>?_,λb o e n hb G=>?_,I.base.free,λb o e G=>?_,I.base.tups,I.base.frzs,I.base.tbls⟩,⟨m,hn.sameBut hs (Ne.symm (cne x c B)),λj y v' t L e3=>?_⟩,λy c' e=>?_,I.free,I.freeC,λp hp=>?_,l ⟨oc,Y,I.freeC x c B⟩ hs,by simpa using I.len⟩ ⟨c,hs,.inr B⟩
  .exact(hs.2 b (aD (aK (ao e) (I.ok.cab x c R B)))).trans (I.base.keep b o e n hb G)
  .obtain⟨sl,t⟩:=I.base.slot b o e n hb G;exact⟨sl,(hs.2 b (aD (aK (ao e) (I.ok.cab x c R B)))).trans t⟩
  .obtain⟨o',t⟩:=I.base.there b o e G;exact⟨o',(hs.2 b (aD (aK (ao e) (I.ok.cab x c R B)))).trans t⟩
  .by_cases P:j=i
   .subst P;rw[hi]at t;cases t;rw[aN O]at L;cases L;exact⟨u,r,.inr ⟨.inl hk,c,B,U⟩⟩
   .rw[aG (Ne.symm P)]at L;obtain⟨u',r',q⟩:=hl j y v' t L e3;refine⟨u',r',?_⟩;rcases q with q|⟨k,c',e,z'⟩
    .exact .inl q
    .refine .inr ⟨k,c',e,z'.sameBut hs ?_⟩;rintro rfl;exact P (HR hN t (I.ok.inj _ _ _ e B ▸ hi))
  .by_cases hcc:c'=c
   .subst hcc;exact⟨_,U⟩
   .obtain⟨w2,z2⟩:=I.cell y c' e;exact⟨w2,z2.sameBut hs hcc⟩
  .obtain⟨e,n,ne,nf,d⟩:=I.pin p hp;refine⟨(hs.2 p.1 ?_).trans e,n,ne,nf,d⟩;intro q;rw[q,Y]at e;have q':oc=p.2:=aO.inj e;exact d w' (by rw[←q'];exact hocd)
def ID{M:Model}{A:Around}{E:Ψ}{i:Nat}{x:Str}{v:V}{u:Value}{Q:Unit->Shared->Prop}(I:Inv X oH σ H s)(n:X.N.Nodup)(hi:X.N[i]?=some x)(t:VL X.env.scope x)(r:qr v u)
  (h:∀l,Inv X oH (σ.set i (some v)) H l->Q () l) (z:X.fn x=true∨X.env.scope.names.lookup x=some .local:=by trivial):ki M A (storeName X.env x u) Q E s:=
 Nz I n hi t r (λl B _=>h l B) z
def Inv.call'{l:Shared}{ch:Δ}(I:Inv X oH σ H s)(t:l.os=s.os)(u:Un (RQ X.stack) ch H H' s.heap l.heap)(hok:A7 X.prog X.w H' l.heap)(z:mQ l.gens)
  (n:∀b∈ch,(b∈X.ex∨X.s₀.heap.objs.size<=b)/\b≠X.env.locals/\(∀x c,X.env.cells.lookup x=some c->c≠b)/\∀p∈X.pn++oH,p.1≠b):Inv X oH σ H' l:=by
 obtain⟨h',B,E,G,J⟩:=l;have e:J=s.os:=t;subst e;exact I.call (g':=B) (t':=G) (d':=E) u hok z n
end
abbrev XK:=Value->Option Addr->Hp->Prop
abbrev St:=List (Option V)
abbrev VK:=V->Hp->Prop
abbrev TE:=St->Hp->VK->Prop
abbrev TT:=St->Hp->(Bool->Hp->Prop)->Prop
abbrev TA:=St->Hp->(List V->Hp->Prop)->Prop
structure An where
 nx:St->Hp->Prop
 rt:VK
 bk:St->Hp->Prop:=λ_ _=>False
 ct:St->Hp->Prop:=λ_ _=>False
abbrev TS:=An->St->Hp->Prop
def EP(X:Cx)(n:Φ)(σ:St)(Q:VK)(u:Value)(s:Shared):Prop:=∃v l,Inv X n σ l s/\qr v u/\Q v l
def TP(X:Cx)(n:Φ)(σ:St)(Q:Bool->Hp->Prop)(b:Bool)(s:Shared):Prop:=∃l,Inv X n σ l s/\Q b l
def AP(X:Cx)(n:Φ)(σ:St)(Q:List V->Hp->Prop)(s:Ξ)(t:Shared):Prop:=∃vs l,Inv X n σ l t/\qc vs s/\Q vs l
def SP(X:Cx)(s:Φ)(D:An)(f:Flow)(t:Shared):Prop:=
 match f with
 | .next=>∃l n,Inv X s l n t/\D.nx l n
 | .brk=>∃l n,Inv X s l n t/\D.bk l n
 | .cont=>∃l n,Inv X s l n t/\D.ct l n
 | .ret u=>∃v l n,Inv X s l n t/\qr v u/\D.rt v n
def PE(X:Cx)(e:Expr)(t:TE):Prop:=
 ∀(l:Φ) (s:Shared) (σ:St) (H:Hp) (Q:VK),Inv X l σ H s->t σ H Q->ki (kj X.prog X.w) X.A (eval e X.env) (EP X l σ Q) X.xe s
def PT(X:Cx)(e:Expr)(t:TT):Prop:=
 ∀(l:Φ) (s:Shared) (σ:St) (H:Hp) (Q:Bool->Hp->Prop),Inv X l σ H s->t σ H Q->ki (kj X.prog X.w) X.A (ny e X.env (eval e X.env)) (TP X l σ Q) X.xe s
def PW(X:Cx)(e:Expr)(t:TT):Prop:=
 ∀(whole:Sem Value) (l:Φ) (s:Shared) (σ:St) (H:Hp) (Q:Bool->Hp->Prop),Inv X l σ H s->t σ H Q->ki (kj X.prog X.w) X.A (ny e X.env whole) (TP X l σ Q) X.xe s
def PW.pt{X:Cx}{e:Expr}{t:TT}(h:PW X e t):PT X e t:=h _
def PA(X:Cx)(es:List Expr)(t:TA):Prop:=
 ∀(pos:Pos) (l:Φ) (s:Shared) (σ:St) (H:Hp) (Q:List V->Hp->Prop),Inv X l σ H s->t σ H Q->ki (kj X.prog X.w) X.A (spliced (mK pos (kA es X.env))) (AP X l σ Q) X.xe s
def PS(X:Cx)(st:Stmt)(t:TS):Prop:=
 ∀(l:Φ) (s:Shared) (σ:St) (H:Hp) (D:An),Inv X l σ H s->t D σ H->ki (kj X.prog X.w) X.A (exec st X.env) (SP X l D) X.xe s
def Jr(X:Cx)(st:List Stmt)(t:TS):Prop:=
 ∀(l:Φ) (s:Shared) (σ:St) (H:Hp) (D:An),Inv X l σ H s->t D σ H->ki (kj X.prog X.w) X.A (execs st X.env) (SP X l D) X.xe s
def thn{α:Type}{t:Sem α}{Q l:α->Shared->Prop}{M:Model}{A:Around}{E:Ψ}{s:Shared}(h:ki M A t Q E s)(n:∀a s,Q a s->l a s):ki M A t l E s:=kM h n λ_ _ x=>x
section
variable {X:Cx}
def yS(i:Nat):TE:=λσ H Q=>∃v,σ[i]?=some (some v)/\Q v H
def tC(v:V):TE:=λ_ H Q=>Q v H
def V9{i:Nat}{x:Str}{pos:Pos}(B:X.N[i]?=some x)(E:Vis X.env.scope x)(hd:(x == ("__debug__" : Str))=false:=by decide)(t:(x == ("__classdict__" : Str))=false:=by decide):PE X (.Name x pos) (yS i):=by
 intro G s σ H Q I h;obtain⟨v,e,h⟩:=h;obtain⟨m,hn,hl⟩:=I.loc;obtain⟨u,r,l⟩:=hl i x v B e E;have fin:EP X G σ Q u s:=⟨v,H,I,r,h⟩;rcases l with⟨hk,J⟩|⟨hk,c,z,n⟩
 .exact wpAny_Name (wpAny_loadName_local I.ok.kind hk hn J fin) hd
 .rcases hk with hk|hk
  .exact wpAny_Name (wpAny_loadName_cell I.ok.kind hk z n fin) hd
  .exact wpAny_Name (wpAny_loadName_free I.ok.kind hk z n fin t) hd
def oU{i j pos}:PE X (.Constant (.int i) j pos) (tC (.int i)):=λ_ _ _ H _ I h=>wpAny_Constant_int ⟨.int i,H,I.tok _,⟨_,rfl⟩,h⟩
def Ro{b j pos}:PE X (.Constant (.bool b) j pos) (tC (.bl b)):=λ_ _ _ H _ I h=>Constant_bool ⟨.bl b,H,I,rfl,h⟩
def Wj{j pos}:PE X (.Constant .none j pos) (tC .non):=λ_ _ _ H _ I h=>Constant_none ⟨.non,H,I,rfl,h⟩
def Kc{x j pos}:PE X (.Constant (.str x) j pos) (tC (.str x)):=λ_ _ _ H _ I h=>Calls.Constant_str ⟨.str x,H,I.tok _,⟨_,rfl⟩,h⟩
def Gl(X:Cx)(x:Str):Prop:=X.env.kindOf x=some .globalImplicit
def Ub{E:Ψ}{l:Φ}{s:Shared}{σ:St}{H:Hp}{x:Str}{u:Value}{pos:Pos}{Q:Ψ}(I:Inv X l σ H s)(n:Gl X x)(t:X.mg x=some u)(h:Q u s)
  (hd:(x == ("__debug__" : Str))=false:=by decide):ki (kj X.prog X.w) X.A (eval (.Name x pos) X.env) Q E s:=
 Calls.Name_function_global I.ok.kind n (Calls.loadGlobal_global (by rw[I.ok.glob];exact I.mod.glob.keeps I.bk) t h) hd
def xk{E:Ψ}{l:Φ}{s:Shared}{σ:St}{H:Hp}{x:Str}{u:Value}{pos:Pos}{Q:Ψ}(I:Inv X l σ H s)(n:Gl X x)(t:X.mg x=none)(z:mI x=some u)(h:Q u s)
  (hn:x ≠ "__name__" := by decide) (hd:(x == ("__debug__" : Str))=false:=by decide):ki (kj X.prog X.w) X.A (eval (.Name x pos) X.env) Q E s:=by
 obtain⟨J,B,G⟩:=I.mod.blt;exact Calls.Name_function_global I.ok.kind n (Calls.loadGlobal_builtin (by rw[I.ok.glob];exact I.mod.glob.keeps I.bk) t (by rw[I.ok.blt];exact B.keeps I.bk) ((G x hn).trans z) h) hd
def TV{x:Str}{v:V}{u:Value}{pos:Pos}(l:Gl X x)(n:X.mg x=none)(s:mI x=some u)(r:qr v u)(hn:x ≠ "__name__" := by decide)(hd:(x == ("__debug__" : Str))=false:=by decide):PE X (.Name x pos) (tC v):=
 λ_ _ _ H _ I h=>xk I l n s ⟨v,H,I,r,h⟩ hn hd
variable {a b:Expr}{ta tb:TE}{pos:Pos}
def PC(X:Cx)(op:CmpOp)(a b:Expr)(t:TE):Prop:=
 ∀(x:Φ) (s:Shared) (σ:St) (H:Hp) (Q:VK),Inv X x σ H s->t σ H Q ->
  ki (kj X.prog X.w) X.A (eval a X.env) (λv l=>ki (kj X.prog X.w) X.A (eval b X.env) (λu n=>ki (kj X.prog X.w) X.A (kG op v u) (EP X x σ Q) X.xe n) X.xe l) X.xe s
def tB(t:TE):TT:=λσ H Q=>t σ H λx l=>∃c,x = .bl c/\Q c l
def KU{op:CmpOp}{t:TE}(h:PC X op a b t)(n:mC op b=false:=by first|exact l _ (by decide) (by decide)|rfl):PT X (.Compare a [op] [b] pos) (tB t):=by
 intro z s σ H Q I hw;refine nH (thn (h z s σ H _ I hw) λv M n=>thn n λu O B=>thn B λc P ⟨x,E,G,J,L⟩=>?_) n
 obtain⟨d,rfl,q⟩:=L;cases J;exact kF ⟨E,G,q⟩
def GA{e:Expr}{t:TE}(h:PE X e t)(l:∀whole,ny e X.env whole=(do let v ←whole;standAt e.pos;holding [v] (truthy v)):=by intro _;rfl):PT X e (tB t):=by
 intro n s σ H Q I hw;refine isTrue_plain (thn (h n s σ H _ I hw) λv G ⟨x,u,z,B,E⟩=>?_) (l _)
 obtain⟨d,rfl,q⟩:=E;cases B;exact kF ⟨u,z,q⟩
variable {tA tB':TT}{sU:List Expr}
def aaa(t u:TT):TT:=λσ H Q=>t σ H λc l=>if c=true then u σ l Q else Q false l
def tOr(t u:TT):TT:=λσ H Q=>t σ H λc l=>if c=true then Q true l else u σ l Q
def aao(t:TT):TT:=λσ H Q=>t σ H λc l=>Q (!c) l
def GI(ha:PT X a tA):PW X (.BoolOp .And [a] pos) tA:=by
 intro n l s σ H Q I h;refine isTrue_and (thn (ha l s σ H Q I h) λc t e=>?_)
 cases c with
 |true=>exact isTrue_and_nil e
 |false=>exact e
def Sx(ha:PT X a tA):PW X (.BoolOp .Or [a] pos) tA:=by
 intro n l s σ H Q I h;refine isTrue_or (thn (ha l s σ H Q I h) λc t e=>?_)
 cases c with
 |false=>exact isTrue_or_nil e
 |true=>exact e
def JE(ha:PT X a tA)(hb:PW X (.BoolOp .And (b::sU) pos) tB'):PW X (.BoolOp .And (a::b::sU) pos) (aaa tA tB'):=by
 intro x l s σ H Q I h;refine isTrue_and (thn (ha l s σ H _ I h) λc z ⟨n,t,u⟩=>?_)
 cases c with
 |true=>exact hb x l z σ n Q t u
 |false=>exact⟨n,t,u⟩
def VH(ha:PT X a tA)(hb:PW X (.BoolOp .Or (b::sU) pos) tB'):PW X (.BoolOp .Or (a::b::sU) pos) (tOr tA tB'):=by
 intro x l s σ H Q I h;refine isTrue_or (thn (ha l s σ H _ I h) λc z ⟨n,t,u⟩=>?_)
 cases c with
 |true=>exact⟨n,t,u⟩
 |false=>exact hb x l z σ n Q t u
def Kt(ha:PT X a tA):PT X (.UnaryOp .Not a pos) (aao tA):=by
 intro l s σ H Q I h;exact isTrue_not (ha l s σ H (λc n=>Q (!c) n) I h)
def VF(ta tb:TE):TE:=λσ H Q=>ta σ H λx l=>∃c,x = .bl c/\if c=true then tb σ l Q else Q (.bl false) l
def Zq(ta tb:TE):TE:=λσ H Q=>ta σ H λx l=>∃c,x = .bl c/\if c=true then Q (.bl true) l else tb σ l Q
def VG(ta:TE):TE:=λσ H Q=>ta σ H λx l=>∃c,x = .bl c/\Q (.bl (!c)) l
def Kg{op}{t:TE}(h:PE X a t):PE X (.BoolOp op [a] pos) t:=λl s σ H Q I hw=>BoolOp_one (h l s σ H Q I hw)
def W0(ha:PE X a ta)(hb:PE X (.BoolOp .And (b::sU) pos) tb):PE X (.BoolOp .And (a::b::sU) pos) (VF ta tb):=by
 intro n s σ H Q I h;refine BoolOp_and (thn (ha n s σ H _ I h) λv z ⟨x,t,u,B,l⟩=>?_)
 obtain⟨c,rfl,l⟩:=l;cases B;refine kF ?_;cases c with
 |true=>exact hb n z σ t Q u l
 |false=>exact⟨.bl false,t,u,rfl,l⟩
def aat(ha:PE X a ta)(hb:PE X (.BoolOp .Or (b::sU) pos) tb):PE X (.BoolOp .Or (a::b::sU) pos) (Zq ta tb):=by
 intro n s σ H Q I h;refine BoolOp_or (thn (ha n s σ H _ I h) λv z ⟨x,t,u,B,l⟩=>?_)
 obtain⟨c,rfl,l⟩:=l;cases B;refine kF ?_;cases c with
 |false=>exact hb n z σ t Q u l
 |true=>exact⟨.bl true,t,u,rfl,l⟩
def Yx(ha:PE X a ta):PE X (.UnaryOp .Not a pos) (VG ta):=by
 intro n s σ H Q I h;refine UnaryOp_ (thn (ha n s σ H _ I h) λv B ⟨x,t,u,z,l⟩=>?_)
 obtain⟨c,rfl,l⟩:=l;cases z;exact not_of (kF ⟨.bl (!c),t,u,rfl,l⟩)
end
def rJ(K:Ζ)(H:Hp)(a:Addr)(xs:List V):Prop:=
 Rd H a (.lst xs) ∨
  ∃(o:Obj) (l:Ω) (n:Nat),K.lookup a=some o/\o.cls = .type "list" /\ o.dict=none/\o.data = .seq l n/\l.size<=kr/\qc xs l.toList
def C5(K:Ζ)(H:Hp)(a:Addr)(xs:List V):Prop:=
 Rd H a (.tup xs) ∨
  ∃(o:Obj) (l:Ω) (n:Nat),K.lookup a=some o/\o.cls = .type "tuple" /\ o.data = .seq l n/\l.size<=kr/\qc xs l.toList
def abm:Value->Option V
 | .none=>some .non
 | .bool b=>some (.bl b)
 | .int i _=>some (.int i)
 | .str x _=>some (.str x)
 | .bytes b _=>some (.byt b)
 | .float b _=>some (.flt b)
 | .ref a=>some (.ref a)
 | .type n=>some (.ty n)
 |_=>none
def qr.abs{x:V}{u:Value}(r:qr x u):abm u=some x:=by
 cases x with
 |non=>cases r;rfl
 |bl _=>cases r;rfl
 |int _=>obtain⟨t,rfl⟩:=r;rfl
 |str _=>obtain⟨t,rfl⟩:=r;rfl
 |byt _=>obtain⟨t,rfl⟩:=r;rfl
 |flt _=>obtain⟨t,rfl⟩:=r;rfl
 |ref _=>cases r;rfl
 |ty _=>cases r;rfl
theorem qr.inj{x y:V}{u:Value}(r:qr x u)(q:qr y u):x=y:=aO.inj (r.abs.symm.trans q.abs)
theorem qc.inj:∀{xs ys:List V}{l:Ξ},qc xs l->qc ys l->xs=ys
 |_,_,_,.nil,.nil=>rfl
 |_,_,_,.cons r t,.cons n s=>by rw[r.inj n,qc.inj t s]
section
variable {X:Cx}{oH:Φ}{σ:St}{H:Hp}{s:Shared}{a:Addr}{xs ys:List V}
def rJ.of{K:Ζ}(h:H a=some (.lst xs)):rJ K H a xs:=.inl (.inl h)
def C5.of{K:Ζ}(h:H a=some (.tup xs)):C5 K H a xs:=.inl (.inl h)
def Inv.list(I:Inv X oH σ H s)(h:rJ X.K H a xs):∃l:Ξ,qc xs l/\PlainL s.heap a l.toArray/\xs.length<=kr:=by
 rcases h with h|⟨o,l,n,hk,t,hd,hs,u,r⟩
 .obtain⟨z,l,n,r,e⟩:=h.ok I.hok;exact⟨l,r,⟨_,n,e,rfl,rfl,rfl⟩,z⟩
 .refine⟨l.toList,r,⟨o,n,I.kIn a o hk,t,hd,by simpa using hs⟩,?_⟩
  have e:=r.length;simp only[aq]at e;lia
def Inv.tuple(I:Inv X oH σ H s)(h:C5 X.K H a xs):∃l:Ξ,qc xs l/\IsTup s.heap a l.toArray/\xs.length<=kr:=by
 rcases h with h|⟨o,l,n,hk,t,hs,u,r⟩
 .obtain⟨z,l,r,p⟩:=h.ok I.hok;exact⟨l,r,p,z⟩
 .refine⟨l.toList,r,⟨o,I.kIn a o hk,t,n,by simpa using hs⟩,?_⟩
  have e:=r.length;simp only[aq]at e;lia
def Inv.list_inj(I:Inv X oH σ H s)(h:rJ X.K H a xs)(h':rJ X.K H a ys):xs=ys:=by
 obtain⟨t,r,⟨o,n,e,_,_,d⟩,_⟩:=I.list h;obtain⟨l,z,⟨E,G,u,_,_,x⟩,_⟩:=I.list h';rw[e]at u;cases u;rw[d]at x;injection x with B _
 have:t=l:=by simpa using congrArg Array.toList B
 subst this;exact r.inj z
end
abbrev Cx.wish(X:Cx)(E:Ψ):Cx:={ X with xe:=E }
abbrev Cx.nox(X:Cx):Cx:=X.wish λ_ _=>False
theorem Cx.Ok.wish{X:Cx}(ok:X.Ok)(E:Ψ):(X.wish E).Ok:=
 ⟨ok.mod,ok.kind,ok.glob,ok.blt,ok.above,ok.inj,ok.has,ok.cab,ok.hd,ok.frames,ok.stk,ok.exf,ok.bs,ok.bsz,ok.noex,ok.exfs,ok.funs,ok.frf⟩
def Cx.Ok.unwish{X:Cx}{E:Ψ}(ok:(X.wish E).Ok):X.Ok:=
 ⟨ok.mod,ok.kind,ok.glob,ok.blt,ok.above,ok.inj,ok.has,ok.cab,ok.hd,ok.frames,ok.stk,ok.exf,ok.bs,ok.bsz,ok.noex,ok.exfs,ok.funs,ok.frf⟩
section
variable {X:Cx}{oH:Φ}{σ:St}{H:Hp}{s:Shared}{E:Ψ}
theorem Inv.wish(I:Inv X oH σ H s)(E:Ψ):Inv (X.wish E) oH σ H s:=⟨I.ok.wish E,I.os,I.bare,I.base,I.loc,I.cell,I.free,I.freeC,I.pin,I.hok,I.len⟩
theorem Inv.unwish(I:Inv (X.wish E) oH σ H s):Inv X oH σ H s:=⟨I.ok.unwish,I.os,I.bare,I.base,I.loc,I.cell,I.free,I.freeC,I.pin,I.hok,I.len⟩
theorem SP.unwish{D:An}{f:Flow}{t:Shared}(h:SP (X.wish E) oH D f t):SP X oH D f t:=by
 cases f with
 |next=>obtain⟨l,n,I,q⟩:=h;exact⟨l,n,I.unwish,q⟩
 |brk=>obtain⟨l,n,I,q⟩:=h;exact⟨l,n,I.unwish,q⟩
 |cont=>obtain⟨l,n,I,q⟩:=h;exact⟨l,n,I.unwish,q⟩
 |ret u=>obtain⟨v,l,n,I,r,q⟩:=h;exact⟨v,l,n,I.unwish,r,q⟩
theorem Jr.nox{st:List Stmt}{t:TS}(h:Jr X.nox st t):Jr X st t:=λoH s σ H D I hw=>
 kM (h oH s σ H D (I.wish _) hw) (λ_ _ q=>q.unwish) λ_ _ z=>False.elim z
end
section
variable {X:Cx}{st:Stmt}{sU:List Stmt}{t u:TS}{e:Expr}{te:TE}{pos:Pos}
def VJ:TS:=λD σ H=>D.nx σ H
def Se(t u:TS):TS:=λD σ H=>t { D with nx:=u D } σ H
def uT:Jr X [] VJ:=λ_ _ σ H _ I h=>mR ⟨σ,H,I,h⟩
def oM(x:PS X st t)(z:Jr X sU u):Jr X (st::sU) (Se t u):=by
 intro n s σ H D I h;refine wpAny_execs_cons (thn (x n s σ H { D with nx:=u D } I h) λf B q=>?_)
 cases f with
 |next=>
  obtain⟨l,E,G,q⟩:=q;exact z n B l E D G q
 |ret v=>exact q
 |brk=>exact q
 |cont=>exact q
def pD(l:PS X st t):Jr X [st] t:=by
 intro n s σ H D I h;refine wpAny_execs_cons (thn (l n s σ H D I h) λf x q=>?_)
 cases f with
 |next=>exact mR q
 |ret v=>exact q
 |brk=>exact q
 |cont=>exact q
def Inv.quiet{l:Φ}{σ:St}{H:Hp}{s:Shared}(I:Inv X l σ H s):interactive X.env=false:=by simp[interactive,I.ok.kind]
def Be(te:TE):TS:=λD σ H=>te σ H λ_ l=>D.nx σ l
def rW(l:PE X e te)(hs:mZ e none pos.line X.env=pure false:=by rfl):PS X (.Expr e pos) (Be te):=by
 intro n s σ H D I h;exact wpAny_Expr_any (thn (l n s σ H _ I h) λv G ⟨x,z,B,J,E⟩=>⟨σ,z,B,E⟩) I.quiet hs
def aai(te:TE):TS:=λD σ H=>te σ H D.rt
def wA(l:PE X e te):PS X (.Return (some e) pos) (aai te):=by
 intro n s σ H D I h;exact wpAny_Return_some (thn (l n s σ H _ I h) λv J ⟨x,z,B,E,G⟩=>⟨x,σ,z,B,E,G⟩)
def Tf(c:TT)(t u:TS):TS:=λD σ H=>c σ H λb l=>if b=true then t D σ l else u D σ l
def wV{c:Expr}{a b:List Stmt}{n:TT}(G:PT X c n)(ha:Jr X a t)(hb:Jr X b u):PS X (.If c a b pos) (Tf n t u):=by
 intro l s σ H D I h;refine wpAny_If (thn (G l s σ H _ I h) λd x ⟨z,B,E⟩=>?_)
 cases d with
 |true=>exact ha l x σ z D B E
 |false=>exact hb l x σ z D B E
def RH:TS:=λ_ _ _=>False
def Sr:PS X st RH:=λ_ _ _ _ _ _ h=>h.elim
end
abbrev TG:=V->St->Hp->(St->Hp->Prop)->Prop
abbrev YG:=List V->St->Hp->(St->Hp->Prop)->Prop
def PG(X:Cx)(l:Expr)(t:TG):Prop:=
 ∀(x:Φ) (s:Shared) (σ:St) (H:Hp) (v:V) (u:Value) (Q:St->Hp->Prop),Inv X x σ H s->qr v u->t v σ H Q ->
  ki (kj X.prog X.w) X.A (nc l X.env u) (λ_ B=>∃n z,Inv X x n z B/\Q n z) X.xe s
def ZA(X:Cx)(z:List Expr)(t:YG):Prop:=
 ∀(n:Φ) (s:Shared) (σ:St) (H:Hp) (vs:List V) (u:Ξ) (Q:St->Hp->Prop),Inv X n σ H s->qc vs u->t vs σ H Q ->
  ki (kj X.prog X.w) X.A (assignInOrder ((ni z X.env).map (·.2)) u) (λ_ B=>∃l x,Inv X n l x B/\Q l x) X.xe s
section
variable {X:Cx}{pos:Pos}
def rE(i:Nat):TG:=λv σ H Q=>Q (σ.set i (some v)) H
def Ai{i:Nat}{x:Str}(l:X.N.Nodup)(hi:X.N[i]?=some x)(n:VL X.env.scope x)(t:X.fn x=true∨X.env.scope.names.lookup x=some .local:=by trivial):PG X (.Name x pos) (rE i):=by
 intro B s σ H v u Q I r h;exact wpAny_assign_Name (ID I l hi n r (λE z=>⟨_,H,z,h⟩) t)
noncomputable def N6:YG:=λvs σ H Q=>vs=[]/\Q σ H
def yZ(t:TG)(u:YG):YG:=λvs σ H Q=>∃v r,vs=v::r/\t v σ H λl n=>u r l n Q
def Gb:ZA X [] N6:=by
 intro l s σ H n t Q I r h;obtain⟨e,h⟩:=h;subst e;cases r;exact assignInOrder_nil ⟨σ,H,I,h⟩
def zr{e:Expr}{es:List Expr}{t:TG}{u:YG}(x:PG X e t)(z:ZA X es u)
  (hs:(ni (e::es) X.env).map (·.2)=nc e X.env::(ni es X.env).map (·.2):=by rfl):ZA X (e::es) (yZ t u):=by
 intro n s σ H O P Q I r h;obtain⟨v,R,B,h⟩:=h;subst B;cases r with
 |cons r E=>
  rw[hs];refine assignInOrder_cons (thn (x n s σ H _ _ _ I r h) λ_ G ⟨l,J,L,M⟩=>?_)
  exact z n G l J _ _ Q L E M
def M7(K:Ζ)(n:Nat)(t:YG):TG:=λv σ H Q=>∃a xs,v = .ref a/\C5 K H a xs/\xs.length=n/\t xs σ H Q
def JX{es:List Expr}{k:Nat}{t:YG}{n:Nat}(B:X.calm=true)(h:ZA X es t)
  (hn:(ni es X.env).length=n:=by rfl) (l:(ni es X.env).findIdx? (·.1)=none:=by rfl):PG X (.Tuple es k pos) (M7 X.K n t):=by
 intro x s σ H v u Q I r hw;obtain⟨a,E,G,J,hl,hw⟩:=hw;subst G;cases r;obtain⟨L,z,ht,R⟩:=I.tuple J;refine assign_Tuple_tuple (I.ok.hd B) ht (by simp[hn,←hl,z.length]) l λM O=>?_
 have P:Inv X x σ H { s with heap:=M }:=I.kept (t':=s.toks) λb o e=>O b o (aD (ao e)) e
 exact h x _ σ H E _ Q P (by simpa using z) hw
def EG(te:TE)(g:TG):TS:=λD σ H=>te σ H λx l=>g x σ l D.nx
def YK{i:Nat}{x:Str}{e:Expr}{te:TE}{l:Pos}(n:X.N.Nodup)(hi:X.N[i]?=some x)(t:VL X.env.scope x)(u:PE X e te)(hs:mZ e (some (.Name x l)) pos.line X.env=pure false:=by rfl)(z:X.fn x=true∨X.env.scope.names.lookup x=some .local:=by trivial) :
  PS X (.Assign [.Name x l] e pos) (EG te (rE i)):=by
 intro B s σ H D I h;refine wpAny_Assign_Name (thn (u B s σ H _ I h) λv O ⟨y,E,G,J,L⟩=>?_) hs
 exact ID G n hi t J (λP M=>⟨_,E,M,L⟩) z
end
section
variable {X:Cx}{pos:Pos}
def O9(c:TT)(tb:TS):TS:=λD σ H=>∃W:Nat->St->Hp->Prop,(∃m,W m σ H)/\∀m σ H,W m σ H ->
 c σ H λb n=>if b=true then ∃N:St->Hp->Prop,(∀l s,N l s->∃t,t<m/\W t l s)/\tb { D with nx:=N,ct:=N,bk:=D.nx } σ n else D.nx σ n
def DQ{c:Expr}{body:List Stmt}{P:TT}{tb:TS}(Q:PassesOwn (kj X.prog X.w) X.A X.env X.xe)(hc:PT X c P)(hb:Jr X body tb):PS X (.While c body [] pos) (O9 P tb):=by
 intro E s σ H D I h;obtain⟨W,⟨m0,w0⟩,turn⟩:=h;refine wpAny_While (codeAny_whileLoop (λn s'=>∃u R,Inv X E u R s'/\W n u R) ?_ m0 ⟨σ,H,I,w0⟩)
 rintro n s1 ⟨t,S,I1,w1⟩;refine lg Q (thn (hc E s1 t S _ I1 (turn n t S w1)) λb s2 ⟨U,Y,z⟩=>?_)
 cases b with
 |true=>
  obtain⟨N,hN,z⟩:=z;rw[pH rfl];refine lg Q (thn (hb E s2 t U _ Y z) λf s3 B=>?_)
  cases f with
  |next=>
   obtain⟨l,x,G,J⟩:=B;obtain⟨L,M,O⟩:=hN l x J;exact⟨L,M,l,x,G,O⟩
  |cont=>
   obtain⟨l,x,G,J⟩:=B;obtain⟨L,M,O⟩:=hN l x J;exact⟨L,M,l,x,G,O⟩
  |brk=>exact B
  |ret v=>exact B
 |false=>
  rw[pE aJ];exact mR ⟨t,U,Y,z⟩
end
structure It where
 go:Nat->Hp->Prop
 yld:Nat->Hp->V->Hp->Prop
 stop:Nat->Hp->Prop
def Am(X:Cx)(l:Φ)(H:Hp)(b:Addr):Prop:=
 H b=none/\b≠X.env.locals/\b∉X.fs/\(b∈X.ex∨X.s₀.heap.objs.size<=b)/\(∀x c,X.env.cells.lookup x=some c->c≠b)/\∀p∈X.pn++l,p.1≠b
def Inv.fpOk{X:Cx}{l:Φ}{σ:St}{H n:Hp}{s:Shared}{b:Addr}(I:Inv X l σ H s)(hb:s.heap.objs.size<=b)(hn:n b=none):Am X l n b:=by
 refine⟨hn,eI (aK I.lt hb),I.nofs hb,.inr (bY I.sz hb),λx c e z=>?_,λp t z=>?_⟩
 .obtain⟨v,q⟩:=I.cell x c e;exact absurd (aK q.lt (by rw[z];exact hb)) (eK _)
 .exact absurd (aK (ao (I.pin p t).1) (by rw[z];exact hb)) (eK _)
structure Hg (P:ku)(w:ky)(K:Ζ)(tg:Expr)(J:It)(fp:Δ)(it:Addr)(tn:Nat->Heap->Prop):Prop where
 mem:it∈fp
 obj:∀i h,tn i h->∀b∈fp,∃o,h.get? b=some o/\∀v,o.data ≠ .cell v
 keep:∀i h h',tn i h->(∀b∈fp,∀o,h.get? b=some o->h'.get? b=some o)->tn i h'
 item:∀(X:Cx),X.prog=P->X.w=w->X.K=K->X.calm=true->∀(i:Nat) (oH:Φ) (s:Shared) (σ:St) (H:Hp) (E:Ψ),Inv X oH σ H s->(∀b∈fp,Am X oH H b)->tn i s.heap->J.go i H ->
  ki (kj P w) X.A (mD (.ref it)) (λr s1=>∃u,r=some u /\
   ki (kj P w) X.A (mS tg (.ref it) u) (λ_ s2=>∃x H',Inv X oH σ H' s2/\qr x u/\J.yld i H x H'/\tn (i+1) s2.heap/\∀b∈fp,H' b=none) E s1) E s
 done:∀(X:Cx),X.prog=P->X.w=w->X.K=K->X.calm=true->∀(i:Nat) (oH:Φ) (s:Shared) (σ:St) (H:Hp) (E:Ψ),Inv X oH σ H s->(∀b∈fp,Am X oH H b)->tn i s.heap->J.stop i H ->
  ki (kj P w) X.A (mD (.ref it)) (λr s1=>r=none/\Inv X oH σ H s1) E s
 self:∀(A:Around) (i:Nat) (s:Shared) (Q:Ψ) (E:Ψ),tn i s.heap->Q (.ref it) s->ki (kj P w) A (pyIter (.ref it)) Q E s
abbrev TI:=St->Hp->(It->Hp->Prop)->Prop
def PIE(X:Cx)(s:Φ)(σ:St)(tg:Expr)(R:It->Hp->Prop)(l:Value)(s2:Shared):Prop:=
 ∃(t:Addr) (fp:Δ) (u:Nat->Heap->Prop) (J:It) (n:Hp),l = .ref t/\Inv X s σ n s2/\Hg X.prog X.w X.K tg J fp t u/\u 0 s2.heap/\(∀b∈fp,Am X s n b)/\R J n
def PI(X:Cx)(tg iter:Expr)(n:TI):Prop:=
 ∀(l:Φ) (s:Shared) (σ:St) (H:Hp) (R:It->Hp->Prop),Inv X l σ H s->n σ H R ->
  ki (kj X.prog X.w) X.A (eval iter X.env) (λv s1=>ki (kj X.prog X.w) X.A (pyIter v) (PIE X l σ tg R) X.xe s1) X.xe s
def QI{M:Model}{A:Around}{E:Ψ}{s:Shared}{tg:Expr}{t:Addr}{u:Value}{o:Obj}{n:String}{vs:Ω}{Q:Unit->Shared->Prop}(x:s.heap.get? t=some o)(z:o.cls = .type n)(hd:o.data = .fields vs)
    (hn:["enumerate","zip","dict_itemiterator","dict_reverseitemiterator","odict_iterator","itertools.zip_longest","itertools.pairwise"].contains n=false) (l:Q () s):ki M A (mS tg (.ref t) u) Q E s:=by
  unfold mS;cases tg <;> first
    |exact kf l
    | (cases u <;> first
        |exact kf l
        | (refine jZ (wpAny_load x ?_)
           rw[z,hd];show ki M A (if (["enumerate","zip","dict_itemiterator","dict_reverseitemiterator","odict_iterator","itertools.zip_longest","itertools.pairwise"].contains n && vs[0]? == some (kE _))=true then _ else _) Q E s
           rw[pE (by intro h;rw[hn,jx]at h;cases h)]
           exact kf l))
noncomputable def ZG(K:Ζ)(a:Addr):It:=
 ⟨λi H=>∃xs x,rJ K H a xs/\xs[i]?=some x,λi H x l=>l=H/\∀xs,rJ K H a xs->xs[i]?=some x,λi H=>∃xs,rJ K H a xs/\xs.length<=i⟩
noncomputable def T6(lo:Int)(n:Nat):It:=⟨λi _=>i<n,λi H x l=>l=H/\x = .int (lo+i),λi _=>n<=i⟩
def Nr{P:ku}{w:ky}{K:Ζ}{tg:Expr}(a l:Addr):Hg P w K tg (ZG K a) [l] l (λi h=>h.IsListIter l a i) where
 mem:=by simp
 obj:=λi h st b hb=>by
  have e:b=l:=by simpa using hb
  subst e;obtain⟨o,e,c,d⟩:=st;exact⟨o,e,λv z=>by rw[d]at z;cases z⟩
 keep:=λi h h' st k=>st.at λo e=>k l (by simp) o e
 item:=by
  intro X G hw J hc i oH s σ H E I t st L;subst G hw J;obtain⟨xs,x,B,M⟩:=L;obtain⟨O,Q,p,hz⟩:=I.list B;obtain⟨u,hu,ru⟩:=Q.get M;obtain⟨R,S,f2,U,Y,f5⟩:=t l (by simp)
  refine wpAny_pyNext_list_item st p.isList (x:=u) (by simpa using hu) λh' n sb=>?_
  have I1:Inv X oH σ H { s with heap:=h' }:=I.turned (t':=s.toks) (λb o hb e=>(sb.2 b hb).trans e) R S U Y f5
  obtain⟨o,e,c,d⟩:=id n;exact⟨u,rfl,QI (s:={ s with heap:=h' }) e c d (by decide) ⟨x,H,I1,ru,⟨rfl,λys hy=>by rw[I.list_inj hy B];exact M⟩,n,λb hb=>(t b hb).1⟩⟩
 done:=by
  intro X G hw J hc i oH s σ H E I t st L;subst G hw J;obtain⟨xs,B,M⟩:=L;obtain⟨O,Q,p,hz⟩:=I.list B;obtain⟨R,S,f2,U,Y,f5⟩:=t l (by simp)
  have hl:=Q.length;exact wpAny_pyNext_list_end (I.ok.hd hc) st p.isList (by simp;lia) λh' eb=>⟨rfl,I.turned (t':=s.toks) (λb o hb e=>eb b o hb e) R S U Y f5⟩
 self:=λ_ _ _ _ _ st h=>wpAny_pyIter_listiter st h
def JB{P:ku}{w:ky}{K:Ζ}{tg:Expr}(l:Addr)(lo:Int)(n:Nat):Hg P w K tg (T6 lo n) [l] l (λi h=>IsRangeIter h l (lo+(i:Nat)*1) ((n:Int)-(i:Nat)) 1) where
 mem:=by simp
 obj:=λi h st b hb=>by
  have e:b=l:=by simpa using hb
  subst e;exact⟨_,st,λv z=>by
   have z':Data.fields _=Data.cell v:=z;cases z'⟩
 keep:=λi h h' st k=>k l (by simp) _ st
 item:=by
  intro X B hw G J i U s σ H E I x st L;subst B hw G;obtain⟨M,O,f2,Q,R,S⟩:=x l (by simp)
  have W:=Walks.range (prog:=X.prog) (w:=X.w) (I.ok.hd J) l lo 1 n;refine W.item i s _ _ L st λv h' Y hv u kk=>?_
  obtain⟨t,rfl⟩:=hv;have I1:Inv X U σ H { s with heap:=h',toks:=Y }:=I.turned (λb o hb e=>kk b o (by simpa using hb) e) M O Q R S
  refine⟨_,rfl,QI (s:={ s with heap:=h',toks:=Y }) (n:= "range_iterator") u rfl rfl (by decide) ⟨.int (lo+i),H,I1,⟨t,?_⟩,⟨rfl,rfl⟩,u,λb hb=>(x b hb).1⟩⟩
  rw[iP]
 done:=by
  intro X B hw G J i U s σ H E I x st L;subst B hw G;obtain⟨M,O,f2,Q,R,S⟩:=x l (by simp)
  exact wpAny_pyNext_range_end (I.ok.hd J) st (by have:n<=i:=L;lia) λh' eb=>⟨rfl,I.turned (t':=s.toks) (λb o hb e=>eb b o hb e) M O Q R S⟩
 self:=λ_ _ _ _ _ st h=>wpAny_pyIter_rangeiter st h
section
variable {X:Cx}{tg:Expr}
def RE(K:Ζ)(tl:TE):TI:=λσ H R=>tl σ H λx l=>∃a,x = .ref a/\(∃xs,rJ K l a xs)/\R (ZG K a) l
def ti{l:Expr}{tl:TE}(hl:PE X l tl):PI X tg l (RE X.K tl):=by
 intro u s σ H R I h;refine thn (hl u s σ H _ I h) λv n ⟨x,z,t,B,E⟩=>?_
 obtain⟨a,e,⟨L,G⟩,q⟩:=E;subst e;cases B;obtain⟨J,M,p,O⟩:=t.list G;refine wpAny_pyIter_list p.isList ?_;refine⟨n.heap.objs.size,[n.heap.objs.size],_,_,z,rfl,t.kept (t':=n.toks) λb o e=>ah _ e,Nr a _,⟨_,aH _ rfl,rfl,rfl⟩,λb hb=>?_,q⟩
 have e:b=n.heap.objs.size:=by simpa using hb
 subst e;exact t.fpOk (af _) (t.hok.fresh (af _))
def OV{l:Φ}{σ:St}{H:Hp}{s:Shared}{R:It->Hp->Prop}{E:Ψ}{lo hi:Int}{t u v:Tok}{n:Nat}(I:Inv X l σ H s)(z:-(2 ^ 62)<=lo)(B:lo<2 ^ 62)(G:-(2 ^ 62)<=hi)(J:hi<2 ^ 62)
  (q:R (T6 lo (hi-lo).toNat) H):ki (kj X.prog X.w) X.A (pyIter (.ref s.heap.objs.size)) (PIE X l σ tg R) E { s with heap:=s.heap.push { cls:=.type "range", data:=.fields #[.int lo t,.int hi u,.int 1 v] },toks:=n }:=by
 refine wpAny_pyIter_range (IsRange.new ..) (small_one z B G J) ?_;have x:Inv X l σ H { s with heap:=s.heap.push { cls:=.type "range", data:=.fields #[.int lo t,.int hi u,.int 1 v] },toks:=n }:=I.kept λb o e=>ah _ e
 refine⟨(s.heap.push { cls:=.type "range", data:=.fields #[.int lo t,.int hi u,.int 1 v] }).objs.size,[(s.heap.push { cls:=.type "range", data:=.fields #[.int lo t,.int hi u,.int 1 v] }).objs.size],_,_,H,rfl,
  x.kept (t':=n) λb o e=>ah _ e,JB _ lo (hi-lo).toNat,?_,λb hb=>?_,q⟩
 .have L:lo+((0:Nat):Int)*1=lo:=by simp
  have M:(((hi-lo).toNat:Nat):Int)-((0:Nat):Int)=Builtin.Range.rangeSize lo hi 1:=by rw[rangeSize_one];split <;> lia
  show IsRangeIter _ _ (lo+((0:Nat):Int)*1) ((((hi-lo).toNat:Nat):Int)-((0:Nat):Int)) 1;rw[L,M];exact aH _ rfl
 .have e:b=(s.heap.push { cls:=.type "range", data:=.fields #[.int lo t,.int hi u,.int 1 v] }).objs.size:=by simpa using hb
  subst e;exact x.fpOk (af _) (x.hok.fresh (af _))
def RC(l:TA):TI:=λσ H R=>l σ H λvs n=>∃j:Int,vs=[.int j]/\-(2 ^ 62)<=j/\j<2 ^ 62/\R (T6 0 j.toNat) n
def zV{a:Expr}{n:TA}{p pos:Pos}(u:Gl X "range")(x:X.mg "range" = none)(ha:PA X [a] n)(hs:kA [a] X.env=[(false,eval a X.env)]:=by rfl):PI X tg (.Call (.Name "range" p) [a] [] pos) (RC n):=by
 intro z s σ H R I h;refine Call_ (xk I u x boot_range (bR (thn (ha pos z s σ H _ I h) λL M ⟨O,P,B,E,l⟩=>?_) hs rfl))
 obtain⟨j,e,l,G,q⟩:=l;subst e;cases E with
 |cons r J=>
  cases J;obtain⟨t,rfl⟩:=r;exact call_range_1 (OV B (by lia) (by lia) l G (by simpa using q))
def Mu(u:TI)(g:TG)(tb:TS):TS:=λD σ H=>u σ H λJ z=>∃W:Nat->Nat->St->Hp->Prop,(∃m,W 0 m σ z)/\∀i m σ H,W i m σ H ->
 (J.stop i H/\D.nx σ H)∨(J.go i H/\∃N:St->Hp->Prop,(∀l n,N l n->∃t,t<m/\W (i+1) t l n)/\∀x n,J.yld i H x n->g x σ n λs B=>tb { D with nx:=N,ct:=N,bk:=D.nx } s B)
def D5(fp:Δ)(h:Heap):Φ:=fp.filterMap λb=>(h.get? b).map λo=>(b,o)
def yD{fp:Δ}{h:Heap}{b:Addr}{o:Obj}(hb:b∈fp)(e:h.get? b=some o):(b,o)∈D5 fp h:=je.mpr ⟨b,hb,by rw[e];rfl⟩
def Ml{fp:Δ}{h:Heap}{p:Addr×Obj}(l:p∈D5 fp h):p.1∈fp/\h.get? p.1=some p.2:=by
 obtain⟨b,hb,e⟩:=je.mp l;cases q:h.get? b with
 |none=>rw[q]at e;cases e
 |some o=>
  rw[q]at e;have n:(b,o)=p:=aO.inj e;subst n;exact⟨hb,q⟩
def Inv.pinned{l:Φ}{σ:St}{H:Hp}{s:Shared}{fp:Δ}(I:Inv X l σ H s)(t:∀b∈fp,Am X l H b)(u:∀b∈fp,∃o,s.heap.get? b=some o/\∀v,o.data ≠ .cell v):Inv X (l++D5 fp s.heap) σ H s:=
 I.pins_of λp x=>(mAq.mp x).elim (λz=>I.pin p (aj _ z)) λz=>by
  obtain⟨hb,e⟩:=Ml z;obtain⟨B,E,G,_⟩:=t p.1 hb;obtain⟨o,n,d⟩:=u p.1 hb;rw[e]at n;cases n;exact⟨e,B,E,G,d⟩
def Inv.unpinned{l pl:Φ}{σ:St}{H:Hp}{s:Shared}(I:Inv X (l++pl) σ H s):Inv X l σ H s:=I.pins_of λp n=>I.pin p (aj _ (ak _ n))
def vg{iter:Expr}{body:List Stmt}{wi:TI}{g:TG}{tb:TS}{pos:Pos}(Q:PassesOwn (kj X.prog X.w) X.A X.env X.xe)(hc:X.calm=true)(hi:PI X tg iter wi)(hg:PG X tg g)(hb:Jr X body tb)
  (hs:∀x,mj iter X.env x=pure x:=by intro _;rfl):PS X (.For tg iter body [] pos) (Mu wi g tb):=by
 intro O s σ H D I h;refine wpAny_For (thn (hi O s σ H _ I h) λv s1 h1=>thn h1 λitv s2 h2=>?_) hs
 obtain⟨it,R,tn,J,H2,e,I2,T,CZ,f2,W,⟨m0,w0⟩,turn⟩:=h2;subst e;have t:∀{L:Hp},(∀b∈R,L b=none)->∀b∈R,Am X O L b:=λhn b hb=>⟨hn b hb,(f2 b hb).2⟩
 refine codeAny_forLoop_any (λn s'=>∃i z L,Inv X O z L s'/\tn i s'.heap/\(∀b∈R,L b=none)/\W i n z L) ?_ m0 ⟨0,σ,H2,I2,CZ,λb hb=>(f2 b hb).1,w0⟩
 rintro n s3 ⟨i,B,Y,I3,st3,S,w3⟩;rcases turn i n B Y w3 with⟨stop,qn⟩|⟨go,N,hN,step⟩
 .refine lg Q (thn (T.done X rfl rfl rfl hc i O s3 B Y X.xe I3 (t S) st3 stop) λr s4 ⟨hr,I4⟩=>?_)
  subst hr;exact mR ⟨B,Y,I4,qn⟩
 .refine lg Q (thn (T.item X rfl rfl rfl hc i O s3 B Y X.xe I3 (t S) st3 go) λr s4 ⟨u,hr,h4⟩=>?_)
  subst hr;refine lg Q (thn h4 λ_ s5 ⟨x,H5,I5,r5,y5,P,fr5⟩=>?_)
  have I5':=I5.pinned (t fr5) (T.obj _ _ P);refine lg Q (thn (hg _ s5 B H5 x u _ I5' r5 (step x H5 y5)) λ_ s6 ⟨σ6,H6,I6,q6⟩=>?_)
  refine lg Q (thn (hb _ s6 σ6 H6 _ I6 q6) λf s7 M=>?_)
  have again:∀{l:St}{E:Hp},Inv X (O++D5 R s5.heap) l E s7->N l E->∃m,m<n/\∃i z L,Inv X O z L s7/\tn i s7.heap/\(∀b∈R,L b=none)/\W i m z L:=λ{l E} G U=>by
   obtain⟨m',hm,w7⟩:=hN l E U;refine⟨m',hm,i+1,l,E,G.unpinned,T.keep _ _ _ P λb hb o e=>(G.pin (b,o) (aj _ (aj _ (yD hb e)))).1,λb hb=>?_,w7⟩
   obtain⟨o,e,d⟩:=T.obj _ _ P b hb;exact(G.pin (b,o) (aj _ (aj _ (yD hb e)))).2.1
  cases f with
  |next=>obtain⟨l,E,G,U⟩:=M;exact again G U
  |cont=>obtain⟨l,E,G,U⟩:=M;exact again G U
  |brk=>obtain⟨l,E,G,M⟩:=M;exact⟨l,E,G.unpinned,M⟩
  |ret v=>obtain⟨x7,l,E,G,r7,M⟩:=M;exact⟨x7,l,E,G.unpinned,r7,M⟩
end
def RW{K:Ζ}{a:Addr}{xs:List V}{g:TG}{tb:TS}{D:An}{σ:St}{H:Hp}(l:Nat->St->Hp->Prop)(E:l 0 σ H)(hl:∀i σ H,i<=xs.length->l i σ H->rJ K H a xs)
  (hs:∀i x σ H,xs[i]?=some x->l i σ H->g x σ H λn z=>tb { D with nx:=l (i+1),ct:=l (i+1),bk:=D.nx } n z) (hd:∀σ H,l xs.length σ H->D.nx σ H) :
  ∃W:Nat->Nat->St->Hp->Prop,(∃m,W 0 m σ H)/\∀i m σ H,W i m σ H ->
   ((ZG K a).stop i H/\D.nx σ H)∨((ZG K a).go i H/\∃N:St->Hp->Prop,(∀s t,N s t->∃B,B<m/\W (i+1) B s t)/\∀x t,(ZG K a).yld i H x t->g x σ t λn z=>tb { D with nx:=N,ct:=N,bk:=D.nx } n z):=by
 refine⟨λi m σ H=>m=xs.length-i/\i<=xs.length/\l i σ H,⟨xs.length,by simp,bx _,E⟩,?_⟩
 rintro i m σ H ⟨rfl,hi,p⟩;have q:=hl i σ H hi p
 by_cases u:i<xs.length
 .refine .inr ⟨⟨xs,xs[i],q,by simp[u]⟩,l (i+1),λs t G=>⟨xs.length-(i+1),by lia,rfl,u,G⟩,λx t y=>?_⟩
  obtain⟨e,y⟩:=y;subst e;exact hs i x σ _ (y xs q) p
 .have e:i=xs.length:=by lia
  subst e;exact .inl ⟨⟨xs,q,af _⟩,hd σ H p⟩
def NJ{lo:Int}{n:Nat}{g:TG}{tb:TS}{D:An}{σ:St}{H:Hp}(l:Nat->St->Hp->Prop)(G:l 0 σ H)
  (hs:∀i σ H,i<n->l i σ H->g (.int (lo+i)) σ H λs B=>tb { D with nx:=l (i+1),ct:=l (i+1),bk:=D.nx } s B) (hd:∀σ H,l n σ H->D.nx σ H) :
  ∃W:Nat->Nat->St->Hp->Prop,(∃m,W 0 m σ H)/\∀i m σ H,W i m σ H ->
   ((T6 lo n).stop i H/\D.nx σ H)∨((T6 lo n).go i H/\∃N:St->Hp->Prop,(∀t u,N t u->∃E,E<m/\W (i+1) E t u)/\∀x u,(T6 lo n).yld i H x u->g x σ u λs B=>tb { D with nx:=N,ct:=N,bk:=D.nx } s B):=by
 refine⟨λi m σ H=>m=n-i/\i<=n/\l i σ H,⟨n,by simp,bx _,G⟩,?_⟩
 rintro i m σ H ⟨rfl,hi,p⟩
 by_cases z:i<n
 .refine .inr ⟨z,l (i+1),λt u I=>⟨n-(i+1),by lia,rfl,z,I⟩,λx u y=>?_⟩
  obtain⟨e,y⟩:=y;subst e y;exact hs i σ _ z p
 .have e:i=n:=by lia
  subst e;exact .inl ⟨af _,hd σ H p⟩
abbrev R2:=V->V->Hp->VK->Prop
def BZ(X:Cx)(f:Value->Value->Sem Value)(r:R2):Prop:=
 ∀(l:Φ) (s:Shared) (σ:St) (H:Hp) (x y:V) (v u:Value) (Q:VK),Inv X l σ H s->qr x v->qr y u->r x y H Q ->
  ki (kj X.prog X.w) X.A (f v u) (EP X l σ Q) X.xe s
def UnR(X:Cx)(f:Value->Sem Value)(r:V->Hp->VK->Prop):Prop:=
 ∀(l:Φ) (s:Shared) (σ:St) (H:Hp) (x:V) (v:Value) (Q:VK),Inv X l σ H s->qr x v->r x H Q ->
  ki (kj X.prog X.w) X.A (f v) (EP X l σ Q) X.xe s
def uf(X:Cx)(f:Value)(r:List V->Hp->VK->Prop):Prop:=
 ∀(l:Φ) (s:Shared) (σ:St) (H:Hp) (xs:List V) (n:Ξ) (Q:VK),Inv X l σ H s->qc xs n->r xs H Q ->
  ki (kj X.prog X.w) X.A (call f n) (EP X l σ Q) X.xe s
def aaY(X:Cx)(r:V->Hp->(Bool->Hp->Prop)->Prop):Prop:=
 ∀(l:Φ) (s:Shared) (σ:St) (H:Hp) (x:V) (v:Value) (Q:Bool->Hp->Prop),Inv X l σ H s->qr x v->r x H Q ->
  ki (kj X.prog X.w) X.A (truthy v) (TP X l σ Q) X.xe s
def Tz(r:R2)(l tb:TE):TE:=λσ H Q=>l σ H λx n=>tb σ n λy s=>r x y s Q
def tUn(r:V->Hp->VK->Prop)(l:TE):TE:=λσ H Q=>l σ H λx n=>r x n Q
def rI(C:Int->Int->Prop)(g:Int->Int->V):R2:=λx y H Q=>∃i j,x = .int i/\y = .int j/\C i j/\Q (g i j) H
def Qa(g:Int->Int->V):R2:=λx y H Q=>∃i j,x = .int i/\y = .int j/\Q (g i j) H
def rU(g:Int->V):V->Hp->VK->Prop:=λx H Q=>∃i,x = .int i/\Q (g i) H
section
variable {X:Cx}{a b c:Expr}{ta tb tc:TE}{pos:Pos}
def Xq(ha:PE X a ta)(hb:PE X b tb){z:Φ}{s:Shared}{σ:St}{H:Hp}{R:V->V->Hp->Prop}(I:Inv X z σ H s)
  (h:ta σ H λx B=>tb σ B λy l=>R x y l) {Q:Ψ}{f:Value->Value->Sem Value}
  (E:∀v u s2 x y l,Inv X z σ l s2->qr x v->qr y u->R x y l->ki (kj X.prog X.w) X.A (f v u) Q X.xe s2) :
  ki (kj X.prog X.w) X.A (eval a X.env) (λv n=>ki (kj X.prog X.w) X.A (eval b X.env) (λu t=>ki (kj X.prog X.w) X.A (f v u) Q X.xe t) X.xe n) X.xe s:=by
 refine thn (ha z s σ H _ I h) λv G ⟨x,B,J,L,M⟩=>?_
 refine thn (hb z G σ B _ J M) λu s2 ⟨y,l,O,P,S⟩=>?_
 exact E v u s2 x y l O L P S
def qt{op:Operator}{r:R2}(l:BZ X (mJ op) r)(ha:PE X a ta)(hb:PE X b tb):PE X (.BinOp a op b pos) (Tz r ta tb):=by
 intro n s σ H Q I h;exact wpAny_BinOp (Xq ha hb I h λv u t x y z B E G q=>l n t σ z x y v u Q B E G q)
def DR{op:UnaryOp}{r:V->Hp->VK->Prop}(n:UnR X (unaryOp op) r)(ha:PE X a ta):PE X (.UnaryOp op a pos) (tUn r ta):=by
 intro l s σ H Q I h;exact UnaryOp_ (thn (ha l s σ H _ I h) λv t ⟨x,u,z,B,E⟩=>n l t σ u x v Q z B E)
def opI{f:Value->Value->Sem Value}{C:Int->Int->Prop}{g:Int->Int->Int}
  (rule:∀(i j:Int) (t u:Tok) (s:Shared) (Q:Ψ) (E:Ψ),C i j->Q (.int (g i j) s.toks) { s with toks:=s.toks+1 }->ki (kj X.prog X.w) X.A (f (.int i t) (.int j u)) Q E s) :
  BZ X f (rI C λi j=>.int (g i j)):=by
 intro G s σ H x y v u Q I l n h;obtain⟨i,j,rfl,rfl,z,q⟩:=h;obtain⟨t,rfl⟩:=l;obtain⟨B,rfl⟩:=n;exact rule i j t B s _ _ z ⟨.int (g i j),H,I.tok _,⟨_,rfl⟩,q⟩
def Y1{f:Value->Value->Sem Value}{g:Int->Int->Int}
  (rule:∀(i j:Int) (t u:Tok) (s:Shared) (Q:Ψ) (E:Ψ),Q (.int (g i j) s.toks) { s with toks:=s.toks+1 }->ki (kj X.prog X.w) X.A (f (.int i t) (.int j u)) Q E s) :
  BZ X f (Qa λi j=>.int (g i j)):=by
 intro B s σ H x y v u Q I l n h;obtain⟨i,j,rfl,rfl,q⟩:=h;obtain⟨t,rfl⟩:=l;obtain⟨z,rfl⟩:=n;exact rule i j t z s _ _ ⟨.int (g i j),H,I.tok _,⟨_,rfl⟩,q⟩
def ZZ{f:Value->Value->Sem Value}{g:Int->Int->Bool}
  (rule:∀(i j:Int) (t u:Tok) (s:Shared) (Q:Ψ) (E:Ψ),Q (.bool (g i j)) s->ki (kj X.prog X.w) X.A (f (.int i t) (.int j u)) Q E s) :
  BZ X f (Qa λi j=>.bl (g i j)):=by
 intro B s σ H x y v u Q I l n h;obtain⟨i,j,rfl,rfl,q⟩:=h;obtain⟨t,rfl⟩:=l;obtain⟨z,rfl⟩:=n;exact rule i j t z s _ _ ⟨.bl (g i j),H,I,rfl,q⟩
def Xk(i j:Int):Prop:=0<j/\j<1073741824
def X8(i j:Int):Prop:=0<=j/\j<=1000000/\i.natAbs<2 ^ 64
def Rb(i j:Int):Prop:=(-(2 ^ 64)<i/\i<2 ^ 64)∨(-(2 ^ 64)<j/\j<2 ^ 64)
def Rb.ok{i j:Int}(h:Rb i j):IntMulOk i j:=by
 rcases h with⟨l,n⟩|⟨l,n⟩
 .exact .of_left (intBits_le_64 l n)
 .exact .of_right (intBits_le_64 l n)
def ym:BZ X (mJ .Add) (Qa λi j=>.int (i+j)):=Y1 λ_ _ _ _ _ _ _ q=>add_int q
def J2:BZ X (mJ .Sub) (Qa λi j=>.int (i-j)):=Y1 λ_ _ _ _ _ _ _ q=>sub_int q
def B8:BZ X (mJ .Mult) (rI Rb λi j=>.int (i*j)):=opI λ_ _ _ _ _ _ _ l q=>mul_int q l.ok
def yG:BZ X (mJ .FloorDiv) (rI Xk λi j=>.int (i / j)):=opI λi j _ _ _ _ _ l q=>by
 have n:(0:Int)<j:=l.1;have s:j<1073741824:=l.2;exact floordiv_int (by lia) (by rw[hZ i (by lia)];exact q) (.inl (PyProof.noPylong_small (by lia)))
def tZ:BZ X (mJ .Mod) (rI (λ_ j=>0<j) λi j=>.int (i % j)):=opI λi j _ _ _ _ _ l q=>by
 have n:(0:Int)<j:=l;exact mod_int' (by lia) (by rw[Int.fmod_eq_emod_of_nonneg i (by lia)];exact q)
def JC:BZ X (mJ .Pow) (rI X8 λi j=>.int (i ^ j.toNat)):=opI λ_ _ _ _ _ _ _ l q=>pow_int_small l.1 l.2.1 l.2.2 q
def unI{f:Value->Sem Value}{g:Int->Int}
  (rule:∀(i:Int) (t:Tok) (s:Shared) (Q:Ψ) (E:Ψ),Q (.int (g i) s.toks) { s with toks:=s.toks+1 }->ki (kj X.prog X.w) X.A (f (.int i t)) Q E s) :
  UnR X f (rU λi=>.int (g i)):=by
 intro n s σ H x v Q I l h;obtain⟨i,rfl,q⟩:=h;obtain⟨t,rfl⟩:=l;exact rule i t s _ _ ⟨.int (g i),H,I.tok _,⟨_,rfl⟩,q⟩
def AN:UnR X (unaryOp .USub) (rU λi=>.int (-i)):=unI λ_ _ _ _ _ q=>neg_int q
end
noncomputable def scal:V->V->Bool
 | .non,.non=>true|.non,.int _=>true|.int _,.non=>true|.non,.bl _=>true|.bl _,.non=>true|.non,.str _=>true|.str _,.non=>true
 | .int _,.int _=>true|.bl _,.bl _=>true|.str _,.str _=>true|.byt _,.byt _=>true
 | .int _,.str _=>true|.str _,.int _=>true|.bl _,.str _=>true|.str _,.bl _=>true
 |_,_=>false
def rEq:R2:=λx y H Q=>scal x y=true/\Q (.bl (decide (x=y))) H
def rNe:R2:=λx y H Q=>scal x y=true/\Q (.bl (!decide (x=y))) H
def Mb{i j:Int}:decide (V.int i=V.int j)=(i == j):=by
 rw[bS];simp
def P5{i j:Bool}:decide (V.bl i=V.bl j)=(i == j):=by
 rw[bS];simp
def Mh{i j:Str}:decide (V.str i=V.str j)=(i == j):=by
 rw[bS];simp
def LS{i j:Array UInt8}:decide (V.byt i=V.byt j)=(i.toList == j.toList):=by
 rw[bS];cases i;cases j;simp
section
variable {X:Cx}{a b c:Expr}{ta tb tc:TE}{pos:Pos}
def qm{l:Φ}{σ:St}{H:Hp}{s:Shared}{Q:VK}{k n:Bool}(I:Inv X l σ H s)(q:Q (.bl k) H)(e:k=n):EP X l σ Q (.bool n) s:=by
 subst e;exact⟨.bl k,H,I,rfl,q⟩
def BP:BZ X (kG .Eq) rEq:=by
 intro B s σ H x y v u Q I z l h;obtain⟨hs,q⟩:=h;cases x with
 |non=>
  cases z;cases y with
  |non=>cases l;exact PySem.EqNone.eq_none_none (qm I q (by simp))
  |bl j=>cases l;exact PySem.EqNone.eq_none_bool (qm I q (by simp))
  |int j=>obtain⟨n,rfl⟩:=l;exact PySem.EqNone.eq_none_int (qm I q (by simp))
  |str j=>obtain⟨n,rfl⟩:=l;exact PySem.EqNone.eq_none_str (qm I q (by simp))
  |_=>exact absurd (show false=true from hs) aJ
 |bl i=>
  cases z;cases y with
  |non=>cases l;exact PySem.EqNone.eq_bool_none (qm I q (by simp))
  |bl j=>cases l;exact eq_bool (qm I q P5)
  |str j=>obtain⟨n,rfl⟩:=l;exact PySem.EqMixed.eq_bool_str (qm I q (by simp))
  |_=>exact absurd (show false=true from hs) aJ
 |int i=>
  obtain⟨t,rfl⟩:=z;cases y with
  |non=>cases l;exact PySem.EqNone.eq_int_none (qm I q (by simp))
  |int j=>obtain⟨n,rfl⟩:=l;exact eq_int (qm I q Mb)
  |str j=>obtain⟨n,rfl⟩:=l;exact PySem.EqMixed.eq_int_str (qm I q (by simp))
  |_=>exact absurd (show false=true from hs) aJ
 |str i=>
  obtain⟨t,rfl⟩:=z;cases y with
  |non=>cases l;exact PySem.EqNone.eq_str_none (qm I q (by simp))
  |bl j=>cases l;exact PySem.EqMixed.eq_str_bool (qm I q (by simp))
  |int j=>obtain⟨n,rfl⟩:=l;exact PySem.EqMixed.eq_str_int (qm I q (by simp))
  |str j=>obtain⟨n,rfl⟩:=l;exact eq_str (qm I q Mh)
  |_=>exact absurd (show false=true from hs) aJ
 |byt i=>
  obtain⟨t,rfl⟩:=z;cases y with
  |byt j=>obtain⟨n,rfl⟩:=l;exact W.eq_bytes (qm I q LS)
  |_=>exact absurd (show false=true from hs) aJ
 |_=>cases y <;> exact absurd (show false=true from hs) aJ
def aav:BZ X (kG .NotEq) rNe:=by
 intro B s σ H x y v u Q I z l h;obtain⟨hs,q⟩:=h;cases x with
 |non=>
  cases z;cases y with
  |non=>cases l;exact PySem.EqNone.ne_none_none (qm I q (by simp))
  |bl j=>cases l;exact PySem.EqNone.ne_none_bool (qm I q (by simp))
  |int j=>obtain⟨n,rfl⟩:=l;exact PySem.EqNone.ne_none_int (qm I q (by simp))
  |str j=>obtain⟨n,rfl⟩:=l;exact PySem.EqNone.ne_none_str (qm I q (by simp))
  |_=>exact absurd (show false=true from hs) aJ
 |bl i=>
  cases z;cases y with
  |non=>cases l;exact PySem.EqNone.ne_bool_none (qm I q (by simp))
  |bl j=>cases l;exact ne_bool (qm I q (congrArg not P5))
  |str j=>obtain⟨n,rfl⟩:=l;exact PySem.EqMixed.ne_bool_str (qm I q (by simp))
  |_=>exact absurd (show false=true from hs) aJ
 |int i=>
  obtain⟨t,rfl⟩:=z;cases y with
  |non=>cases l;exact PySem.EqNone.ne_int_none (qm I q (by simp))
  |int j=>obtain⟨n,rfl⟩:=l;exact ne_int (qm I q (congrArg not Mb))
  |str j=>obtain⟨n,rfl⟩:=l;exact PySem.EqMixed.ne_int_str (qm I q (by simp))
  |_=>exact absurd (show false=true from hs) aJ
 |str i=>
  obtain⟨t,rfl⟩:=z;cases y with
  |non=>cases l;exact PySem.EqNone.ne_str_none (qm I q (by simp))
  |bl j=>cases l;exact PySem.EqMixed.ne_str_bool (qm I q (by simp))
  |int j=>obtain⟨n,rfl⟩:=l;exact PySem.EqMixed.ne_str_int (qm I q (by simp))
  |str j=>obtain⟨n,rfl⟩:=l;exact ne_str (qm I q (congrArg not Mh))
  |_=>exact absurd (show false=true from hs) aJ
 |byt i=>
  obtain⟨t,rfl⟩:=z;cases y with
  |byt j=>obtain⟨n,rfl⟩:=l;exact W.ne_bytes (qm I q (congrArg not LS))
  |_=>exact absurd (show false=true from hs) aJ
 |_=>cases y <;> exact absurd (show false=true from hs) aJ
def zb:BZ X (kG .Lt) (Qa λi j=>.bl (decide (i<j))):=ZZ λ_ _ _ _ _ _ _ q=>lt_int q
def LV:BZ X (kG .Gt) (Qa λi j=>.bl (decide (j<i))):=ZZ λ_ _ _ _ _ _ _ q=>gt_int q
def vd(b:Expr){op:CmpOp}(h:op ≠ .In:=by decide)(l:op ≠ .NotIn:=by decide):mC op b=false:=by
 have n:(op == CmpOp.In)=false:=by cases op <;> first|rfl|exact absurd rfl h
 have s:(op == CmpOp.NotIn)=false:=by cases op <;> first|rfl|exact absurd rfl l
 cases b <;> simp[mC,n,s]
def LK{op:CmpOp}{r:R2}(l:BZ X (kG op) r)(ha:PE X a ta)(hb:PE X b tb)(n:mC op b=false):PE X (.Compare a [op] [b] pos) (Tz r ta tb):=by
 intro t s σ H Q I h;exact wpAny_Compare1 (Xq ha hb I h λv u z x y B E G J q=>l t z σ B x y v u Q E G J q) n
def Rq(t:TE):TT:=λσ H Q=>t σ H λx l=>∃k,x = .bl k/\Q k l
def uy{op:CmpOp}{r:R2}(n:BZ X (kG op) r)(ha:PE X a ta)(hb:PE X b tb)(t:mC op b=false):PT X (.Compare a [op] [b] pos) (Rq (Tz r ta tb)):=by
 intro l s σ H Q I h;refine nH (thn (ha l s σ H _ I h) λv B ⟨x,E,G,J,L⟩=>thn (hb l B σ E _ G L) λu M ⟨y,O,P,R,S⟩=>
  thn (n l M σ O x y v u _ P J R S) λc s3 ⟨z,U,Y,r3,k,e,q3⟩=>?_) t
 subst e;cases r3;exact kF ⟨U,Y,q3⟩
def JH(r r':R2)(ta tb tc:TE):TE:=λσ H Q=>ta σ H λx n=>tb σ n λy s=>r x y s λz l=>∃k,z = .bl k /\
 (if k=true then tc σ l λt H4=>r' y t H4 Q else Q (.bl false) l)
def Pd{op l:CmpOp}{r r':R2}(L:BZ X (kG op) r)(t:BZ X (kG l) r')(ha:PE X a ta)(hb:PE X b tb)(M:PE X c tc)
  (O:lastMarks [op,l] [b,c]=false:=by with_unfolding_all rfl):PE X (.Compare a [op,l] [b,c] pos) (JH r r' ta tb tc):=by
 intro n s σ H Q I h;refine Compare_chain (thn (ha n s σ H _ I h) λv P ⟨x,R,S,U,Y⟩=>chain_link (thn (hb n P σ R _ S Y) λu s2 ⟨y,H2,I2,B,q2⟩=>
  thn (L n s2 σ H2 x y v u _ I2 U B q2) λd s3 ⟨z,E,G,r3,k,e,J⟩=>?_)) O
 subst e;cases r3;refine kF ?_;cases k with
 |false=>exact ite_ff ⟨.bl false,E,G,rfl,J⟩
 |true=>exact ite_tt (chain_last (thn (M n s3 σ E _ G J) λw' s4 ⟨z',H4,I4,r4,q4⟩=>t n s4 σ H4 y z' u w' Q I4 B r4 q4))
def OD{op l:CmpOp}{r r':R2}(L:BZ X (kG op) r)(t:BZ X (kG l) r')(ha:PE X a ta)(hb:PE X b tb)(M:PE X c tc)
  (O:lastMarks [op,l] [b,c]=false:=by with_unfolding_all rfl):PT X (.Compare a [op,l] [b,c] pos) (Rq (JH r r' ta tb tc)):=by
 intro n s σ H Q I h;refine isTrue_chain (thn (ha n s σ H _ I h) λv P ⟨x,R,S,U,Y⟩=>test_link (thn (hb n P σ R _ S Y) λu s2 ⟨y,H2,I2,B,q2⟩=>
  thn (L n s2 σ H2 x y v u _ I2 U B q2) λd s3 ⟨z,E,G,r3,k,e,J⟩=>?_)) O
 subst e;cases r3;refine kF ?_;cases k with
 |false=>
  obtain⟨k',e',q'⟩:=J;cases e';exact ite_ff ⟨E,G,q'⟩
 |true=>
  refine ite_tt (test_last (thn (M n s3 σ E _ G J) λw' s4 ⟨z',H4,I4,r4,q4⟩=>thn (t n s4 σ H4 y z' u w' _ I4 B r4 q4) λd' s5 ⟨z2,H5,I5,r5,k2,e2,q5⟩=>?_))
  subst e2;cases r5;exact kF ⟨H5,I5,q5⟩
def T5(K:Ζ)(x:V)(H:Hp)(k:Bool):Prop:=
 match x with
 | .non=>k=false
 | .bl b=>k=b
 | .int i=>k=(i != 0)
 | .str y=>y.length<=kr/\k=((y.length:Int) != 0)
 | .byt y=>y.size<=kr/\k=((y.size:Int) != 0)
 | .ref p=>(∃xs,rJ K H p xs/\k = !xs.isEmpty)∨(∃xs,C5 K H p xs/\k = !xs.isEmpty)∨∃kvs,H p=some (.dK kvs)/\k = !kvs.isEmpty
 |_=>False
def Kf{κ:Type}{kvs:List (κ×V)}{vs:List (κ×Value)}(r:KV kvs vs):(!vs.isEmpty) = !kvs.isEmpty:=by
 cases r <;> rfl
def Eu{xs:List V}{l:Ξ}(r:qc xs l):(!l.toArray.isEmpty) = !xs.isEmpty:=by
 cases r <;> simp
def GE:(kr:Nat)<2 ^ 63:=by rw[kJ];decide
def QB:aaY X (λx H Q=>∃k,T5 X.K x H k/\Q k H):=by
 intro P s σ H x v Q I B h;obtain⟨k,e,q⟩:=h;have hl:=GE;have hs:kr=16777216:=kJ;cases x with
 |non=>
  cases B;have l:k=false:=e;subst l;exact truthy_none ⟨H,I,q⟩
 |bl b=>
  cases B;have l:k=b:=e;subst l;exact kF ⟨H,I,q⟩
 |int i=>
  obtain⟨t,rfl⟩:=B;have l:k=(i != 0):=e;subst l;exact PySem.P.truthy_int ⟨H,I,q⟩
 |str y=>
  obtain⟨t,rfl⟩:=B;obtain⟨M,l⟩:y.length<=kr/\k=((y.length:Int) != 0):=e;subst l;exact PySem.P.truthy_str (by lia) ⟨H,I.tok _,q⟩
 |byt y=>
  obtain⟨t,rfl⟩:=B;obtain⟨M,l⟩:y.size<=kr/\k=((y.size:Int) != 0):=e;subst l;exact W.truthy_bytes (by lia) ⟨H,I.tok _,q⟩
 |ref p=>
  cases B;have l:(∃z,rJ X.K H p z/\k = !z.isEmpty)∨(∃z,C5 X.K H p z/\k = !z.isEmpty)∨∃n,H p=some (.dK n)/\k = !n.isEmpty:=e;rcases l with⟨z,E,l⟩|⟨z,E,l⟩|⟨n,E,l⟩
  .subst l;obtain⟨J,r,pl,L⟩:=I.list E;have u:=r.length;exact wpAny_truthy_list pl.isList (by simp only[aF];lia) ⟨H,I.tok _,by rw[Eu r];exact q⟩
  .subst l;obtain⟨J,r,pl,L⟩:=I.tuple E;have u:=r.length;exact truthy_tuple pl (by simp only[aF];lia) ⟨H,I.tok _,by rw[Eu r];exact q⟩
  .subst l;obtain⟨L,O,G,r,m⟩:n.length<=kr/\(p == kX)=false/\∃G,KV n G/\s.heap.DictOf (qE X.prog X.w) p G:=I.hok p _ E;have u:n.length=G.length:=Paired.length r;exact wpAny_truthy_dict O m (by lia) ⟨H,I.tok _,by rw[Kf r];exact q⟩
 |_=>exact(show False from e).elim
def zj(ha:PE X a ta)(t:∀whole,ny a X.env whole=(do let v ←whole;standAt a.pos;holding [v] (truthy v))) :
  PT X a (λσ H Q=>ta σ H λx l=>∃k,T5 X.K x l k/\Q k l):=by
 intro n s σ H Q I h;exact isTrue_plain (thn (ha n s σ H _ I h) λv u ⟨x,z,B,E,G⟩=>QB n u σ z x v Q B E G) (t _)
def wG{x:V}{l:Ξ}(r:qc [x] l):∃u,l=[u]/\qr x u:=by
 cases r with
 |cons n s=>cases s;exact⟨_,rfl,n⟩
def QJ{x y:V}{l:Ξ}(r:qc [x,y] l):∃u n,l=[u,n]/\qr x u/\qr y n:=by
 cases r with
 |cons s t=>
  cases t with
  |cons z B=>cases B;exact⟨_,_,rfl,s,z⟩
def RA:uf X (.builtin "abs") (λxs H Q=>∃i,xs=[.int i]/\Q (.int (if i<0 then -i else i)) H):=by
 intro l s σ H xs n Q I r h;obtain⟨i,rfl,q⟩:=h;obtain⟨u,rfl,t,rfl⟩:=wG r;exact call_abs_int λu x=>⟨.int (if i<0 then -i else i),H,I.tok _,⟨_,rfl⟩,q⟩
def aaj(K:Ζ)(x:V)(H:Hp)(n:Nat):Prop:=
 match x with
 | .str y=>y.length<=kr/\n=y.length
 | .byt y=>y.size<=kr/\n=y.size
 | .ref p=>(∃xs,rJ K H p xs/\n=xs.length)∨∃xs,C5 K H p xs/\n=xs.length
 |_=>False
def tN:uf X (.builtin "len") (λxs H Q=>∃x n,xs=[x]/\aaj X.K x H n/\Q (.int n) H):=by
 intro O s σ H xs P Q I r h;obtain⟨x,n,rfl,e,q⟩:=h;obtain⟨u,rfl,B⟩:=wG r;have hl:=GE;have hs:kr=16777216:=kJ;cases x with
 |str y=>
  obtain⟨t,rfl⟩:=B;obtain⟨L,z⟩:y.length<=kr/\n=y.length:=e;subst z;exact len_str (by lia) ⟨.int _,H,I.tok _,⟨_,rfl⟩,q⟩
 |byt y=>
  obtain⟨t,rfl⟩:=B;obtain⟨L,z⟩:y.size<=kr/\n=y.size:=e;subst z;exact W.len_bytes (by lia) ⟨.int _,H,I.tok _,⟨_,rfl⟩,q⟩
 |ref p=>
  cases B;have z:(∃xs,rJ X.K H p xs/\n=xs.length)∨∃xs,C5 X.K H p xs/\n=xs.length:=e;rcases z with⟨xs,E,z⟩|⟨xs,E,z⟩
  .subst z;obtain⟨G,J,pl,M⟩:=I.list E;have l:=J.length;exact Calls.call_len_list pl.isList (by simp only[aF];lia) ⟨.int xs.length,H,I.tok _,⟨_,by simp only[aF];rw[l]⟩,q⟩
  .subst z;obtain⟨G,J,pl,M⟩:=I.tuple E;have l:=J.length;exact len_tuple pl (by simp only[aF];lia) ⟨.int xs.length,H,I.tok _,⟨_,by simp only[aF];rw[l]⟩,q⟩
 |_=>exact(show False from e).elim
end
def EM.some_of{v:V}{o:Υ}(r:EM (some v) o):∃u,o=some u/\qr v u:=by
 cases o with
 |none=>exact(show False from r).elim
 |some u=>exact⟨u,rfl,r⟩
structure uW (k:Nat)(A:Around):Prop where
 hd:A.handled=none
 dp:A.depth+3*k+5<recursionLimit
 un:A.units+16*k+200<lB
def uW.mono{j k:Nat}{A:Around}(r:uW k A)(h:j<=k):uW j A:=⟨r.hd,by have:=r.dp;lia,by have:=r.un;lia⟩
theorem uW.deeper{k:Nat}{A:Around}(r:uW (k+1) A)(env:Env):uW k (A.deeper env):=
 ⟨r.hd,by have:=r.dp;show A.depth+1+3*k+5<_;lia,by have:=r.un;show A.units+3+16*k+200<_;lia⟩
theorem uW.depth{k:Nat}{A:Around}(r:uW k A):A.depth<recursionLimit:=by have:=r.dp;lia
theorem uW.units{k:Nat}{A:Around}(r:uW k A):A.units+64<lB:=by have:=r.un;lia
def xE:TA:=λ_ H Q=>Q [] H
def tL(l:TE)(tr:TA):TA:=λσ H Q=>l σ H λx n=>tr σ n λxs s=>Q (x::xs) s
section
variable {X:Cx}{e:Expr}{es:List Expr}{te:TE}{t:TA}{pos:Pos}
def oO:PA X [] xE:=λ_ _ _ _ H Q I h=>Calls.spliced_nil ⟨[],H,I,.nil,h⟩
def oK(ha:PE X e te)(hr:PA X es t)(hs:kA (e::es) X.env=(false,eval e X.env)::kA es X.env:=by rfl):PA X (e::es) (tL te t):=by
 intro pos l s σ H Q I h;rw[hs];show ki _ _ (spliced ((false,eval e X.env)::mK pos (kA es X.env))) _ _ s;refine Calls.spliced_cons (thn (ha l s σ H _ I h) λu n ⟨x,z,B,E,G⟩=>?_)
 exact thn (hr pos l n σ z _ B G) λR S ⟨J,L,M,O,P⟩=>⟨x::J,L,M,.cons E O,P⟩
def aax(t:TA):TE:=λσ H Q=>t σ H λxs l=>xs.length<=kr/\∀p,l p=none->Q (.ref p) (qw l p (.tup xs))
def aap(t:TA):TE:=λσ H Q=>t σ H λxs l=>xs.length<=kr/\∀p,l p=none->Q (.ref p) (qw l p (.lst xs))
def PL{x1}(h:PA X es t):PE X (.Tuple es x1 pos) (aax t):=by
 intro B s σ H Q I E;refine wpAny_Tuple_spliced (thn (h pos B s σ H _ I E) λG l ⟨J,n,x,r,z,q⟩=>⟨by rw[←r.length];exact z,?_⟩)
 have L:n l.heap.objs.size=none:=x.hok.fresh (af _);refine⟨.ref l.heap.objs.size,qw n l.heap.objs.size (.tup J),x.laid (t':=l.toks) (λb u e=>ah _ e) (af _) ?_,rfl,q _ L⟩
 exact⟨z,G,r,⟨_,aH _ rfl,rfl,_,rfl⟩⟩
def sA(h:PA X es t):PE X (.List es pos) (aap t):=by
 intro B s σ H Q I E;refine wpAny_List_spliced (thn (h pos B s σ H _ I E) λG l ⟨J,n,x,r,z,q⟩=>⟨by rw[←r.length];exact z,?_⟩)
 have L:n l.heap.objs.size=none:=x.hok.fresh (af _);refine⟨.ref l.heap.objs.size,qw n l.heap.objs.size (.lst J),x.laid (t':=l.toks) (λb u e=>ah _ e) (af _) ?_,rfl,q _ L⟩
 exact⟨z,G,0,r,aH _ rfl⟩
end
abbrev Sp:=List V->Hp->VK->XK->Prop
abbrev Pf:=List Env->Hp->Shared->XK->Value->Shared->Prop
structure U8 (P:ku)(w:ky)(K:Ζ)(mg:Str->Υ)(base:Heap)(A:Around)(outer:List Env)(s:Shared)(H:Hp):Prop where
 frames:A.frames=some outer
 mod:Mod K mg base
 bs:∀b o,base.get? b=some o->s.heap.get? b=some o/\H b=none
 bsz:base.objs.size<=s.heap.objs.size
 funs:s.heap.FunFrames base outer
 frf:∀b∈RQ outer,H b=none
 hok:A7 P w H s.heap
 bare:mQ s.gens
def CE(outer:List Env)(P:ku)(w:ky)(H:Hp)(s:Shared)(Q:VK)(u:Value)(l:Shared):Prop:=
 ∃v n,l.os=s.os/\mQ l.gens/\Un (RQ outer) [] H n s.heap l.heap/\A7 P w n l.heap/\qr v u/\Q v n
def CR(CX:Pf)(outer:List Env)(P:ku)(w:ky)(H:Hp)(s:Shared)(Q:VK)(E:XK)(r:nX)(l:Shared):Prop:=
 match r with
 | .ok (.ret u)=>CE outer P w H s Q u l
 | .ok _=>False
 | .error e=>CX outer H s E e l
structure CT (P:ku)(w:ky)(K:Ζ)(mg:Str->Υ)(base:Heap)(CX:Pf)(k:Nat)(f:Addr)(fd:kH)(ps:List Str)(sp:Sp):Prop where
 len:∀vs H Q E,sp vs H Q E->vs.length=ps.length
 run:∀(A:Around) (outer:List Env) (s:Shared) (H:Hp) (args:Args) (us:Ξ) (vs:List V) (Q:VK) (E:XK),uW k A->U8 P w K mg base A outer s H->nV s fd args (ps.zip us)->qc vs us->sp vs H Q E ->
  lV (kj P w) A (.call (.ref f) args) (CR CX outer P w H s Q E) s
def CT.imp{P:ku}{w:ky}{K:Ζ}{mg:Str->Υ}{base:Heap}{CX:Pf}{k:Nat}{f:Addr}{fd:kH}{ps:List Str}{sp l:Sp}(F:CT P w K mg base CX k f fd ps sp)
  (h:∀vs H Q E,l vs H Q E->sp vs H Q E):CT P w K mg base CX k f fd ps l:=
 ⟨λvs H Q E q=>F.len vs H Q E (h _ _ _ _ q),λA outer s H n t vs Q E hr u hb x hs=>F.run A outer s H n t vs Q E hr u hb x (h _ _ _ _ hs)⟩
section
variable {X:Cx}{oH:Φ}{σ:St}{H:Hp}{s s':Shared}
def Inv.env0(I:Inv X oH σ H s):U8 X.prog X.w X.K X.mg X.base X.A X.stack s H:=
 ⟨I.ok.frames,I.ok.mod,I.bs,bY I.ok.bsz I.sz,I.stack,I.stkFree,I.hok,I.bare⟩
def Inv.after{Q:VK}{u:Value}(I:Inv X oH σ H s)(h:CE X.stack X.prog X.w H s Q u s'):EP X oH σ Q u s':=by
 obtain⟨v,n,os,bare,un,hok,r,q⟩:=h;obtain⟨hh,g,d,t,l⟩:=s';obtain rfl:l=s.os:=os;exact⟨v,n,I.call (h':=hh) (g':=g) (d':=d) (t':=t) (ch:=[]) un hok bare (λb z=>absurd z (by simp)),r,q⟩
end
def FR(sp:Sp)(l:List V)(E:XK)(t:TA):TE:=λσ H Q=>t σ H λvs n=>sp (vs++l) n Q E
def Av(K:Ζ)(fd:kH)(ps:List Str)(ds:Ξ):Prop:=
 ∀(s:Shared) (l:Ξ),K.In s.heap->(l++ds).length=ps.length->nV s fd ⟨l,[]⟩ (ps.zip (l++ds))
def Av.all{K:Ζ}{fd:kH}{ps:List Str}(h:∀l:Ξ,l.length=ps.length->bindArgs fd ⟨l,[]⟩=pure (ps.zip l)):Av K fd ps []:=λs l _ hl=>by
 rw[aNq]at hl ⊢;exact .of_eq (h l hl)
def J9(CX:Pf)(X:Cx)(E:XK):Prop:=∀(n:Φ) (σ:St) (H:Hp) (s:Shared) (e:Value) (l:Shared),Inv X n σ H s->CX X.stack H s E e l->X.xe e l
section
variable {X:Cx}{CX:Pf}{k:Nat}{f C:Addr}{fd:kH}{ps:List Str}{sp:Sp}{dvs:List V}{ds:Ξ}{E:XK}{x m:Str}{p pos apos:Pos}{e o:Expr}{es:List Expr}{ta:TE}{t:TA}
def Wp{z:Φ}{σ:St}{H:Hp}{s:Shared}{Q:VK}{l:Ξ}{vs:List V}(F:CT X.prog X.w X.K X.mg X.base CX k f fd ps sp)(hr:uW k X.A)(hb:Av X.K fd ps ds)(hd:qc dvs ds)(G:J9 CX X E)
  (I:Inv X z σ H s) (r:qc vs l) (h:sp (vs++dvs) H Q E):ki (kj X.prog X.w) X.A (call (.ref f) l) (EP X z σ Q) X.xe s:=by
 have B:qc (vs++dvs) (l++ds):=r.append hd;have hl:(l++ds).length=ps.length:=by rw[←B.length];exact F.len _ _ _ _ h
 refine wpAny_call (mU (F.run X.A X.stack s H ⟨l,[]⟩ (l++ds) (vs++dvs) Q E hr I.env0 (hb s l I.kIn hl) B h) λr J n=>?_)
 cases r with
 |error e=>exact G z σ H s e J I n
 |ok fl=>
  cases fl with
  |ret u=>exact I.after n
  |next=>exact False.elim n
  |brk=>exact False.elim n
  |cont=>exact False.elim n
def Vl(F:CT X.prog X.w X.K X.mg X.base CX k f fd ps sp)(hr:uW k X.A)(z:Gl X x)(B:X.mg x=some (.ref f))(hk:W.keepIn X.K (.ref f)=true)(hb:Av X.K fd ps ds)(hd:qc dvs ds)(G:J9 CX X E)
  (ha:PA X (e::es) t) (l:(x == ("__debug__" : Str))=false:=by decide) (J:kA (e::es) X.env=(false,eval e X.env)::kA es X.env:=by rfl) (n:(mK pos (kA es X.env)).any (·.1)=false:=by rfl) :
  PE X (.Call (.Name x p) (e::es) [] pos) (FR sp dvs E t):=by
 intro L s σ H Q I h;refine lW (Ub I z B ?_ l);refine W.callWith_K (h₀:=X.base) I.ok.mod.kin hk (thn (ha pos L s σ H _ I h) λM O ⟨P,R,u,r,q⟩=>⟨u.kIn,?_⟩) J n
 exact Wp F hr hb hd G u r q
end
structure oZ (N P:List Str)(sc:kY):Prop where
 kind:sc.kind = .function
 co:sc.isCoroutine=false
 gen:sc.isGenerator=false
 nd:N.Nodup
 pre:N.take P.length=P
 par:∀x∈P,sc.names.lookup x=some .local∨sc.names.lookup x=some .cell
 nofree:∀y∈sc.names,y.2 ≠ .free
theorem EW{kindOf:Str->Option NameKind}{x:Str}:∀{binds:List (Str×Value)}{m:Str->Υ},(∀v,(x,v)∉binds)->bindL kindOf binds m x=m x
 | [],_,_=>rfl
 | (n,v)::r,m,h=>by
  unfold bindL;rw[EW λw hw=>h w (mCo _ hw)]
  split
  .have:x≠n:=by rintro rfl;exact h v ai
   simp[this]
  .rfl
theorem Fl{kindOf:Str->Option NameKind}{x:Str}:∀{binds:List (Str×Value)}{m:Str->Υ},(∀v,(x,v)∉binds)->bindC kindOf binds m x=m x
 | [],_,_=>rfl
 | (n,v)::r,m,h=>by
  unfold bindC;rw[Fl λw hw=>h w (mCo _ hw)]
  split
  .rfl
  .have:x≠n:=by rintro rfl;exact h v ai
   simp[this]
theorem Fq{kindOf:Str->Option NameKind}{x:Str}{v:Value}:∀{P:List Str}{vs:Ξ}{i:Nat}{m:Str->Υ},P.Nodup->P[i]?=some x->vs[i]?=some v->kindOf x=some .local ->
  bindL kindOf (P.zip vs) m x=some v
 | [],_,_,_,_,h,_,_=>by simp at h
 |_::_,[],_,_,_,_,h,_=>by simp at h
 |p::P,w::vs,0,m,nd,h1,h2,hk=>by
  simp at h1 h2;subst h1;subst h2;show bindL kindOf ((p,w)::P.zip vs) m p=_;unfold bindL;rw[EW λv l=>(ar.mp nd).1 (iM l).1,pH hk]
  simp
 |p::P,w::vs,i+1,m,nd,h1,h2,hk=>by
  show bindL kindOf ((p,w)::P.zip vs) m x=_;unfold bindL;exact Fq (i:=i) (ar.mp nd).2 (by simpa using h1) (by simpa using h2) hk
theorem FV{kindOf:Str->Option NameKind}{x:Str}{v:Value}:∀{P:List Str}{vs:Ξ}{i:Nat}{m:Str->Υ},P.Nodup->P[i]?=some x->vs[i]?=some v->kindOf x≠some .local ->
  bindC kindOf (P.zip vs) m x=some v
 | [],_,_,_,_,h,_,_=>by simp at h
 |_::_,[],_,_,_,_,h,_=>by simp at h
 |p::P,w::vs,0,m,nd,h1,h2,hk=>by
  simp at h1 h2;subst h1;subst h2;show bindC kindOf ((p,w)::P.zip vs) m p=_;unfold bindC;rw[Fl λv l=>(ar.mp nd).1 (iM l).1,pE hk]
  simp
 |p::P,w::vs,i+1,m,nd,h1,h2,hk=>by
  show bindC kindOf ((p,w)::P.zip vs) m x=_;unfold bindC;exact FV (i:=i) (ar.mp nd).2 (by simpa using h1) (by simpa using h2) hk
def vk(N:List Str)(vs:List V):St:=vs.map some++bu (N.length-vs.length) none
def Hx(CX:Pf)(P:ku)(w:ky)(K:Ζ)(mg:Str->Υ)(base:Heap)(N:List Str)(l:Str)(scope:kY)(f:Addr)(t:Value)(A:Around)(outer:List Env)(s:Shared)(H:Hp)(E:XK):Cx where
 prog:=P
 w:=w
 K:=K
 mg:=mg
 base:=base
 A:=A.deeper (mh l scope s.heap.objs.size f t)
 N:=N
 s₀:=s
 H₀:=H
 env:=mh l scope s.heap.objs.size f t
 outer:=outer
 stack:=mh l scope s.heap.objs.size f t::outer
 ex:=[]
 calm:=true
 fn:=λ_=>true
 pn:=[]
 xe:=λe u=>ki (kj P w) (A.deeper (mh l scope s.heap.objs.size f t)) (leaving (mh l scope s.heap.objs.size f t) e) (λ_ n=>CX outer H s E e n) (λx n=>CX outer H s E x n) u
def Ip{l:kY}{n:Nat}{x:Str}(h:l.names.lookup x=some .cell):∃c,(cellsFrom n l.names []).lookup x=some c:=by
 have q:=W.cellsFrom_some l.names n [] (.inl h);exact Option.isSome_iff_exists.mp q
def Ni{CX:Pf}{P:ku}{w:ky}{K:Ζ}{mg:Str->Υ}{base:Heap}{N ps:List Str}{l:Str}{scope:kY}{f:Addr}{M:Value}{A:Around}{outer:List Env}{s s1:Shared}{H:Hp}{E:XK}{Q:Ξ}{vs:List V}
  (S:oZ N ps scope) (hd:A.handled=none) (B:U8 P w K mg base A outer s H) (hl:vs.length=ps.length) (r:qc vs Q)
  (x:InCallC s s.heap.objs.size (bindL (mh l scope s.heap.objs.size f M).kindOf (ps.zip Q) λ_=>none) (cellsFrom (s.heap.objs.size+1) scope.names []) (bindC (mh l scope s.heap.objs.size f M).kindOf (ps.zip Q) λ_=>none) s1) :
  Inv (Hx CX P w K mg base N l scope f M A outer s H E) [] (vk N vs) H s1:=by
 have U:ps.length<=N.length:=by have:=congrArg bV S.pre;rw[lTq]at this;lia
 obtain⟨O,Y,rfl,hk⟩:=x.done;have G:∀b:Addr,b∉(Hx CX P w K mg base N l scope f M A outer s H E).ex:=λb z=>absurd (show b∈([]:Δ)from z) (by simp)
 refine⟨⟨B.mod,S.kind,rfl,rfl,af _,λy z c O t=>?_,λy I=>?_,λy c _ h=>?_,λ_=>hd,Around.frames_deeper B.frames,.inr ⟨rfl,rfl⟩,λb z=>absurd z (G b),B.bs,B.bsz,λb _ _=>G b,λb z=>absurd z (G b),B.funs,B.frf⟩,
  rfl,B.bare,Un.kept hk,⟨_,x.toInCall.ns,λi y v O t h3=>?_⟩,λy c h=>⟨_,x.cell y c h⟩,B.hok.fresh (af _),λy c h=>?_,λp J=>absurd (show p∈([]:Φ)from J) (by simp),B.hok.kept hk,?_⟩
 .exact name_of_addr x.apart (PySem.mem_of_lookup O) (PySem.mem_of_lookup t)
 .have I:scope.names.lookup y=some .cell∨scope.names.lookup y=some .free:=I;rcases I with I|I
  .exact Ip I
  .exact absurd rfl (S.nofree _ (PySem.mem_of_lookup I))
 .exact cC (x.above y c (PySem.mem_of_lookup h))
 .have hi:i<vs.length:=by
   unfold vk at t
   by_cases hi:i<vs.length
   .exact hi
   .rw[gYq (by simpa using hi)]at t
    rw[bM]at t;split at t <;> cases t
  have ha:vs[i]?=some v:=by
   unfold vk at t;rw[gZq (by simpa using hi),gMq]at t
   cases e:vs[i]? with
   |none=>rw[e]at t;cases t
   |some a=>rw[e]at t;cases t;rfl
  obtain⟨u,R,X⟩:=r.get ha;have J:ps[i]?=some y:=by
   rw[←S.pre,eT (by lia)];exact O
  have L:ps.Nodup:=by rw[←S.pre];exact S.nd.sublist (bE _ _)
  refine⟨u,X,?_⟩;rcases S.par y (mGq J)with k|k
  .exact .inl ⟨k,Fq L J R k⟩
  .obtain⟨c,e⟩:=Ip (n:=s.heap.objs.size+1) k;refine .inr ⟨.inl k,c,e,?_⟩;have q:=x.cell y c e;rw[FV L J R (by show scope.names.lookup y≠_;rw[k];decide)]at q
   exact q
 .exact B.hok.fresh (cC (x.above y c (PySem.mem_of_lookup h)))
 .unfold vk;show _=N.length;rw[lAq,lMq,bT];lia
def Zd{CX:Pf}{P:ku}{w:ky}{K:Ζ}{mg:Str->Υ}{base:Heap}{k:Nat}{f:Addr}{name l:Str}{z:Arguments}{body:List Stmt}{scope:kY}{dV kV R pm L ct oc:Value}{an od:Option Addr}
  {Y:Array Υ}{N ps:List Str}{sp:Sp}(lk:K.lookup f=some ⟨oc,od,.func (W.fnOf name l z body scope dV kV R pm an L ct),Y⟩) (hcd:W.codeIn K L l=true) (S:oZ N ps scope)
  (len:∀vs H Q E,sp vs H Q E->vs.length=ps.length)
  (M:∀(A:Around) (outer:List Env) (s:Shared) (H:Hp) (vs:List V) (Q:VK) (E:XK),uW k (A.deeper (mh l scope s.heap.objs.size f L))->sp vs H Q E ->
   ∃t,Jr (Hx CX P w K mg base N l scope f L A outer s H E) body t/\t { nx:=λ_ G=>Q .non G,rt:=Q } (vk N vs) H) :
  CT P w K mg base CX (k+1) f (W.fnOf name l z body scope dV kV R pm an L ct) ps sp:=by
 refine⟨len,λA outer s H args us vs Q E hr U hb r X=>?_⟩
 have hl:=len _ _ _ _ X;have KX:K.In s.heap:=U.mod.kin.keeps λb o e=>(U.bs b o e).1
 have lim:s.heap.NoLimit:=U.mod.nolimit.keeps λb o e=>(U.bs b o e).1
 have O:∀y∈ps.zip us,scope.names.lookup y.1=some .local∨(scope.names.lookup y.1=some .cell/\((cellsFrom (s.heap.objs.size+1) scope.names []).lookup y.1).isSome=true):=λ⟨n,v⟩ hy=>by
  rcases S.par n (iM hy).1 with q|q
  .exact .inl q
  .exact .inr ⟨q,W.cellsFrom_some _ _ _ (.inl q)⟩
 refine codeAny_call_function hr.depth (KX _ _ lk) rfl S.co S.gen rfl (W.codeRec_of KX hcd) (hb _ _ _ _ ?_);refine wpAny_newFunctionEnv_cells S.kind O λenv he s1 x=>?_
 subst he;refine⟨lim.keeps x.toInCall.keep,codeAny_func ?_⟩;obtain⟨t,ht,hq⟩:=M A outer s H vs Q E (hr.deeper _) X;have I:Inv (Hx CX P w K mg base N l scope f L A outer s H E) [] (vk N vs) H s1:=Ni S hr.hd U hl r x;refine kM (ht [] s1 (vk N vs) H _ I hq) (λfl s' hs=>?_) λe s' hs=>hs
 have fin:∀{B:St}{G:Hp}{v:V}{u:Value},Inv (Hx CX P w K mg base N l scope f L A outer s H E) [] B G s'->qr v u->Q v G->CE outer P w H s Q u s':=
  λ{B G v u} J rv q=>⟨v,G,J.os,J.bare,J.base,J.hok,rv,q⟩
 cases fl with
 |ret u=>
  obtain⟨v,B,G,J,rv,q⟩:=hs;exact fin J rv q
 |next=>
  obtain⟨B,G,J,q⟩:=hs;exact fin (v:=V.non) (u:=gh) J rfl q
 |brk=>
  obtain⟨_,_,_,q⟩:=hs;exact False.elim q
 |cont=>
  obtain⟨_,_,_,q⟩:=hs;exact False.elim q
section
variable {X:Cx}{x:Str}{p pos:Pos}{e:Expr}{es:List Expr}{t:TA}{id T:String}{r:List V->Hp->VK->Prop}
def Ot(r:List V->Hp->VK->Prop)(t:TA):TE:=λσ H Q=>t σ H λvs l=>r vs l Q
def sV(z:uf X (.builtin id) r)(B:Gl X x)(E:X.mg x=none)(G:mI x=some (.builtin id))(ha:PA X (e::es) t)(hn:x ≠ "__name__" := by decide)(l:(x == ("__debug__" : Str))=false:=by decide)
  (J:kA (e::es) X.env=(false,eval e X.env)::kA es X.env:=by rfl) (n:(mK pos (kA es X.env)).any (·.1)=false:=by rfl):PE X (.Call (.Name x p) (e::es) [] pos) (Ot r t):=by
 intro u s σ H Q I h;refine lW (xk I B E G ?_ hn l);exact gH (thn (ha pos u s σ H _ I h) λL M ⟨O,P,R,S,U⟩=>z u M σ P O L Q R S U) J n
def xV(z:uf X (.type T) r)(B:Gl X x)(E:X.mg x=none)(G:mI x=some (.type T))(ha:PA X (e::es) t)(hn:x ≠ "__name__" := by decide)(l:(x == ("__debug__" : Str))=false:=by decide)
  (J:kA (e::es) X.env=(false,eval e X.env)::kA es X.env:=by rfl) (n:(mK pos (kA es X.env)).any (·.1)=false:=by rfl):PE X (.Call (.Name x p) (e::es) [] pos) (Ot r t):=by
 intro u s σ H Q I h;refine lW (xk I B E G ?_ hn l);exact bR (thn (ha pos u s σ H _ I h) λL M ⟨O,P,R,S,U⟩=>z u M σ P O L Q R S U) J n
end
end L2
namespace HT
open PySem PyProof.Rows
noncomputable def sY:Ϝ->Ϝ->Bool
 | [],[]=>false
 | [],_::_=>true
 |_::_,[]=>false
 |x::xs,y::ys=>if x=y then sY xs ys else decide (x<y)
def yo(x y:Int)(xs ys:Ϝ):sY (x::xs) (y::ys)=if x=y then sY xs ys else decide (x<y):=rfl
def EE:sY [] []=false:=rfl
def Dr(y:Int)(ys:Ϝ):sY [] (y::ys)=true:=rfl
def DN(x:Int)(xs:Ϝ):sY (x::xs) []=false:=rfl
def O4(A:Around)(s:Shared)(a:Int)(t:Tok)(c:Int)(u:Tok):∃e,SeqAt.EqAt A s (.int a t) (.int c u) e/\(e=true↔a=c):=
 ⟨(a == c),SeqAt.EqAt.int_int a t c u,by simp⟩
def Sa(A:Around)(s:Shared)(a:Int)(t:Tok)(c:Int)(u:Tok)(prog:ku)(w:ky)(E:Ψ)(Q:Ψ)(h:Q (.bool (decide (a<c))) s) :
  ki (kj prog w) A (richCompare .Lt (.int a t) (.int c u)) Q E s:=
 (jY h:ki (kj prog w) A (kG .Lt (.int a t) (.int c u)) Q E s)
section
variable {prog:ku}{w:ky}{A:Around}{E:Ψ}{s:Shared}
def E1(n d:Nat):Option Int->Nat
 |none=>d
 |some v=>if v<0 then (v+(n:Int)).toNat else min v.toNat n
def Ic(n d:Nat):E1 n d none=d:=rfl
def C6(n d k:Nat):E1 n d (some (k:Int))=min k n:=by
 show(if (k:Int)<0 then ((k:Int)+(n:Int)).toNat else min (k:Int).toNat n)=min k n
 rw[pE (by lia),bA]
end
end HT
namespace L2
open PySem PySem.Spec PyProof.Rows
abbrev TO:=St->Hp->(Option Int->Hp->Prop)->Prop
def PO(X:Cx)(e:Option Expr)(t:TO):Prop:=
 ∀(l:Φ) (s:Shared) (σ:St) (H:Hp) (Q:Option Int->Hp->Prop),Inv X l σ H s->t σ H Q ->
  ki (kj X.prog X.w) X.A (evalPart e X.env) (λu x=>∃o n,Inv X l σ n x/\IsPart u o/\Q o n) X.xe s
def Lr:TO:=λ_ H Q=>Q none H
def VN(t:TE):TO:=λσ H Q=>t σ H λx l=>∃i,x = .int i/\Q (some i) l
def AI{ns:Ϝ}:∀{l:Ξ},qc (ns.map V.int) l->kK l ns:=by
 induction ns with
 |nil=>intro l r;rw[fU]at r;cases r;exact .nil
 |cons n ns s=>
  intro l r;rw[au]at r;cases r with
  |cons u x=>
   obtain⟨t,e⟩:=u;subst e;exact .cons n t (s x)
section
variable {X:Cx}{e:Expr}{te:TE}{lo hi:Option Expr}{tl th:TO}{pos p2:Pos}
def UM:PO X none Lr:=by
 intro l s σ H Q I h;rw[evalPart_none];exact kf ⟨none,H,I,.none,h⟩
def GM(h:PE X e te):PO X (some e) (VN te):=by
 intro l s σ H Q I hw;rw[evalPart_some];refine thn (h l s σ H _ I hw) λu G ⟨x,n,z,B,E⟩=>?_
 obtain⟨i,rfl,q⟩:=E;obtain⟨t,rfl⟩:=B;exact⟨some i,n,z,.int i t,q⟩
def SlR(X:Cx)(r:V->Option Int->Option Int->Hp->VK->Prop):Prop:=
 ∀(l:Φ) (s:Shared) (σ:St) (H:Hp) (x:V) (v n t:Value) (lo hi:Option Int) (sl:Addr) (Q:VK),Inv X l σ H s->qr x v->s.heap.IsSliceOf sl n t .none->IsPart n lo->IsPart t hi->r x lo hi H Q ->
  ∃T id,typeLookup (.type T) "__getitem__" = pure (some (.builtin id))/\s.TypeIs v T/\ki (kj X.prog X.w) X.A (nU v (.ref sl)) (EP X l σ Q) X.xe s
def tSl(r:V->Option Int->Option Int->Hp->VK->Prop)(te:TE)(tl th:TO):TE:=λσ H Q=>te σ H λx n=>tl σ n λl s=>th σ s λu t=>r x l u t Q
def Iq{r:V->Option Int->Option Int->Hp->VK->Prop}(hr:SlR X r)(G:PE X e te)(hl:PO X lo tl)(J:PO X hi th):PE X (.Subscript e (.Slice lo hi none p2) pos) (tSl r te tl th):=by
 intro t s σ H Q I h;refine Subscript_ (thn (G t s σ H _ I h) λv L ⟨x,M,O,P,R⟩=>?_)
 refine wpAny_Slice (thn (hl t L σ M _ O R) λz S ⟨l,U,Y,pl,q2⟩=>thn (J t S σ U _ Y q2) λB n ⟨u,E,I3,pu,q3⟩=>?_)
 rw[evalPart_none];refine kf ?_;have I4:Inv X t σ E { n with heap:=n.heap.push { cls:=.type "slice", data:=.fields #[z,B,.none] } }:=I3.kept (t':=n.toks) λb ob q=>ah _ q
 obtain⟨T,id,hT,ht,hg⟩:=hr t { n with heap:=n.heap.push { cls:=.type "slice", data:=.fields #[z,B,.none] } } σ E x v z B l u n.heap.objs.size Q I4 P (Heap.IsSliceOf.new ..) pl pu q3
 show ki (kj X.prog X.w) X.A (oj e (.Slice lo hi none p2) v (.ref n.heap.objs.size)) (EP X t σ Q) X.xe { n with heap:=n.heap.push { cls:=.type "slice", data:=.fields #[z,B,.none] } }
 exact tail_any (ops:=[.ref n.heap.objs.size,v]) ht hT hg (by with_unfolding_all rfl)
def JI(xs:List V)(lo hi:Option Int):List V:=(xs.drop (HT.E1 xs.length 0 lo)).take (HT.E1 xs.length xs.length hi-HT.E1 xs.length 0 lo)
def IT(xs:List V)(lo hi:Option Int):(JI xs lo hi).length<=xs.length:=by
 unfold JI;rw[lTq,aQ];lia
end
def Ih(n:Nat)(i:Int):Option Nat:=if 0<=i then (if i<n then some i.toNat else none)else if -(n:Int)<=i then some (i+n).toNat else none
def atI{α:Type}(xs:List α)(i:Int):Option α:=(Ih xs.length i).bind λj=>xs[j]?
def K8{n:Nat}{i:Int}{j:Nat}(h:Ih n i=some j):oz i n=some j/\j<n/\-(n:Int)<=i/\i<n:=by
 unfold Ih at h
 by_cases s:0<=i
 .rw[pH s]at h
  by_cases l:i<n
  .rw[pH l]at h;have e:i.toNat=j:=aO.inj h;exact⟨by rw[seqIndex_of s l,e],by lia,by lia,l⟩
  .rw[pE l]at h;cases h
 .rw[pE s]at h
  by_cases l:-(n:Int)<=i
  .rw[pH l]at h;have e:(i+n).toNat=j:=aO.inj h;exact⟨by rw[seqIndex_neg (by lia) l,e],by lia,l,by lia⟩
  .rw[pE l]at h;cases h
def K1{α:Type}{xs:List α}{i:Int}{v:α}(h:atI xs i=some v):∃j,oz i xs.length=some j/\xs[j]?=some v/\j<xs.length/\-(xs.length:Int)<=i/\i<xs.length:=by
 unfold atI at h;cases e:Ih xs.length i with
 |none=>rw[e]at h;cases h
 |some j=>
  rw[e]at h;obtain⟨l,n,s,t⟩:=K8 e;exact⟨j,l,h,n,s,t⟩
def uz{α:Type}{xs:List α}{j:Nat}{v:α}(h:xs[j]?=some v):atI xs (j:Int)=some v:=by
 have l:j<xs.length:=(gSq.mp h).1;have e:Ih xs.length (j:Int)=some j:=by
  unfold Ih;rw[pH (by lia),pH (by lia)];simp
 unfold atI;rw[e];exact h
def HK{α:Type}(xs:List α)(v:α):atI (xs++[v]) (-1)=some v:=by
 have hl:(xs++[v]).length=xs.length+1:=by simp
 have e:Ih (xs++[v]).length (-1)=some xs.length:=by
  unfold Ih;rw[hl,pE (by decide),pH (by lia)]
  congr 1;lia
 unfold atI;rw[e];show(xs++[v])[xs.length]?=some v;simp
def T1(b:Expr):Prop:=∀o i,nF b false o i=operate [o,i] (nU o i)
def V0(X:Cx)(r:R2):Prop:=
 ∀(n l:Expr) (t:Φ) (s:Shared) (σ:St) (H:Hp) (x y:V) (v u:Value) (Q:VK),Inv X t σ H s->qr x v->qr y u->r x y H Q ->
  nF l false v u=operate [v,u] (nU v u)->ki (kj X.prog X.w) X.A (oj n l v u) (EP X t σ Q) X.xe s
def MtR(X:Cx)(id:String)(r:V->List V->Hp->VK->Prop):Prop:=
 ∀(l:Φ) (s:Shared) (σ:St) (H:Hp) (x:V) (xs:List V) (v:Value) (n:Ξ) (Q:VK),Inv X l σ H s->qr x v->qc xs n->r x xs H Q ->
  ki (kj X.prog X.w) X.A (call (.builtin id) (v::n)) (EP X l σ Q) X.xe s
section
variable {X:Cx}{a b:Expr}{ta tb:TE}{pos:Pos}
def V0.or{r r':R2}(h:V0 X r)(h':V0 X r'):V0 X (λx y H Q=>r x y H Q∨r' x y H Q):=by
 intro l n t s σ H x y v u Q I z B q hs;rcases q with q|q
 .exact h l n t s σ H x y v u Q I z B q hs
 .exact h' l n t s σ H x y v u Q I z B q hs
def tH{r:R2}(hr:V0 X r)(ha:PE X a ta)(hb:PE X b tb)(hs:T1 b):PE X (.Subscript a b pos) (Tz r ta tb):=by
 intro l s σ H Q I h;exact Subscript_ (Xq ha hb I h λv u n x y t z B E q=>hr a b l n σ t x y v u Q z B E q (hs _ _))
def Su(K:Ζ):R2:=λx y H Q=>∃p xs i v,x = .ref p/\y = .int i/\rJ K H p xs/\atI xs i=some v/\Q v H
def XJ(K:Ζ):R2:=λx y H Q=>∃p xs i v,x = .ref p/\y = .int i/\C5 K H p xs/\atI xs i=some v/\Q v H
def tT:V0 X (Su X.K):=by
 intro n B L s σ H x y v u Q I P R h hs;obtain⟨p,xs,i,z,rfl,rfl,S,U,q⟩:=h;cases P;obtain⟨t,rfl⟩:=R;obtain⟨E,r,pl,hz⟩:=I.list S;obtain⟨j,l,Y,h3,h4,h5⟩:=K1 U;obtain⟨w,M,G⟩:=r.get Y;have hl:=r.length;have hn:=GE;have fin:EP X L σ Q w s:=⟨z,H,I,G,q⟩
 by_cases O:0<=i
 .have J:i.toNat=j:=by
   rw[seqIndex_of O h5]at l;exact aO.inj l
  exact item_listR pl.isList O (by lia) (by rw[J];simpa using M) fin hs
 .have J:(i+(E.toArray.size:Int)).toNat=j:=by
   rw[seqIndex_neg (by lia) h4]at l
   rw[aF,←hl];exact aO.inj l
  exact nE (x:=w) pl.isList.typeIs slot_list_getitem.lookup
   (wpAny_getItem_list_neg (Q:=λr s'=>r=w/\EP X L σ Q r s') pl.isList (by lia) (by rw[aF] <;> lia) (by lia) (by rw[J];simpa using M) ⟨rfl,fin⟩) hs
def uJ:V0 X (XJ X.K):=by
 intro l n E s σ H x y v u Q I G J h hs;obtain⟨p,Y,i,z,rfl,rfl,L,M,q⟩:=h;cases G;obtain⟨t,rfl⟩:=J;obtain⟨O,r,pl,hz⟩:=I.tuple L;obtain⟨j,P,R,h3,h4,h5⟩:=K1 M;obtain⟨w,S,B⟩:=r.get R;have hl:=r.length;have hn:=GE;have fin:EP X E σ Q w s:=⟨z,H,I,B,q⟩;exact nE (x:=w) pl.typeIs slot_tuple_getitem.lookup
  (getItem_tuple (j:=j) (Q:=λr U=>r=w/\EP X E σ Q r U) pl (by lia) (by lia) (by rw[aF,←hl];exact P) (by simpa using S) ⟨rfl,fin⟩) hs
def Hc(lo hi:Option Int)(n:Nat):(mE lo hi none n).1=((HT.E1 n 0 lo:Nat):Int)/\(mE lo hi none n).2.1=((HT.E1 n n hi:Nat):Int)/\(mE lo hi none n).2.2=1:=by
 refine⟨?_,?_,rfl⟩
 .cases lo with
  |none=>simp[mE,HT.E1]
  |some i=>
   simp only[mE,HT.E1,jl,show(1:Int)>0 by decide,if_true]
   by_cases h:i<0
   .simp only[h,if_true] <;> lia
   .simp only[h,if_false] <;> lia
 .cases hi with
  |none=>simp[mE,HT.E1]
  |some i=>
   simp only[mE,HT.E1,jl,show(1:Int)>0 by decide,if_true]
   by_cases h:i<0
   .simp only[h,if_true] <;> lia
   .simp only[h,if_false] <;> lia
def EH(l:Ξ)(lo hi:Option Int):slicePick l.toArray lo hi none=((l.drop (HT.E1 l.length 0 lo)).take (HT.E1 l.length l.length hi-HT.E1 l.length 0 lo)).toArray:=by
 obtain⟨n,s,t⟩:=Hc lo hi l.toArray.size;unfold slicePick;rw[n,s,t];simp only[sliceRange_one,pick_run,aF] <;> rfl
def Zx(K:Ζ):V->Option Int->Option Int->Hp->VK->Prop:=λx lo hi H Q=>∃a xs,x = .ref a/\rJ K H a xs/\∀p,H p=none->Q (.ref p) (qw H p (.lst (JI xs lo hi)))
def LB:SlR X (Zx X.K):=by
 intro G s σ H x v J L lo hi M Q I t hs pl u h;obtain⟨a,l,rfl,z,q⟩:=h;cases t;obtain⟨B,r,ht,E⟩:=I.list z;have n:=r.length;refine⟨"list", _,slot_list_getitem.lookup,ht.isList.typeIs,?_⟩;refine wpAny_getItem_list_slice ht.isList hs pl u .none (by simp) ?_ (by rw[aF] <;> lia)
 rw[EH,←n];refine⟨.ref s.heap.objs.size,_,I.laid (t':=s.toks) (o:=.lst (JI l lo hi)) (λb O q=>ah _ q) (af _) ?_,rfl,q _ (I.hok.fresh (af _))⟩
 exact⟨bY (IT l lo hi) E,_,0,(r.drop (HT.E1 l.length 0 lo)).take (HT.E1 l.length l.length hi-HT.E1 l.length 0 lo),aH _ rfl⟩
def Aw:V->Bool
 | .non=>true
 | .bl _=>true
 | .int _=>true
 | .str _=>true
 |_=>false
def Vv:V->V->Bool
 | .non,.non=>true
 | .bl a,.bl b=>a == b
 | .bl a,.int b=>(if a then 1 else 0) == b
 | .int a,.bl b=>a == (if b then 1 else 0)
 | .int a,.int b=>a == b
 | .str a,.str b=>a == b
 |_,_=>false
def Wr{A:Around}{s:Shared}{y x:V}{u v:Value}(z:qr y u)(l:qr x v)(E:Aw y=true)(B:Aw x=true):SeqAt.EqAt A s u v (Vv y x):=by
 cases y with
 |non=>
  cases z;cases x with
  |non=>cases l;exact SeqAt.EqAt.same _
  |bl b=>cases l;exact SeqAt.EqAt.none_bool b
  |int b=>obtain⟨t,rfl⟩:=l;exact SeqAt.EqAt.none_int b t
  |str b=>obtain⟨t,rfl⟩:=l;exact SeqAt.EqAt.none_str b t
  |_=>exact absurd (show false=true from B) aJ
 |bl a=>
  cases z;cases x with
  |non=>cases l;exact SeqAt.EqAt.bool_none a
  |bl b=>cases l;exact SeqAt.EqAt.bool_bool a b
  |int b=>obtain⟨t,rfl⟩:=l;exact SeqAt.EqAt.bool_int a b t
  |str b=>obtain⟨t,rfl⟩:=l;exact SeqAt.EqAt.bool_str a b t
  |_=>exact absurd (show false=true from B) aJ
 |int a=>
  obtain⟨n,rfl⟩:=z;cases x with
  |non=>cases l;exact SeqAt.EqAt.int_none a n
  |bl b=>cases l;exact SeqAt.EqAt.int_bool a n b
  |int b=>obtain⟨t,rfl⟩:=l;exact SeqAt.EqAt.int_int a n b t
  |str b=>obtain⟨t,rfl⟩:=l;exact SeqAt.EqAt.int_str a n b t
  |_=>exact absurd (show false=true from B) aJ
 |str a=>
  obtain⟨n,rfl⟩:=z;cases x with
  |non=>cases l;exact SeqAt.EqAt.str_none a n
  |bl b=>cases l;exact SeqAt.EqAt.str_bool a n b
  |int b=>obtain⟨t,rfl⟩:=l;exact SeqAt.EqAt.str_int a n b t
  |str b=>obtain⟨t,rfl⟩:=l;exact SeqAt.EqAt.str_str a n b t
  |_=>exact absurd (show false=true from B) aJ
 |_=>exact absurd (show false=true from E) aJ
def Uv(x:V)(u:Value):Bool:=match u with
 | .none=>Vv .non x
 | .bool b=>Vv (.bl b) x
 | .int i _=>Vv (.int i) x
 | .str z _=>Vv (.str z) x
 |_=>false
def Qk{x y:V}{u:Value}(r:qr y u)(f:Aw y=true):Uv x u=Vv y x:=by
 cases y with
 |non=>cases r;rfl
 |bl b=>cases r;rfl
 |int i=>obtain⟨t,rfl⟩:=r;rfl
 |str z=>obtain⟨t,rfl⟩:=r;rfl
 |_=>exact absurd (show false=true from f) aJ
theorem GQ{x:V}:∀{xs:List V}{l:Ξ},qc xs l->xs.all Aw=true->l.any (Uv x)=xs.any λy=>Vv y x
 |_,_,.nil,_=>rfl
 |y::xs,u::l,.cons r t,f=>by
  rw[iZ,fD]at f;rw[dN,dN,Qk r f.1,GQ t f.2]
theorem Ey{A:Around}{s:Shared}{x:V}{v:Value}(z:qr x v)(B:Aw x=true):∀{xs:List V}{n:Ξ},qc xs n->xs.all Aw=true->∀u∈n,SeqAt.EqAt A s u v (Uv x u)
 |_,_,.nil,_=>λu l=>by cases l
 |y::xs,u::n,.cons r t,f=>λE l=>by
  rw[iZ,fD]at f;rcases ae.mp l with rfl|l
  .rw[Qk r f.1];exact Wr r z f.1 B
  .exact Ey z B t f.2 E l
def YV(x:V)(xs:List V):Bool:=xs.any λy=>Vv y x
def rIn(K:Ζ)(neg:Bool):R2:=λx y H Q=>∃p xs,y = .ref p/\(rJ K H p xs∨C5 K H p xs)/\Aw x=true/\xs.all Aw=true/\Q (.bl (if neg then !YV x xs else YV x xs)) H
def MQ:BZ X (kG .In) (rIn X.K false):=by
 intro G s σ H x y v u Q I t B h;obtain⟨p,J,rfl,n,z,fs,q⟩:=h;cases B;rcases n with n|n
 .obtain⟨l,r,pl,E⟩:=I.list n;refine SeqAt.in_listAt (Uv x) pl.isList (λw hw=>Ey t z r fs w (by simpa using hw)) ⟨.bl _,H,I,rfl,?_⟩
  rw[show l.toArray.any (Uv x)=l.any (Uv x) by simp,GQ r fs]
  exact q
 .obtain⟨l,r,pl,E⟩:=I.tuple n;refine SeqAt.in_tupleAt (Uv x) pl (λw hw=>Ey t z r fs w (by simpa using hw)) ⟨.bl _,H,I,rfl,?_⟩
  rw[show l.toArray.any (Uv x)=l.any (Uv x) by simp,GQ r fs]
  exact q
def uf.or{f:Value}{r r':List V->Hp->VK->Prop}(h:uf X f r)(h':uf X f r'):uf X f (λxs H Q=>r xs H Q∨r' xs H Q):=by
 intro l s σ H xs n Q I t q;rcases q with q|q
 .exact h l s σ H xs n Q I t q
 .exact h' l s σ H xs n Q I t q
def yq:uf X (.type "list") (λxs H Q=>∃p ys,xs=[.ref p]/\(rJ X.K H p ys∨C5 X.K H p ys)/\∀l,H l=none->Q (.ref l) (qw H l (.lst ys))):=by
 intro P s σ H xs S Q I r h;obtain⟨p,ys,rfl,E,q⟩:=h;obtain⟨u,rfl,R⟩:=wG r;cases R;have fin:∀(t:Ξ),qc ys t->ys.length<=kr->∀(x:Heap) (z:Nat),(∀b O,s.heap.get? b=some O->x.get? b=some O) ->
   x.get? s.heap.objs.size=some { cls:=.type "list", dict:=none,data:=.seq t.toArray z,slots:=#[] }->EP X P σ Q (.ref s.heap.objs.size) { s with heap:=x }:=λt B G x z kp e=>
  ⟨.ref s.heap.objs.size,_,I.laid (t':=s.toks) kp (af _) (show qR X.prog X.w _ x _ (.lst ys)from ⟨G,t,z,B,e⟩),rfl,q _ (I.hok.fresh (af _))⟩
 rcases E with E|E
 .obtain⟨t,B,pl,G⟩:=I.list E;have J:=B.length;obtain⟨o,L,M,n,hd⟩:=pl.isList;exact call_list_seq p (.inl rfl) L M hd (λx z kp e=>fin t B G x z kp e) (by simp only[aF] <;> lia)
 .obtain⟨t,B,pl,G⟩:=I.tuple E;have J:=B.length;obtain⟨o,L,M,n,hd⟩:=pl;exact call_list_seq p (.inr rfl) L M hd (λx z kp e=>fin t B G x z kp e) (by simp only[aF] <;> lia)
def tyV(K:Ζ)(T:String)(x:V)(H:Hp):Prop:=match x with
 | .str _=>T = "str"
 | .int _=>T = "int"
 | .ref p=>(T = "list" /\ ∃xs,rJ K H p xs)∨(T = "tuple" /\ ∃o,K.lookup p=some o/\o.cls = .type "tuple" /\ o.dict=none) ∨
   (T = "dict" /\ ((∃kvs,H p=some (.dK kvs))∨∃kvs,H p=some (.dT kvs)))∨(T = "set" /\ ∃S n,H p=some (.set S n))
 |_=>False
def Pa{E:Φ}{σ:St}{H:Hp}{s:Shared}{T:String}{x:V}{v:Value}(I:Inv X E σ H s)(r:qr x v)(ty:tyV X.K T x H) :
  s.TypeIs v T/\∀a,v = .ref a->∃B,s.heap.get? a=some B/\B.dict=none:=by
 cases x with
 |str z=>
  obtain⟨t,rfl⟩:=r;cases(show T = "str" from ty)
  exact⟨typeIs_str s z t,λ_ e=>nomatch e⟩
 |int i=>
  obtain⟨t,rfl⟩:=r;cases(show T = "int" from ty)
  exact⟨typeIs_int s i t,λ_ e=>nomatch e⟩
 |ref p=>
  cases r;rcases ty with⟨rfl,M,G⟩|⟨rfl,o,hk,J,hd⟩|⟨rfl,hk⟩|⟨rfl,S,n,hk⟩
  .obtain⟨L,_,pl,_⟩:=I.list G;refine⟨pl.isList.typeIs,λa e=>?_⟩
   cases e;obtain⟨o,n,e,c,hd,_⟩:=pl;exact⟨o,e,hd⟩
  .refine⟨⟨o,I.kIn p o hk,J⟩,λa e=>?_⟩
   cases e;exact⟨o,I.kIn _ o hk,hd⟩
  .have z:∃o,s.heap.get? p=some o/\o.ExactDict:=by
    rcases hk with⟨l,hk⟩|⟨l,hk⟩
    .obtain⟨_,_,_,_,o,_,_,e,ex,_⟩:=I.hok p _ hk;exact⟨o,e,ex⟩
    .obtain⟨_,_,_,_,o,_,_,e,ex,_⟩:=I.hok p _ hk;exact⟨o,e,ex⟩
   obtain⟨o,e,ex⟩:=z;refine⟨⟨o,e,ex.1⟩,λa u=>?_⟩
   cases u;exact⟨o,e,ex.2.1⟩
  .obtain⟨o,_,_,_,e,ex,_⟩:=I.hok p _ hk;refine⟨⟨o,e,ex.1⟩,λa u=>?_⟩
   cases u;exact⟨o,e,ex.2.1⟩
 |_=>exact False.elim ty
def Zp(K:Ζ)(T:String)(r:V->List V->Hp->VK->Prop)(to:TE):TE:=λσ H Q=>to σ H λx l=>tyV K T x l/\r x [] l Q
def SB(K:Ζ)(T:String)(r:V->List V->Hp->VK->Prop)(to:TE)(t:TA):TE:=λσ H Q=>to σ H λx l=>tyV K T x l/\t σ l λxs n=>r x xs n Q
variable {o e:Expr}{es:List Expr}{to:TE}{t:TA}{name:Str}{apos cpos:Pos}{T id:String}{r:V->List V->Hp->VK->Prop}
def DK(G:PlainAttrs T)(slot:Slot T name id)(u:typeOf (.builtin id)=pure (.type "method_descriptor"))(J:MtR X id r)(L:PE X o to)
  (l:attributeBase o name X.env (eval o X.env)=eval o X.env:=by rfl) (n:(apos.endLine == cpos.line)=true:=by rfl):PE X (.Call (.Attribute o name apos) [] [] cpos) (Zp X.K T r to):=by
 intro z s σ H Q I h;refine wpAny_Call_method0_late l n (thn (L z s σ H _ I h) λv M ⟨x,O,B,E,ty,P⟩=>?_)
 obtain⟨R,S⟩:=Pa B E ty;exact⟨T,id,G,slot,u,R,S,Calls.callWith_builtin rfl (PySem.evalArgs_none (J z M σ O x [] v [] Q B E .nil P))⟩
def va(M:PlainAttrs T)(slot:Slot T name id)(B:typeOf (.builtin id)=pure (.type "method_descriptor"))(O:MtR X id r)(P:PE X o to)(ha:PA X (e::es) t)
  (n:attributeBase o name X.env (eval o X.env)=eval o X.env:=by rfl)
  (z:((mK cpos (kA (e::es) X.env)).all (λx=>!x.1) && (backToKw cpos (keywordEach [] X.env)).all (λx=>x.1.isSome)
   && decide ((e::es).length+([]:List Keyword).length+(if ([]:List Keyword).isEmpty then 0 else 1)<30))=true:=by rfl)
  (u:(apos.endLine == cpos.line)=true:=by rfl) (hs:kA (e::es) X.env=(false,eval e X.env)::kA es X.env:=by rfl) (l:(mK cpos (kA es X.env)).any (·.1)=false:=by rfl) :
  PE X (.Call (.Attribute o name apos) (e::es) [] cpos) (SB X.K T r to t):=by
 intro E s σ H Q I h;refine wpAny_Call_method_late n z u rfl (thn (P E s σ H _ I h) λv R ⟨x,S,G,J,ty,U⟩=>?_)
 obtain⟨Y,h2⟩:=Pa G J ty;refine⟨T,id,M,slot,B,Y,h2,?_⟩;have L:=ha cpos E R σ S _ G U;rw[hs]at L ⊢;refine Calls.callWith_builtin (by show(false || (mK cpos (kA es X.env)).any (·.1))=false;rw[l] <;> rfl) (Calls.evalArgs_plain ?_)
 exact thn L λus s2 ⟨vs,H2,I2,r2,q2⟩=>O E s2 σ H2 x vs v us Q I2 J r2 q2
/- xs.append(e),list.index on a module's tuple .. are MtR facts of 06m -/
end
def MtM(X:Cx)(id:String)(r:V->List V->Hp->VK->Prop):Prop:=
 ∀(l:Φ) (s:Shared) (σ:St) (H:Hp) (x:V) (xs:List V) (v:Value) (n:Ξ) (Q:VK),Inv X l σ H s->qr x v->qc xs n->r x xs H Q ->
  ki (kj X.prog X.w) X.A (call (.builtin id) (v::n)) (EP X l σ Q) X.xe s
def qc.one:∀{x:V}{l:Ξ},qc [x] l->∃u,l=[u]/\qr x u
 |_,_,.cons r .nil=>⟨_,rfl,r⟩
def qc.zero:∀{l:Ξ},qc [] l->l=[]
 |_,.nil=>rfl
theorem qc.dropLast{xs:List V}{l:Ξ}(h:qc xs l):qc xs.dropLast l.dropLast:=by
 induction h with
 |nil=>exact .nil
 |cons r t n=>
  cases t with
  |nil=>exact .nil
  |cons q s=>exact .cons r n
theorem qc.eraseIdx:∀{xs:List V}{l:Ξ}(i:Nat),qc xs l->qc (xs.eraseIdx i) (l.eraseIdx i)
 |_,_,_,.nil=>.nil
 |_,_,0,.cons _ t=>t
 |_,_,i+1,.cons r t=>.cons r (qc.eraseIdx i t)
def A3{α:Type}(l:List α):l.eraseIdx (l.length-1)=l.dropLast:=by
 induction l with
 |nil=>rfl
 |cons a r n=>
  cases r with
  |nil=>rfl
  |cons b r=>
   have e:(a::b::r).length-1=((b::r).length-1)+1:=by
    have s:(a::b::r).length=r.length+2:=rfl;have t:(b::r).length=r.length+1:=rfl;lia
   rw[e,cQ,n]
   all_goals rfl
theorem EV{α:Type}:∀(l:List α) (i:Nat),(l.eraseIdx i).length<=l.length
 | [],_=>af _
 |_::_,0=>cg _
 |_::r,i+1=>Nat.succ_le_succ (EV r i)
section
variable {X:Cx}{oH:Φ}{σ:St}{H:Hp}{s:Shared}{l b:Addr}{xs ys zs:List V}
def Inv.lset{t its':Ξ}{n:Nat}{f:Ω->Ω}{t':Nat}(I:Inv X oH σ H s)(z:H l=some (.lst xs))
  (e:s.heap.get? l=some { cls:=.type "list", data:=.seq t.toArray n }) (B:f t.toArray=its'.toArray) (E:qc ys its') (hz:ys.length<=kr) :
  Inv X oH σ (qw H l (.lst ys)) { s with heap:=s.heap.update l (Obj.mapSeq f),toks:=t' }:=by
 have q:=PySem.IsL.update e f;rw[B]at q;refine I.write (x:=l) (e:=l) (by rw[z];exact trivial) (.inl rfl) (λJ u hb G=>(dQ s.heap (Obj.mapSeq f) (Ne.symm hb)).trans G) ⟨_,q⟩ ?_
 exact⟨hz,its',_,E,q⟩
def Inv.lnew{n:Ξ}{t':Nat}(I:Inv X oH σ H s)(t:qc ys n)(hz:ys.length<=kr) :
  Inv X oH σ (qw H s.heap.objs.size (.lst ys)) { s with heap:=s.heap.push { cls:=.type "list", data:=.seq n.toArray },toks:=t' }:=
 I.laid (λ_ _ q=>ah _ q) (af _) ⟨hz,n,0,t,aH _ rfl⟩
theorem Inv.fresh(I:Inv X oH σ H s):H s.heap.objs.size=none:=I.hok.fresh (af _)
def Inv.lstM(I:Inv X oH σ H s)(u:H l=some (.lst xs)):xs.length<=kr/\∃(t:Ξ) (n:Nat),qc xs t/\xs.length=t.length/\s.heap.get? l=some { cls:=.type "list", data:=.seq t.toArray n }:=by
 obtain⟨z,t,n,r,e⟩:=I.hok l _ u;exact⟨z,t,n,r,r.length,e⟩
def P8{n:Nat}(h:n<=kr):Builtin.List.listTooLong n=false:=by
 unfold Builtin.List.listTooLong;exact d4 (by lia)
end
section
variable {X:Cx}
def zM:V->List V->Hp->VK->Prop:=λx vs H Q=>∃l xs y,x = .ref l/\vs=[y]/\H l=some (.lst xs)/\xs.length<kr/\Q .non (qw H l (.lst (xs++[y])))
def qv:MtM X "list.append" zM:=by
 intro L s σ H x M v O Q I E G h;obtain⟨l,P,y,rfl,rfl,B,R,q⟩:=h;cases E;obtain⟨u,rfl,J⟩:=G.one;obtain⟨z,t,n,r,hl,e⟩:=I.lstM B;refine mW F.slot_list_append ⟨_,e,rfl⟩ F.entry_list_append (F.args_list_append_2 _ _) (PySem.list_append l t.toArray n u (by rw[aF];lia)) ⟨e,?_⟩
 refine⟨.non,_,I.lset (its':=t++[u]) B e (by simp) (r.append (.cons J .nil)) ?_,rfl,q⟩
 rw[lAq,lSq];lia
def LJ:V->List V->Hp->VK->Prop:=λx vs H Q=>∃l b xs n,x = .ref l/\vs=[.ref b]/\H l=some (.lst xs)/\H b=some (.lst n)/\xs.length+n.length<=kr/\Q .non (qw H l (.lst (xs++n)))
def M0:MtM X "list.extend" LJ:=by
 intro oH s σ H x vs v us Q I L M h;obtain⟨l,b,xs,zs,rfl,rfl,J,O,hz,q⟩:=h;cases L;obtain⟨u,rfl,P⟩:=M.one;cases P;obtain⟨z,B,n,r,hl,e⟩:=I.lstM J;obtain⟨z2,t,R,S,U,Y⟩:=I.lstM O;have G:B.toArray.size+t.toArray.size<=kr:=by rw[aF,aF];lia
 have E:¬ (!B.toArray.isEmpty && Builtin.List.listTooLong (B.toArray.size+t.toArray.size))=true:=by
  rw[P8 G,Bool.and_false];exact aJ
 refine mW F.slot_list_extend ⟨_,e,rfl⟩ F.entry_list_extend (F.args_list_extend_2 _ _)
  (AutoSeq1.list_extend_list_list_0 l B.toArray n b t.toArray R E (by rw[aF];lia) (by lia)) ⟨e,Y,?_⟩
 refine⟨.non,_,I.lset (its':=B++t) J e (by simp) (r.append S) ?_,rfl,q⟩
 rw[lAq];lia
def Xv:V->List V->Hp->VK->Prop:=λx vs H Q=>∃l xs y,x = .ref l/\vs=[]/\H l=some (.lst xs)/\xs[xs.length-1]?=some y/\Q y (qw H l (.lst xs.dropLast))
def Ed:MtM X "list.pop" Xv:=by
 intro R s σ H x S v U Q I J L h;obtain⟨l,Y,y,rfl,rfl,G,M,q⟩:=h;cases J;have B:=L.zero;subst B;obtain⟨z,t,n,r,hl,e⟩:=I.lstM G;obtain⟨u,O,P⟩:=r.get M;have E:t.toArray[t.toArray.size-1]?=some u:=by
  show t.toArray[t.length-1]?=some u;rw[←aw,←hl];exact O
 refine mW F.slot_list_pop ⟨_,e,rfl⟩ F.entry_list_pop (F.args_list_pop_1 _) (MeetsSeq.list_pop_last l t.toArray n u E (by rw[aF];lia)) ⟨e,?_⟩
 refine⟨y,_,I.lset (its':=t.dropLast) G e ?_ r.dropLast ?_,P,q⟩
 .show t.toArray.eraseIdxIfInBounds (t.toArray.size-1)=t.dropLast.toArray;rw[aF,gA,A3]
 .rw[List.length_dropLast];lia
def Pp:V->List V->Hp->VK->Prop:=λx vs H Q=>∃l xs i k y,x = .ref l/\vs=[.int i]/\H l=some (.lst xs)/\-(2 ^ 63)<=i/\i<2 ^ 63/\oz i xs.length=some k/\xs[k]?=some y/\Q y (qw H l (.lst (xs.eraseIdx k)))
def Hv:MtM X "list.pop" Pp:=by
 intro U s σ H x Y v us Q I J L h;obtain⟨l,M,i,k,y,rfl,rfl,G,O,P,hk,R,q⟩:=h;cases J;obtain⟨u,rfl,S⟩:=L.one;obtain⟨t,rfl⟩:=S;obtain⟨z,B,n,r,hl,e⟩:=I.lstM G;obtain⟨w,hw,E⟩:=r.get R;refine mW F.slot_list_pop ⟨_,e,rfl⟩ F.entry_list_pop (F.args_list_pop_2 _ _)
  (MeetsSeq.list_pop_at l B.toArray n i t k w (fitsIndex_both O P) (by rw[aF,←hl];exact hk) (by rw[←aw];exact hw) (by rw[aF];lia)) ⟨e,?_⟩
 refine⟨y,_,I.lset (its':=B.eraseIdx k) G e ?_ (r.eraseIdx k) ?_,E,q⟩
 .show B.toArray.eraseIdxIfInBounds k=(B.eraseIdx k).toArray;rw[gA]
 .have:=EV M k;lia
def Zn:R2:=λx y H Q=>∃l b xs n,x = .ref l/\y = .ref b/\H l=some (.lst xs)/\H b=some (.lst n)/\xs.length+n.length<=kr/\∀p,H p=none->Q (.ref p) (qw H p (.lst (xs++n)))
def Xu:BZ X (mJ .Add) Zn:=by
 intro S s σ H x y v u Q I E G h;obtain⟨l,b,U,Y,rfl,rfl,J,L,hz,q⟩:=h;cases E;cases G;obtain⟨z,B,n,r,hl,e⟩:=I.lstM J;obtain⟨z2,t,n2,M,O,P⟩:=I.lstM L;refine PySem.P.add_list e P ?_ (by rw[aF,aF];lia)
 have R:B.toArray++t.toArray=(B++t).toArray:=by simp
 rw[R];exact⟨.ref _,_,I.lnew (t':=s.toks) (r.append M) (by rw[lAq];lia),rfl,q _ I.fresh⟩
end
section
variable {κ:Type}[DecidableEq κ]
def Bq(kvs:List (κ×V))(k:κ):Option V:=(kvs.find? λkv=>decide (kv.1=k)).map (·.2)
def zd(kvs:List (κ×V))(k:κ)(v:V):List (κ×V):=
 if (kvs.any λkv=>decide (kv.1=k))=true then kvs.map (λkv=>if kv.1=k then (kv.1,v)else kv)else kvs++[(k,v)]
def Ew{p:κ×V}{r:List (κ×V)}{k:κ}(e:p.1=k):Bq (p::r) k=some p.2:=by simp[Bq,dG,e]
def DV{p:κ×V}{r:List (κ×V)}{k:κ}(e:¬ p.1=k):Bq (p::r) k=Bq r k:=by simp[Bq,dG,e]
theorem H0(k:κ):∀kvs:List (κ×V),(kvs.any λkv=>decide (kv.1=k))=(Bq kvs k).isSome
 | []=>rfl
 |p::r=>by
  rw[dN]
  by_cases e:p.1=k
  .simp only[Ew e,d0 e,jH,jf]
  .rw[DV e,d4 e,jB];exact H0 k r
def zB(kvs:List (κ×V))(k:κ)(v:V):(zd kvs k v).length<=kvs.length+1:=by
 unfold zd;split
 .rw[lMq];lia
 .rw[lAq,lCq,eJ];lia
def EM.isSome_eq{o:Option V}{u:Υ}(r:EM o u):o.isSome=u.isSome:=by
 cases o with
 |none=>cases u with
  |none=>rfl
  |some _=>exact(show False from r).elim
 |some _=>cases u with
  |none=>exact(show False from r).elim
  |some _=>rfl
def KV.val{kvs:List (κ×V)}{vs:List (κ×Value)}(r:KV kvs vs)(k:κ):EM (Bq kvs k) (nj vs k):=by
 unfold KV at r
 induction r with
 |nil=>exact True.intro
 | @cons p q B l h t u=>
  obtain⟨s,x⟩:=h
  by_cases e:p.1=k
  .have n:q.1=k:=s.symm.trans e;have b:nj (q::l) k=some q.2:=by simp[nj,dG,n]
   rw[Ew e,b];exact x
  .have n:¬ q.1=k:=λz=>e (s.trans z)
   have b:nj (q::l) k=nj l k:=by simp[nj,dG,n]
   rw[DV e,b];exact u
theorem KV.any{kvs:List (κ×V)}{vs:List (κ×Value)}(r:KV kvs vs)(k:κ):(kvs.any λkv=>decide (kv.1=k))=vs.any λkv=>decide (kv.1=k):=by
 unfold KV at r
 induction r with
 |nil=>rfl
 |cons h t l=>rw[dN,dN,l,h.1]
def KV.repl{kvs:List (κ×V)}{vs:List (κ×Value)}(r:KV kvs vs)(k:κ){y:V}{u:Value}(n:qr y u) :
  KV (kvs.map λkv=>if kv.1=k then (kv.1,y)else kv) (vs.map λkv=>if kv.1=k then (kv.1,u)else kv):=by
 unfold KV at r ⊢
 induction r with
 |nil=>exact .nil
 | @cons p q B E h t s=>
  rw[au,au];refine .cons ?_ s;obtain⟨l,x⟩:=h
  by_cases e:p.1=k
  .rw[pH e,pH (l.symm.trans e)];exact⟨l,n⟩
  .rw[pE e,pE (λz=>e (l.trans z))];exact⟨l,x⟩
def KV.put{kvs:List (κ×V)}{vs:List (κ×Value)}(r:KV kvs vs)(k:κ){y:V}{u:Value}(l:qr y u):KV (zd kvs k y) (stored vs k u):=by
 unfold zd stored;rw[r.any k]
 by_cases e:(vs.any λkv=>decide (kv.1=k))=true
 .rw[pH e,pH e];exact r.repl k l
 .rw[pE e,pE e];exact Paired.snoc r ⟨rfl,l⟩
theorem KV.length{kvs:List (κ×V)}{vs:List (κ×Value)}(r:KV kvs vs):kvs.length=vs.length:=Paired.length r
end
def Fk{P:ku}{w:ky}{k:pI}{u:Value}(r:qr (kV k) u):(qE P w).is k u=true:=by
 cases k with
 |inl i=>obtain⟨t,e⟩:=(show ∃t,u=fY i t from r);subst e;exact Il P w i t
 |inr x=>obtain⟨t,e⟩:=(show ∃t,u=jA x t from r);subst e;exact Jb P w x t
theorem FG{P:ku}{w:ky}:∀{ks:List pI}{l:Ξ},qc (ks.map kV) l->ItemsAre (qE P w) ks l
 | [],_,r=>by rw[fU]at r;cases r;exact .nil
 |k::ks,_,r=>by
  rw[au]at r;cases r with
  |cons h t=>exact .cons (Fk h) (FG t)
abbrev KT(H:Hp):List (List pI×V)->List (List pI×Addr×Value)->Prop:=Paired λp q=>p.1=q.1/\H q.2.1=some (.tup (p.1.map kV))/\qr p.2 q.2.2
def KT.val{H:Hp}{kvs:List (List pI×V)}{xs:List (List pI×Addr×Value)}(r:KT H kvs xs)(k:List pI):EM (Bq kvs k) ((nD xs k).map (·.2)):=by
 induction r with
 |nil=>exact True.intro
 | @cons p q B l h t u=>
  obtain⟨s,_,x⟩:=h
  by_cases e:p.1=k
  .have n:q.1=k:=s.symm.trans e;have b:nD (q::l) k=some q.2:=by simp[nD,dG,n]
   rw[Ew e,b];exact x
  .have n:¬ q.1=k:=λz=>e (s.trans z)
   have b:nD (q::l) k=nD l k:=by simp[nD,dG,n]
   rw[DV e,b];exact u
def KT.repl{H:Hp}{kvs:List (List pI×V)}{xs:List (List pI×Addr×Value)}(r:KT H kvs xs)(k:List pI){y:V}{u:Value}(s:qr y u) :
  KT H (kvs.map λkv=>if kv.1=k then (kv.1,y)else kv) (xs.map (putAt k u)):=by
 induction r with
 |nil=>exact .nil
 | @cons p q E G h t x=>
  rw[au,au];refine .cons ?_ x;obtain⟨l,n,B⟩:=h;unfold putAt
  by_cases e:p.1=k
  .rw[pH e,pH (l.symm.trans e)];exact⟨l,n,s⟩
  .rw[pE e,pE (λz=>e (l.trans z))];exact⟨l,n,B⟩
def KT.put{H:Hp}{kvs:List (List pI×V)}{xs:List (List pI×Addr×Value)}(r:KT H kvs xs)(k:List pI){b:Addr}{y:V}{u:Value}(hb:H b=some (.tup (k.map kV)))(l:qr y u) :
  KT H (zd kvs k y) (storedH xs k b u):=by
 have e:(kvs.any λkv=>decide (kv.1=k))=(nD xs k).isSome:=by
  rw[H0,(r.val k).isSome_eq,cU]
 unfold zd storedH;rw[e]
 by_cases q:(nD xs k).isSome=true
 .rw[pH q,pH q];exact r.repl k l
 .rw[pE q,pE q];exact Paired.snoc r ⟨rfl,hb,l⟩
def KT.keeps{H l:Hp}{kvs:List (List pI×V)}{xs:List (List pI×Addr×Value)}(r:KT H kvs xs)(ht:∀b ys,H b=some (.tup ys)->l b=some (.tup ys)):KT l kvs xs:=
 Paired.mapP r λ_ _ z=>⟨z.1,ht _ _ z.2.1,z.2.2⟩
section
variable {P:ku}{w:ky}{H:Hp}{h:Heap}{a:Addr}
def Vy{u:HO}(ok:A7 P w H h)(e:Rd H a u):qR P w H h a u:=e.ok ok
def Eo{kvs:List (pI×V)}(ok:A7 P w H h)(e:Rd H a (.dK kvs)):kvs.length<=kr/\(a == kX)=false/\∃vs,KV kvs vs/\h.DictOf (qE P w) a vs:=
 show qR P w H h a (.dK kvs)from Vy ok e
def VX{kvs:List (pI×V)}(ok:A7 P w H h)(e:H a=some (.dK kvs)):kvs.length<=kr/\(a == kX)=false/\∃vs,KV kvs vs/\h.DictOf (qE P w) a vs:=Eo ok (.inl e)
def DO{ks:List pI}(ok:A7 P w H h)(e:H a=some (.tup (ks.map kV))):(nC (qE P w)).is h ks a:=by
 obtain⟨_,l,r,o,s,t,n,u⟩:=(show qR P w H h a (.tup (ks.map kV))from ok a _ e)
 exact⟨o,l.toArray,n,s,t,u,by simpa using FG r⟩
def ET{kvs:List (List pI×V)}(ok:A7 P w H h)(e:Rd H a (.dT kvs)):kvs.length<=kr/\(a == kX)=false /\
  ∃xs,KT H kvs xs/\h.DictOfH (nC (qE P w)) a xs:=by
 obtain⟨z,y,xs,r,o,u,B,E,G,I,J,L⟩:=(show qR P w H h a (.dT kvs)from Vy ok e)
 refine⟨z,y,xs,r,o,u,B,E,G,I,J,λx n=>?_,L⟩
 have all:∀{l:List (List pI×V)}{m:List (List pI×Addr×Value)},KT H l m->∀x∈m,(nC (qE P w)).is h x.1 x.2.1:=by
  intro l m q
  induction q with
  |nil=>intro x n;exact nomatch n
  | @cons p q O Q s t M=>
   intro x n;rcases ae.mp n with e|n
   .subst e;exact DO ok (by rw[←s.1];exact s.2.1)
   .exact M x n
 exact all r x n
def Zs{kvs:List (List pI×V)}(ok:A7 P w H h)(e:H a=some (.dT kvs)):kvs.length<=kr/\(a == kX)=false /\
  ∃xs,KT H kvs xs/\h.DictOfH (nC (qE P w)) a xs:=ET ok (.inl e)
end
def Co(H:Hp)(a:Addr)(y:V)(r:Option V):Prop:=
 (∃kvs k,Rd H a (.dK kvs)/\y=kV k/\r=Bq kvs k)∨∃kvs k b,Rd H a (.dT kvs)/\y = .ref b/\H b=some (.tup (k.map kV))/\r=Bq kvs k
def OC(H:Hp)(a:Addr)(y v:V)(l:Hp):Prop:=
 (∃kvs k,H a=some (.dK kvs)/\y=kV k/\kvs.length<kr/\l=qw H a (.dK (zd kvs k v))) ∨
 ∃kvs k b,H a=some (.dT kvs)/\y = .ref b/\H b=some (.tup (k.map kV))/\kvs.length<kr/\l=qw H a (.dT (zd kvs k v))
theorem Co.k{H:Hp}{a:Addr}{kvs:List (pI×V)}{k:pI}(e:H a=some (.dK kvs)):Co H a (kV k) (Bq kvs k):=.inl ⟨kvs,k,.inl e,rfl,rfl⟩
theorem OC.k{H:Hp}{a:Addr}{kvs:List (pI×V)}{k:pI}{v:V}(e:H a=some (.dK kvs))(hl:kvs.length<kr):OC H a (kV k) v (qw H a (.dK (zd kvs k v))):=.inl ⟨kvs,k,e,rfl,hl,rfl⟩
section
variable {X:Cx}{oH:Φ}{σ:St}{H:Hp}{s:Shared}{a:Addr}{y v:V}{u r:Value}{o:Option V}{A:Around}{E:Ψ}
def Inv.big(I:Inv X oH σ H s):kX<s.heap.objs.size:=by
 have h:kx<s.heap.objs.size:=(I.mod.glob.keeps I.bk).lt;exact jg (by decide) h
def MY{Q:Ψ}(O:A.units+1<lB)(I:Inv X oH σ H s)(g:Co H a y (some v))(L:qr y u)(h:∀x M,Inv X oH σ H M->qr v x->Q x M) :
  ki (kj X.prog X.w) A (nU (.ref a) u) Q E s:=by
 rcases g with⟨B,k,e,G,l⟩|⟨B,k,b,e,G,P,l⟩
 .subst G;obtain⟨z,hd,R,n,dd⟩:=Eo I.hok e;obtain⟨x,hw,t⟩:=EM.some_of (v:=v) (o:=nj R k) (by rw[l];exact n.val k)
  exact wpAny_getItem_of (Fk L) dd.mapOf hw (h x _ (I.tok _) t)
 .subst G;cases(show u=cA b from L)
  obtain⟨z,hd,S,n,dd⟩:=ET I.hok e;obtain⟨x,hw,t⟩:=EM.some_of (v:=v) (o:=(nD S k).map (·.2)) (by rw[l];exact n.val k)
  obtain⟨p,U,J⟩:=oMq.mp hw;refine wpAny_getItem_heap (mH O) (DO I.hok P) dd U ?_;rw[J];exact h x _ (I.tok _) t
def abn{Q:Ψ}(J:A.units+1<lB)(I:Inv X oH σ H s)(g:Co H a y o)(B:qr y u)(h:∀G,Inv X oH σ H G->Q (.bool o.isSome) G) :
  ki (kj X.prog X.w) A (kG .In u (.ref a)) Q E s:=by
 rcases g with⟨t,k,e,x,l⟩|⟨t,k,b,e,x,L,l⟩
 .subst x;obtain⟨z,hd,M,n,dd⟩:=Eo I.hok e;refine wpAny_in_of (Fk B) hd dd.mapOf ?_;rw[← (n.val k).isSome_eq,←l];exact h _ (I.tok _)
 .subst x;cases(show u=cA b from B)
  obtain⟨z,hd,O,n,dd⟩:=ET I.hok e;refine wpAny_in_heap (mH J) (DO I.hok L) hd dd ?_;have q:=(n.val k).isSome_eq;rw[cU]at q;rw[←q,←l];exact h _ (I.tok _)
def UF{Q:Ψ}(J:A.units+1<lB)(I:Inv X oH σ H s)(g:Co H a y o)(B:qr y u)(h:∀G,Inv X oH σ H G->Q (.bool (!o.isSome)) G) :
  ki (kj X.prog X.w) A (kG .NotIn u (.ref a)) Q E s:=by
 rcases g with⟨t,k,e,x,l⟩|⟨t,k,b,e,x,L,l⟩
 .subst x;obtain⟨z,hd,M,n,dd⟩:=Eo I.hok e;refine wpAny_notIn_of (Fk B) hd dd.mapOf ?_;rw[← (n.val k).isSome_eq,←l];exact h _ (I.tok _)
 .subst x;cases(show u=cA b from B)
  obtain⟨z,hd,O,n,dd⟩:=ET I.hok e;refine wpAny_notIn_heap (mH J) (DO I.hok L) hd dd ?_;have q:=(n.val k).isSome_eq;rw[cU]at q;rw[←q,←l];exact h _ (I.tok _)
def Gn{h':Heap}{t':Nat}{l:HO}(I:Inv X oH σ H s)(mu:Mut (H a))(hs:bZ a s.heap h')(n:∃q,h'.get? a=some q)(new:qR X.prog X.w (qw H a l) h' a l) :
  Inv X oH σ (qw H a l) { s with heap:=h',toks:=t' }:=
 I.write (x:=a) (e:=a) mu (.inl rfl) (λb q hb z=>(hs.2 b hb).trans z) n new
def QR{P:ku}{w:ky}{n:Hp}{h':Heap}{kvs:List (pI×V)}{vs:List (pI×Value)}(z:kvs.length<=kr)(hd:(a == kX)=false)(l:KV kvs vs)(dd:h'.DictOf (qE P w) a vs) :
  qR P w n h' a (.dK kvs):=⟨z,hd,vs,l,dd⟩
def Ng{M:Hp}{Q:Unit->Shared->Prop}(hu:A.units+1<lB)(I:Inv X oH σ H s)(g:OC H a y v M)(O:qr y u)(P:qr v r)(h:∀R,Inv X oH σ M R->Q () R) :
  ki (kj X.prog X.w) A (setItem (.ref a) u r) Q E s:=by
 rcases g with⟨n,k,e,G,l,J⟩|⟨n,k,b,e,G,S,l,J⟩
 .subst G J;obtain⟨z,hd,vs,t,dd⟩:=VX I.hok e;have L:vs.length<=kr:=by rw[←t.length];exact z
  have hl:(zd n k v).length<=kr:=by have:=zB n k v;lia
  refine wpAny_setItem_pairs (hsz:=L) (Fk O) dd λU x hs=>h _ ?_
  have he:∃q,U.get? a=some q:=let ⟨q,_,_,B,_⟩:=x;⟨q,B⟩
  exact Gn I (by rw[e];exact True.intro) hs he (QR hl hd (t.put k P) x)
 .subst G J;cases(show u=cA b from O)
  obtain⟨z,hd,xs,t,dd⟩:=Zs I.hok e;have L:xs.length<=kr:=by rw[←Paired.length t];exact z
  have hl:(zd n k v).length<=kr:=by have:=zB n k v;lia
  refine wpAny_setItem_heap (hsz:=L) (mH hu) (DO I.hok S) dd λU x hs=>h _ ?_
  obtain⟨q,es,ep,B,h2,h3,h4,_,h5⟩:=x;refine Gn I (by rw[e];exact True.intro) hs ⟨q,B⟩ ⟨hl,hd,_,(t.put k S P).keeps λc ys Y=>?_,q,es,ep,B,h2,h3,h4,h5⟩
  rw[pd (Y7 Y e (λz=>nomatch z))]
  exact Y
end
section
variable {X:Cx}{oH:Φ}{σ:St}{H:Hp}{s:Shared}{a:Addr}{kvs:List (pI×V)}{k:pI}{u:Value}{A:Around}{E:Ψ}
def Z4{Q:Ψ}(I:Inv X oH σ H s)(e:Rd H a (.dK kvs))(h:∀t n,Inv X oH σ H n->Q (.int kvs.length t) n):ki (kj X.prog X.w) A (call (.builtin "len") [.ref a]) Q E s:=by
 obtain⟨z,hd,x,l,dd⟩:=Eo I.hok e;refine call_len_dict hd dd (by rw[←l.length];rw[kJ]at z;lia) ?_
 rw[←l.length];exact h _ _ (I.tok _)
end
def aau(i:Expr):Prop:=∀l n,nF i false l n=operate [l,n] (nU l n)
def TH{prog:ku}{w:ky}{A:Around}{E:Ψ}{s:Shared}{env:Env}{n l:Expr}{pos:Pos}{T id:String}{Q:Ψ}
  (hl:typeLookup (.type T) "__getitem__" = pure (some (.builtin id))) (hs:aau l)
  (h:ki (kj prog w) A (eval n env) (λo z=>ki (kj prog w) A (eval l env) (λi t=>t.TypeIs o T/\ki (kj prog w) A (nU o i) Q E t) E z) E s) :
  ki (kj prog w) A (eval (.Subscript n l pos) env) Q E s:=by
 refine Subscript_ (kM h (λo z G=>kM G (λi t u=>?_) λ_ _ x=>x) λ_ _ x=>x)
 obtain⟨I,u⟩:=u;unfold oj;refine jZ ?_;rw[getitemInPython_of_ne I.not_modules];refine jZ (wpAny_specialOf I hl ?_);have fin:ki (kj prog w) A (nF l false o i) (λr B=>ki (kj prog w) A (letTemporaryGo n o r >>= λ_=>pure r) Q E B) E t:=by
  rw[hs o i];exact wpAny_operating (kM u (λr B H=>jZ (wpAny_letTemporaryGo (kf H))) λ_ _ x=>x)
 first
  |exact kf (jZ fin)
  |exact jZ (kf (jZ fin))
  |exact jZ fin
def HH{X:Cx}{n:Φ}{σ:St}{H:Hp}{s:Shared}{a:Addr}{y:V}{o:Option V}(I:Inv X n σ H s)(g:Co H a y o):s.TypeIs (.ref a) "dict" := by
 rcases g with⟨l,k,e,_,_⟩|⟨l,k,b,e,_,_,_⟩
 .obtain⟨_,_,t,_,dd⟩:=Eo I.hok e;exact dd.typeIs
 .obtain⟨_,_,u,_,dd⟩:=ET I.hok e;exact dd.typeIs
def Qg(n ty:TE):TE:=λσ H Q=>n σ H λx s=>ty σ s λy l=>∃a v,x = .ref a/\Co l a y (some v)/\Q v l
def Z8(ty n:TE):TE:=λσ H Q=>ty σ H λy s=>n σ s λx l=>∃a o,x = .ref a/\Co l a y o/\Q (.bl o.isSome) l
def FZ(ty n:TE):TE:=λσ H Q=>ty σ H λy s=>n σ s λx l=>∃a o,x = .ref a/\Co l a y o/\Q (.bl (!o.isSome)) l
def VY(l ty n:TE):TS:=λD σ H=>n σ H λv s=>l σ s λx t=>ty σ t λy u=>∃a H4,x = .ref a/\OC u a y v H4/\D.nx σ H4
section
variable {X:Cx}{o i e value:Expr}{pos pos' tpos:Pos}{td ty tv:TE}
def Dj(z:X.A.units+1<lB)(B:PE X o td)(hi:PE X i ty)(hs:aau i):PE X (.Subscript o i pos) (Qg td ty):=by
 intro n s σ H Q I h;refine TH PySem.F.slot_dict_getitem.lookup hs (thn (B n s σ H _ I h) λu E ⟨x,G,J,L,M⟩=>thn (hi n E σ G _ J M) λU Y ⟨y,O,t,P,a,v,ex,g,R⟩=>?_)
 subst ex;obtain rfl:u=cA a:=L;exact⟨HH t g,MY z t g P λw' s3 S l=>⟨v,O,S,l,R⟩⟩
def W4(n:X.A.units+1<lB)(hi:PE X i ty)(t:PE X o td):PC X .In i o (Z8 ty td):=by
 intro l s σ H Q I h;refine thn (hi l s σ H _ I h) λU z ⟨y,B,E,G,J⟩=>thn (t l z σ B _ E J) λu Y ⟨x,L,M,O,a,P,ex,g,R⟩=>?_
 subst ex;obtain rfl:u=cA a:=O;exact abn n M g G λs3 S=>⟨.bl P.isSome,L,S,rfl,R⟩
def FE(n:X.A.units+1<lB)(hi:PE X i ty)(t:PE X o td):PC X .NotIn i o (FZ ty td):=by
 intro l s σ H Q I h;refine thn (hi l s σ H _ I h) λU z ⟨y,B,E,G,J⟩=>thn (t l z σ B _ E J) λu Y ⟨x,L,M,O,a,P,ex,g,R⟩=>?_
 subst ex;obtain rfl:u=cA a:=O;exact UF n M g G λs3 S=>⟨.bl (!P.isSome),L,S,rfl,R⟩
def GV(n:X.A.units+1<lB)(t:PE X o td)(hi:PE X i ty)(z:PE X value tv)(hs:mZ value (some (.Subscript o i pos')) pos.line X.env=pure false) :
  PS X (.Assign [.Subscript o i pos'] value pos) (VY td ty tv):=by
 intro l s σ H D I h;refine wpAny_Assign_Subscript (thn (z l s σ H _ I h) λr B ⟨v,E,G,J,L⟩=>thn (t l B σ E _ G L) λu M ⟨x,O,P,Q,R⟩=>thn (hi l M σ O _ P R) λiv s3 ⟨y,H3,S,U,a,H4,ex,g,Y⟩=>?_) hs
 subst ex;obtain rfl:u=cA a:=Q;exact Ng n S g U J λs4 I4=>⟨σ,H4,I4,Y⟩
end
def Ia{P:ku}{w:ky}{H:Hp}(h:Heap)(hb:kX<h.objs.size):qR P w H (h.push { cls:=.type "dict", data:=.dict #[] }) h.objs.size (.dK []):=
 ⟨bx _,beq_eq_false_iff_ne.mpr (Ne.symm (aD hb)),[],.nil,Heap.DictOf.new h⟩
def R8:TE:=λ_ H Q=>∀p,H p=none->Q (.ref p) (qw H p (.dK []))
section
variable {X:Cx}{pos:Pos}
def Dw:PE X (.Dict [] [] pos) R8:=λl s σ H Q I h=>
 wpAny_Dict_empty ⟨.ref s.heap.objs.size,_,I.laid (a:=s.heap.objs.size) (o:=.dK []) (t':=s.toks) (λ_ _ q=>ah _ q) (af _) (Ia s.heap I.big),rfl,h _ (I.hok.fresh (af _))⟩
end
def JO:List (TE×TE)->St->Hp->(List (V×V)->Hp->Prop)->Prop
 | [],_,H,Q=>Q [] H
 | (l,n)::r,σ,H,Q=>l σ H λx s=>n σ s λy t=>JO r σ t λps u=>Q ((x,y)::ps) u
abbrev VV:List (V×V)->List (Value×Value)->Prop:=Paired λp q=>qr p.1 q.1/\qr p.2 q.2
def PPs(X:Cx)(pos:Pos)(n:List (Option Expr))(l:List Expr)(t:List (TE×TE)):Prop:=
 ∀(u:Φ) (s:Shared) (σ:St) (H:Hp) (Q:List (V×V)->Hp->Prop),Inv X u σ H s->JO t σ H Q ->
  ki (kj X.prog X.w) X.A (evalPairs (pairTrees n l X.env pos)) (λvs z=>∃ps x,Inv X u σ x z/\VV ps vs/\Q ps x) X.xe s
def UU{X:Cx}{pos:Pos}:PPs X pos [] [] []:=λl s σ H Q I h=>pairTrees_nil_walk ⟨[],H,I,.nil,h⟩
def Qn{X:Cx}{pos:Pos}{k v:Expr}{ks:List (Option Expr)}{vs:List Expr}{z B:TE}{l:List (TE×TE)}(hk:PE X k z)(E:PE X v B)(hr:PPs X pos ks vs l) :
  PPs X pos (some k::ks) (v::vs) ((z,B)::l):=λn s σ H Q I h=>
 pairTrees_cons_walk (thn (hk n s σ H _ I h) λu G ⟨x,J,L,M,O⟩=>thn (E n G σ J _ L O) λw2 P ⟨y,R,S,U,Y⟩=>
  thn (hr n P σ R _ S Y) λws s3 ⟨ps,H3,I3,t,q3⟩=>⟨(x,y)::ps,H3,I3,.cons ⟨M,U⟩ t,q3⟩)
def B1(kvs more:List (pI×V)):List (pI×V):=more.foldl (λl kv=>zd l kv.1 kv.2) kvs
def KV.merge:∀{more:List (pI×V)}{rs:List (pI×Value)}{kvs:List (pI×V)}{vs:List (pI×Value)},KV more rs->KV kvs vs->KV (B1 kvs more) (merged vs rs):=by
 intro more rs kvs vs r;unfold KV at r
 induction r generalizing kvs vs with
 |nil=>intro q;exact q
 | @cons p q s u h t l=>
  intro n;have e:KV (zd kvs p.1 p.2) (stored vs q.1 q.2):=by
   have:=n.put p.1 h.2;rw[←h.1];exact this
  exact l e
theorem As:∀(more kvs:List (pI×V)),(B1 kvs more).length<=kvs.length+more.length
 | [],kvs=>by show kvs.length<=kvs.length+0;lia
 |p::r,kvs=>by
  have l:=As r (zd kvs p.1 p.2);have n:=zB kvs p.1 p.2;show(B1 (zd kvs p.1 p.2) r).length<=_;rw[lCq];lia
theorem Er{P:ku}{w:ky}:∀{kvs:List (pI×V)}{ws:List (Value×Value)},VV (kvs.map λkv=>(kV kv.1,kv.2)) ws->∃rs,Carries (qE P w) ws rs/\KV kvs rs
 | [],_,r=>by rw[fU]at r;cases r;exact⟨[],True.intro,.nil⟩
 |p::kvs,_,r=>by
  rw[au]at r;cases r with
  | @cons a b l bs h t=>
   obtain⟨rs,c,q⟩:=Er (P:=P) (w:=w) t;obtain⟨b1,b2⟩:=b;exact⟨(p.1,b2)::rs,⟨Fk h.1,rfl,c⟩,.cons ⟨rfl,h.2⟩ q⟩
def Vq(l:List (TE×TE)):TE:=λσ H Q=>∀p,H p=none->JO l σ (qw H p (.dK [])) λps n=>n p=some (.dK [])/\∃kvs:List (pI×V),ps=kvs.map (λkv=>(kV kv.1,kv.2))/\kvs.length<=15/\Q (.ref p) (qw n p (.dK (B1 [] kvs)))
def Tg{X:Cx}{pos:Pos}{l:List (Option Expr)}{n:List Expr}{t:List (TE×TE)}(h:PPs X pos l n t)(u:l.all (·.isSome)=true)(hl:l.length=n.length)(L:l≠[])
  (E:l.length<=15):PE X (.Dict l n pos) (Vq t):=by
 intro M s σ H Q I q;have hn:=I.hok.fresh (af s.heap.objs.size);have O:=I.laid (a:=s.heap.objs.size) (o:=.dK []) (h':=s.heap.push { cls:=.type "dict", data:=.dict #[] }) (t':=s.toks) (λ_ _ q=>ah _ q) (af _) (Ia s.heap I.big)
 refine wpAny_Dict_walk (knd:=qE X.prog X.w) u hl L E (thn (h M _ σ _ _ O (q _ hn)) λws s2 ⟨ps,H2,J,G,e,x,R,lk,S⟩=>?_)
 subst R;obtain⟨U,c,Y⟩:=Er (P:=X.prog) (w:=X.w) G;obtain⟨z,hd,vs0,r0,dd⟩:=VX J.hok e;cases r0;refine⟨U,c,dd,λh' B hs=>⟨.ref s.heap.objs.size,_,?_,rfl,S⟩⟩
 have hz:(B1 [] x).length<=kr:=by
  have h1:=As x [];rw[eJ]at h1;rw[kJ];lia
 have he:∃q,h'.get? s.heap.objs.size=some q:=let ⟨q,_,_,hq,_⟩:=B;⟨q,hq⟩
 exact Gn J (by rw[e];exact True.intro) hs he (QR hz hd (Y.merge .nil) B)
def IsD(H:Hp)(a:Addr):Prop:=(∃kvs,Rd H a (.dK kvs))∨∃kvs,Rd H a (.dT kvs)
def XD{X:Cx}{x:Φ}{σ:St}{H:Hp}{s:Shared}{a:Addr}(I:Inv X x σ H s)(d:IsD H a) :
  s.TypeIs (.ref a) "dict" /\ (∀b,cA a = .ref b->∃l,s.heap.get? b=some l/\l.dict=none)/\(a == kX)=false:=by
 rcases d with⟨n,e⟩|⟨n,e⟩
 .obtain⟨_,hd,z,_,dd⟩:=Eo I.hok e;refine⟨dd.typeIs,λb q=>?_,hd⟩
  cases q;obtain⟨l,_,_,t,u,_⟩:=dd;exact⟨l,t,u.2.1⟩
 .obtain⟨_,hd,B,_,dd⟩:=ET I.hok e;refine⟨dd.typeIs,λb q=>?_,hd⟩
  cases q;obtain⟨l,_,_,t,u,_⟩:=dd;exact⟨l,t,u.2.1⟩
end L2
namespace Att
open PySem PySem.W PySem.Calls PyProof.Rows
def CS{P:Params}{h:Heap}:∀(ns:Ϝ) (vs:Ξ),WellAll P h vs (ns.map WData.int)->kK vs ns:=by
 intro ns
 induction ns with
 |nil=>
  intro vs w;rw[fU]at w;cases w;exact .nil
 |cons n ns l=>
  intro vs w;rw[au]at w;cases w with
  |cons a b=>
   cases a;exact .cons _ _ (l _ b)
def My{l:OpenLaw}{n:Nat}(hn:l.most=some n){P:Params}{h:Heap}{args:List WData}{s:Ξ}
  (t:l.row.toRowW.claim.pre args=true) (E:WellAll P h s args) :
  ∃a vs ns,s=[cA a]/\args=[WData.list (ns.map WData.int)]/\h.get? a=some { cls:=.type "list", data:=.seq vs.toArray }/\kK vs ns/\ns.length<=n:=by
 have G:WShape.hasAll [] args [.list .int]=true:=(pre_splitW t).1;have H:l.pre.holds [] { args:=args }=true:=(pre_splitW t).2;obtain⟨d,r,rfl,I,J⟩:=hasAllW_cons G;obtain rfl:=hasAllW_nil J;obtain⟨S,rfl,L⟩:=hasW_list I;obtain⟨ns,rfl⟩:=items_int L;have u:ns.length<=n:=by
  unfold OpenLaw.pre at H;have z:(WTm.not (.lt (.lit (.int (n:Int))) (.len (.arg 0)))).holds [] { args:=[.list (ns.map .int)] }=true:=by
   have z:=(holds_andW H).1;rw[hn]at z;exact z
  have B:=condW_of z (w_not (w_lt w_lit (w_len_list (w_arg rfl))));rw[lMq]at B;refine iB λq=>?_
  have M:(n:Int)<((ns.length:Nat):Int):=by lia
  first
   | (rw[d0 M]at B;exact absurd B (by decide))
   | (simp at B;lia)
 cases E with
 |cons O Q=>
  cases Q;cases O with
  |list R x=>exact⟨_,_,ns,rfl,rfl,R,CS ns _ x,u⟩
def Mw(l:OpenLaw)(args:List WData):l.row.toRowW.claim.post args (.bool true) args=true:=
 postW_of (r:=l.row.toRowW) (X:=(true == true))
  (show WShape.has [] (.bool true) .bool=true by first|rfl|decide|simp[WShape.has,WShape.arms,WShape.armsAll])
  (show(WTm.eq .res (.lit (.bool true))).value [] { args:=args,res:=some (.bool true),after:=args }=some (.bool (true == true))from w_eq_bool (w_res rfl) w_lit) rfl
def HW{l:OpenLaw}{n:Nat}{q:ku}{loose:List Str}{Q:(Str->Υ)->Heap->Prop}{R:ky->Heap->Prop}{d:DefRec}
  (hn:l.most=some n) (J:d.params.defaults=[])
  (call:∀(w:ky) (s₀ s:Shared) (mg L:Str->Υ) (x:Addr) (o:Obj) (pm H t:Value) (a:Addr) (vs:Ξ) (ns:Ϝ),
   Ground q loose [] Q w s₀ mg L s.heap->R w s.heap ->
   s.heap.get? x=some o->o.data = .func (docDef d.name d.params d.body d.scope pm H t)->s.heap.CodeRec H d.name->mg d.name=some (.ref x) ->
   s.heap.get? a=some { cls:=.type "list", data:=.seq vs.toArray }->kK vs ns->ns.length<=n->s.gens=#[] ->
   lV (kj l.prog w) nr (.call (.ref x) ⟨[.ref a],[]⟩) (λr I=>r = .ok (.ret (.bool true))/\OldK s.heap I.heap/\I.os=s.os/\mQ I.gens) s) :
  WalkO q loose Q R l.row.toRowW d [] (λf vs=>PySem.call f vs):=by
 intro w s₀ s mg L G Y x o pm H t dV kV ho hd M S O hg U X as z hlay hrd P hlo;obtain rfl:dV = .none:=Dflts.none S J;obtain rfl:kV = .none:=Dflts.noKw S;obtain⟨a,vs,ns,rfl,rfl,B,u,E⟩:=My hn z P;refine enter_call (mU (call w s₀ s mg L x o pm H t a vs ns G Y ho (fd_plain hd) M O B u E hg) λr I hq=>?_)
 obtain⟨rfl,h2,h3,h4⟩:=hq;exact⟨.inl ⟨.bool true,.bool true,[],rfl,λ_=>rfl,.bool true,Mw l _,λ_=>⟨bq.nil,λ_ hm=>(nomatch hm)⟩⟩,h2,h3,h4⟩
end Att
namespace L2
open PySem PySem.Spec PyProof.Rows
theorem vals_ints:∀{vs:Ξ}{ns:Ϝ},kK vs ns->qc (ns.map V.int) vs
 |_,_,.nil=>.nil
 |_,_,.cons n t h=>.cons ⟨t,rfl⟩ (vals_ints h)
def XU(H:Hp):Prop:=∀b,H b=none∨∃o xs,H b=some (.frz o (.lst xs))
def PV{P:ku}{w:ky}{K:Ζ}{mg X:Str->Υ}{CX:Pf}{k:Nat}{Y a:Addr}{fd:kH}{x:Str}{sp:Sp}{l:Shared}{vs:Ξ}{ns:Ϝ}
  (KX:K.In l.heap) (J:l.heap.Ns kx mg) (hb:l.heap.Ns builtinsNs X) (hbb:∀x:Str,x ≠ "__name__" -> X x=mI x) (L:l.heap.NoLimit) (hg:l.gens=#[])
  (ha:l.heap.get? a=some { cls:=.type "list", data:=.seq vs.toArray }) (hi:kK vs ns) (hl:ns.length<=kr) (hr:uW k nr)
  (F:∀base:Heap,K.In base->base.Ns kx mg->CT P w K mg base CX k Y fd [x] sp) (I:∀(s:Shared) (u:Value),nV s fd ⟨[u],[]⟩ [(x,u)])
  (hsp:∀H:Hp,XU H->rJ K H a (ns.map V.int)->sp [.ref a] H (λv _=>v = .bl true) λ_ _ _=>False)
  (hCX:∀H e B,CX [] H l (λ_ _ _=>False) e B->False) :
  lV (kj P w) nr (.call (.ref Y) ⟨[.ref a],[]⟩) (λr B=>r = .ok (.ret (.bool true))/\OldK l.heap B.heap/\B.os=l.os/\mQ B.gens) l:=by
 have rv:=vals_ints hi;have M:=hi.length;have G:∀H:Hp,XU H->rJ K H a (ns.map V.int)->A7 P w H l.heap->(∀b,H b≠none->b=a)->(H a≠none->K.lookup a=none) ->
   lV (kj P w) nr (.call (.ref Y) ⟨[.ref a],[]⟩) (λr B=>r = .ok (.ret (.bool true))/\OldK l.heap B.heap/\B.os=l.os/\mQ B.gens) l:=by
  intro H hO hS hok hA hK;have t:∀{b:Addr}{o:Obj},l.heap.get? b=some o->H b=none->(GU l.heap H).get? b=some o:=λe n=>Sz e n
  have noA:∀{b:Addr}{o:Obj}{O:Array DictEntry}{Q:Nat},l.heap.get? b=some o->o.data = .dict O Q->H b=none:=λ{b o O Q} e d=>by
   cases q:H b with
   |none=>rfl
   |some u=>
    have e':b=a:=hA b (by rw[q];simp)
    subst e';rw[ha]at e;cases e;have d':Data.seq vs.toArray _=Data.dict O Q:=d;cases d'
  have E:∀{b:Addr}{m:Str->Υ},l.heap.Ns b m->(GU l.heap H).Ns b m:=λ{b m} ⟨o,O,Q,e,d,r⟩=>⟨o,O,Q,t e (noA e d),d,r⟩
  have R:K.In (GU l.heap H):=λb o e=>t (KX b o e) (by
   cases q:H b with
   |none=>rfl
   |some u=>
    have e':b=a:=hA b (by rw[q];simp)
    subst e';rw[hK (by rw[q];simp)]at e;cases e)
  have hM:Mod K mg (GU l.heap H):=⟨R,E J,⟨X,E hb,hbb⟩,let ⟨mc,h1,h2⟩:=L;⟨mc,E h1,h2⟩⟩
  have e0:U8 P w K mg (GU l.heap H) nr [] l H:=⟨rfl,hM,λb o e=>UJ e,fA (Mn _ _),trivial,λb hb=>absurd (show b∈([]:Δ)from hb) (by simp),hok,.of_eq hg⟩
  refine mU ((F _ R (E J)).run nr [] l H ⟨[.ref a],[]⟩ [.ref a] [.ref a] _ _ hr e0 (I l (.ref a)) (.cons rfl .nil) (hsp H hO hS)) λr B h=>?_
  cases r with
  |error e=>exact(hCX H e B h).elim
  |ok fl=>
   cases fl with
   |next=>exact False.elim h
   |brk=>exact False.elim h
   |cont=>exact False.elim h
   |ret u=>
    obtain⟨v,H',os,bare,un,S,r',q⟩:=h;have q':v = .bl true:=q;subst q';obtain rfl:u=jX true:=r';refine⟨rfl,OldK.of_keep λb o e=>?_,os,bare⟩
    cases q:H b with
    |none=>exact un.keep b o e q (by intro z;exact absurd (show b∈([]:Δ)from z) (by simp)) (by simp)
    |some u=>
     rcases hO b with z|⟨ob,xs,z⟩
     .rw[q]at z;cases z
     .have z2:=un.frzs b ob _ z;obtain⟨e1,_⟩:=hok b _ z;obtain⟨e2,_⟩:=S b _ z2;rw[e]at e1;cases e1;exact e2
 cases hk:K.lookup a with
 |some o=>
  have e:=KX a o hk;rw[ha]at e;cases e;refine G (λ_=>none) (λ_=>.inl rfl) (.inr ⟨_,vs.toArray,_,hk,rfl,rfl,rfl,by rw[aF,M];exact hl,by simpa using rv⟩) (λb u z=>by have U:(none:Option HO)=some u:=z;cases U) (λb z=>absurd rfl z) λz=>absurd rfl z
 |none=>
  refine G (λb=>if b=a then some (.frz { cls:=.type "list", data:=.seq vs.toArray } (.lst (ns.map V.int)))else none) (λb=>?_) (.inl (.inr ⟨{ cls:=.type "list", data:=.seq vs.toArray },pH rfl⟩)) (λb u z=>?_) (λb z=>?_) λ_=>hk
  .by_cases hb:b=a
   .exact .inr ⟨_,_,pH hb⟩
   .exact .inl (pE hb)
  .by_cases hb:b=a
   .have U:=(pH hb).symm.trans z;cases U;subst hb;exact⟨ha,by rw[lMq];exact hl,vs,_,rv,ha⟩
   .have U:=(pE hb).symm.trans z;cases U
  .by_cases hb:b=a
   .exact hb
   .exact absurd (pE hb) z
def UC{l:W.OpenLaw}{n k:Nat}{q:ku}{loose:List Str}{U:(Str->Υ)->Heap->Prop}{R:ky->Heap->Prop}{d:DefRec}{K:Params->Ζ}{CX:ky->Pf}{sp:ky->Sp}{x:Str}
  (hn:l.most=some n) (J:n<=kr) (L:d.params.defaults=[]) (hr:uW k nr)
  (X:∀(w:ky) (h:Heap),R w h->(K w.params).In h)
  (F:∀(w:ky) (mg:Str->Υ) (I:Addr) (h:Heap),(K w.params).In h->h.Ns kx mg->mg d.name=some (.ref I) ->
   ∃fd:kH,(∀(s:Shared) (u:Value),nV s fd ⟨[u],[]⟩ [(x,u)]) /\
    ∀base:Heap,(K w.params).In base->base.Ns kx mg->CT l.prog w (K w.params) mg base (CX w) k I fd [x] (sp w))
  (M:∀(w:ky) (H:Hp) (a:Addr) (ns:Ϝ),ns.length<=n->XU H->rJ (K w.params) H a (ns.map V.int)->sp w [.ref a] H (λv _=>v = .bl true) λ_ _ _=>False)
  (O:∀(w:ky) (H:Hp) (s:Shared) (e:Value) (P:Shared),CX w [] H s (λ_ _ _=>False) e P->False) :
  W.WalkO q loose U R l.row.toRowW d [] (λf vs=>PySem.call f vs):=by
 refine Att.HW hn L λw s₀ B mg mb I o pm cd doc a vs ns G Y ho hd hcd Q E z t hg=>?_
 have S:=X w _ Y;obtain⟨fd,hb,hF⟩:=F w mg I _ S G.T.g Q;exact PV S G.T.g G.T.b G.T.builtins G.T.nolimit hg E z (bY t J) hr hF hb (λH hO hS=>M w H a ns t hO hS) λH e P=>O w H B e P
def vE(s:Stmt):Arguments:=match s with
 | .FunctionDef _ a _ _ _ _ _ _ _ _=>a
 |_=>{ posonlyargs:=[],args:=[],vararg:=none,kwonlyargs:=[],kw_defaults:=[],kwarg:=none,defaults:=[] }
def tV(s:Stmt):List Stmt:=match s with
 | .FunctionDef _ _ b _ _ _ _ _ _ _=>b
 |_=>[]
def oN(s:Stmt):kY:=match s with
 | .FunctionDef _ _ _ _ _ _ l _ _ _=>l
 |_=>{ kind:=.function,names:=[],isGenerator:=false,isCoroutine:=false }
abbrev Tw:Pf:=λ_ _ _ _ _ _=>False
abbrev E0:XK:=λ_ _ _=>False
def ZQ{X:Cx}:J9 Tw X E0:=λ_ _ _ _ _ _ _ h=>h.elim
structure Vp (K:Ζ)(x qual:Str)(st:Stmt)(f:Addr)(fd:kH):Prop where
 ex:∃(oc:Value) (od:Option Addr) (kV doc pm:Value) (an:Option Addr) (wC ct:Value) (osl:Array Υ),
  fd=W.fnOf x qual (vE st) (tV st) (oN st) .none kV doc pm an wC ct/\K.lookup f=some ⟨oc,od,.func fd,osl⟩/\W.codeIn K wC qual=true
 kp:W.keepIn K (.ref f)=true
section
variable {P:ku}{w:ky}{K:Ζ}{mg:Str->Υ}{base:Heap}
def Vp.ok{x l:Str}{st:Stmt}{f:Addr}{fd:kH}{N ps:List Str}{k:Nat}{sp:Sp}(F:Vp K x l st f fd)(S:oZ N ps (oN st))(len:∀vs H Q E,sp vs H Q E->vs.length=ps.length)
  (n:∀(u:Value) (A:Around) (outer:List Env) (s:Shared) (H:Hp) (vs:List V) (Q:VK) (E:XK),uW k (A.deeper (mh l (oN st) s.heap.objs.size f u))->sp vs H Q E ->
   ∃t,Jr (Hx Tw P w K mg base N l (oN st) f u A outer s H E).nox (tV st) t/\t { nx:=λ_ G=>Q .non G,rt:=Q } (vk N vs) H):CT P w K mg base Tw (k+1) f fd ps sp:=by
 obtain⟨L,M,kV,I,pm,O,u,ct,J,rfl,lk,z⟩:=F.ex;refine Zd lk z S len λA outer s H vs Q E hr B=>?_
 obtain⟨t,h,q⟩:=n u A outer s H vs Q E hr B;exact⟨t,h.nox,q⟩
def Vp.binds{x l:Str}{st:Stmt}{f:Addr}{fd:kH}{ps:List Str}(F:Vp K x l st f fd)
  (h:∀(kV n pm:Value) (s:Option Addr) (t ct:Value) (u:Ξ),u.length=ps.length->bindArgs (W.fnOf x l (vE st) (tV st) (oN st) .none kV n pm s t ct) ⟨u,[]⟩=pure (ps.zip u)):Av K fd ps []:=by
 obtain⟨E,G,kV,n,pm,s,t,ct,z,rfl,lk,B⟩:=F.ex;exact .all (h kV n pm s t ct)
def JQ{x n:Str}{st:Stmt}{f:Addr}{B:Value}{E z:Option Addr}{t:Array Υ}{kV s pm u ct:Value}(l:K.lookup f=some ⟨B,E,.func (W.fnOf x n (vE st) (tV st) (oN st) .none kV s pm z u ct),t⟩)
  (c:W.codeIn K u n=true) (k:W.keepIn K (.ref f)=true):Vp K x n st f (W.fnOf x n (vE st) (tV st) (oN st) .none kV s pm z u ct):=⟨⟨B,E,kV,s,pm,z,u,ct,t,rfl,l,c⟩,k⟩
end
def CI{A:Around}{k:Nat}(hr:uW k A):A.units+1<lB:=Nat.lt_of_le_of_lt (Nat.add_le_add_left (by decide:1<=64) _) hr.units
section
variable {X:Cx}
def pv(i:Nat){x:Str}{pos:Pos}(n:X.N[i]?=some x:=by rfl)(s:Vis X.env.scope x:=by trivial)(hd:(x == ("__debug__" : Str))=false:=by decide)
  (l:(x == ("__classdict__" : Str))=false:=by decide):PE X (.Name x pos) (yS i):=V9 n s hd l
end
def BM{A B:Prop}(h:B):if false=true then A else B:=by
 rw[pE aJ];exact h
def By{A B:Prop}(h:A):if true=true then A else B:=by
 rw[pH rfl];exact h
def pX(H l:Hp):Prop:=∀b o,H b=some o->l b=some o
def pX.refl(H:Hp):pX H H:=λ_ _ h=>h
def pX.trans{H l n:Hp}(a:pX H l)(b:pX l n):pX H n:=λc o h=>b c o (a c o h)
def pX.free{H n:Hp}(e:pX H n){l:Addr}(h:n l=jR):H l=jR:=by
 cases q:H l with
 |none=>rfl
 |some o=>
  rw[e l o q]at h;cases h
def pX.seq{K:Ζ}{H l:Hp}{a:Addr}{xs:List V}(e:pX H l)(h:rJ K H a xs):rJ K l a xs:=by
 rcases h with(h|⟨o,h⟩)|h
 .exact .inl (.inl (e _ _ h))
 .exact .inl (.inr ⟨o,e _ _ h⟩)
 .exact .inr h
section
variable {X:Cx}
def M9:uf X (.builtin "len") (λxs H Q=>∃a kvs,xs=[V.ref a]/\H a=some (.dK kvs)/\Q (.int kvs.length) H):=by
 intro x s σ H xs z Q I r h;obtain⟨a,kvs,rfl,ha,q⟩:=h;obtain⟨u,rfl,l⟩:=wG r;cases l;exact Z4 I (.inl ha) λt B n=>⟨.int kvs.length,H,n,⟨t,rfl⟩,q⟩
end
end L2
namespace Mr
def cell(ns:Ϝ)(k:Nat):Int:=ns.getD k 0
def pQ(ns:Ϝ):Nat->Nat
 |0=>0
 |k+1=>if ns.getD k 0<ns.getD (pQ ns k) 0 then k else pQ ns k
def rot(ns:Ϝ)(i:Nat):Ϝ:=ns.drop i++ns.take i
def good(ns:Ϝ):Ϝ:=rot ns (pQ ns ns.length)
theorem vo(ns:Ϝ):∀n,(0<n->pQ ns n<n)/\(∀j,j<n->ns.getD (pQ ns n) 0<=ns.getD j 0)/\(∀j,j<pQ ns n->ns.getD (pQ ns n) 0<ns.getD j 0)
 |0=>⟨λh=>absurd h (eK _),λj h=>absurd h (cW _),λj h=>absurd h (cW _)⟩
 |n+1=>by
  obtain⟨t,s,u⟩:=vo ns n;simp only[pQ]
  by_cases c:ns.getD n 0<ns.getD (pQ ns n) 0
  .rw[pH c];refine⟨λ_=>dS n,λj l=>?_,λj l=>?_⟩
   .rcases fP (ji l)with q|q
    .have:=s j q;lia
    .subst q;exact iQ _
   .have:=s j l;lia
  .rw[pE c];refine⟨λ_=>?_,λj l=>?_,u⟩
   .by_cases hn:0<n
    .exact cB (t hn)
    .have:n=0:=by lia
     subst this;exact dS 0
   .rcases fP (ji l)with q|q
    .exact s j q
    .subst q;lia
def Ds(ns:Ϝ):pQ ns ns.length<=ns.length:=by
 by_cases h:0<ns.length
 .exact cC ((vo ns ns.length).1 h)
 .have:ns.length=0:=by lia
  rw[this];exact af 0
def wR{ns:Ϝ}{j:Nat}(h:j<ns.length):ns.getD j 0=ns[j]:=by
 rw[gDq,gEg h];rfl
def ze{ns:Ϝ}{M:Int}(n:M∈ns)(hl:∀a,a∈ns->M<=a):ns.idxOf M=pQ ns ns.length:=by
 have t:0<ns.length:=gi n;obtain⟨l,u,x⟩:=vo ns ns.length;have l:=l t;have hi:ns.idxOf M<ns.length:=fM.mpr n;have e:ns.getD (ns.idxOf M) 0=M:=by rw[wR hi];exact bQ hi
 have s:ns.getD (pQ ns ns.length) 0=M:=by
  have z:=u _ hi;rw[e]at z;have B:=hl _ (by rw[wR l];exact gRq l:ns.getD (pQ ns ns.length) 0∈ns)
  lia
 rcases fu (ns.idxOf M) (pQ ns ns.length)with q|q|q
 .have:=x _ q;lia
 .exact q
 .exfalso;have:=List.not_of_lt_findIdx (p:=(· == M)) (xs:=ns) (i:=pQ ns ns.length) (by simpa[List.idxOf]using q)
  rw[wR l]at s;simp[s]at this
def step(ns:Ϝ):Int:=if 0<cell ns 0 % 3 then cell ns 0 % 10 ^ 40+1 else 1
def AZ{A B:Ϝ}{m:Int}(h:∀x,x∈A->m<x)(l:∀x,x∈B->m<=x):good (A++m::B)=m::B++A:=by
 have n:m∈A++m::B:=by simp
 have hl:∀a,a∈A++m::B->m<=a:=λa ha=>by
  rcases mAq.mp ha with q|q
  .exact gR (h a q)
  .rcases ae.mp q with rfl|q
   .exact iQ _
   .exact l a q
 have e:=ze n hl;have s:(A++m::B).idxOf m=A.length:=by
  rw[fZ,pE (λq=>absurd (h m q) (Int.lt_irrefl m)),fB,bK]
 unfold good rot;rw[←e,s,List.drop_left,List.take_left]
def Ii{t:Ϝ}(s:t≠[])(hn:t.Nodup):∃A m B,t=A++m::B/\(∀x,x∈A->m<x)/\∀x,x∈B->m<x:=by
 have hl:0<t.length:=eU.mpr s;obtain⟨l,u,z⟩:=vo t t.length;have l:=l hl;refine⟨t.take (pQ t t.length),t[pQ t t.length],t.drop (pQ t t.length+1),?_,?_,?_⟩
 .rw[←aC l,aS]
 .intro x n;obtain⟨j,E,rfl⟩:=List.mem_take_iff_getElem.mp n;have:=z j (by lia)
  rw[wR l,wR (by lia)]at this
  exact this
 .intro x n;obtain⟨j,E,rfl⟩:=List.mem_drop_iff_getElem.mp n;have a:=u (pQ t t.length+1+j) (by lia)
  rw[wR l,wR (by lia)]at a
  have ne:t[pQ t t.length]≠t[pQ t t.length+1+j]:=bI.mp hn _ _ l (by lia) (by lia)
  lia
def RG{t:Ϝ}(hn:t.Nodup)(i:Nat):good (rot t i)=good t:=by
 by_cases s:t=[]
 .subst s;simp[rot]
 .obtain⟨A,m,B,rfl,l,n⟩:=Ii s hn;rw[AZ l (λx q=>gR (n x q))]
  by_cases c:i<=A.length
  .have e:rot (A++m::B) i=A.drop i++m::(B++A.take i):=by
    unfold rot;rw[List.drop_append_of_le_length c,List.take_append_of_le_length c];simp
   rw[e,AZ (λx q=>l x (bL q)) (λx q=>?_)]
   .simp
   .rcases mAq.mp q with q|q
    .exact gR (n x q)
    .exact gR (l x (bP q))
  .have hi:A.length<i:=by lia
   obtain⟨j,rfl⟩:∃j,i=A.length+(j+1):=⟨i-A.length-1,by lia⟩
   have e:rot (A++m::B) (A.length+(j+1))=(B.drop j++A)++m::B.take j:=by
    unfold rot;rw[jm,List.take_append];simp[dU,cw]
   rw[e,AZ (λx q=>?_) (λx q=>gR (n x (bP q)))]
   .rw[dW,dW,←aa,aS]
   .rcases mAq.mp q with q|q
    .exact n x (bL q)
    .exact l x q
def rot_perm(t:Ϝ)(i:Nat):(rot t i).Perm t:=by
 unfold rot;exact aT.trans (by rw[aS])
def uM(t:Ϝ):(good t).Perm t:=rot_perm t _
def qz{rs n:Λ}(h:rs.Perm n):rs.flatten.Perm n.flatten:=by
 induction h with
 |nil=>exact .refl _
 |cons x _ s=>rw[fCq,fCq];exact aL.append (.refl x) s
 |swap x y l=>
  rw[fCq,fCq,fCq,fCq,←aa,←aa];exact aL.append aT (.refl _)
 |trans _ _ a b=>exact a.trans b
theorem tF{f:Ϝ->Ϝ}(l:∀r,(f r).Perm r):∀rs:Λ,(rs.map f).flatten.Perm rs.flatten
 | []=>.refl _
 |r::rs=>by
  rw[au,fCq,fCq];exact aL.append (l r) (tF l rs)
def QS{rs:Λ}{r:Ϝ}(hr:r∈rs):r.length<=rs.flatten.length:=(bh hr).length_le
def Zk(r:Ϝ)(i:Nat)(e:Int):Ϝ:=r.take i++[e]++r.drop i
def acq(l:Λ)(a:Nat)(f:Nat->Nat)(e:Int):Λ:=l.set a (Zk (l.getD a []) (f (l.getD a []).length) e)
def K9:∀t:Fin 66,∀d:Fin 67,0<d.val->(t.val+1)*d.val % 67≠0:=by trivial
end Mr
namespace MrS
open PySem PyProof.Rows
def wJ:Bool->ke->Array ke->Nat->Nat->Nat->StateT SortSt Sem (Option Nat):=sortPriv% PySem.Builtin.gallop
structure zY (prog:ku)(w:ky)(A:Around)(s:Shared)(κ:kR)(P:ke->Prop)(lt:ke->ke->Bool):Prop where
 ask:∀x y,P x->P y->∀(E:Ψ) (Q:Bool->Shared->Prop),Q (lt x y) s->ki (kj prog w) A (keyLt' κ x.1 y.1) Q E s
 asym:∀x y,P x->P y->lt x y=true->lt y x=false
 trans:∀x y z,P x->P y->P z->lt y x=false->lt z y=false->lt z x=false
section
variable {prog:ku}{w:ky}{A:Around}{E:Ψ}{s:Shared}{κ:kR}{P:ke->Prop}{lt:ke->ke->Bool}
def zY.refl(C:zY prog w A s κ P lt){x:ke}(l:P x):lt x x=false:=by
 cases e:lt x x with
 |false=>rfl
 |true=>rw[←C.asym x x l l e,e]
def zY.cmp(C:zY prog w A s κ P lt){x y:ke}{st:SortSt}{Q:Option Bool->SortSt->Prop}(l:P x)(n:P y)(hk:kindOf st=κ)(h:Q (some (lt x y)) st) :
  wpS (kj prog w) A E s (lt' x y) Q st:=by
 rw[lt'_eq];refine km (mF ?_);rw[hk];refine km (wpS_lift (mM (C.ask x y l n _ _ ⟨rfl,?_⟩)));exact ko h
def qa{arr:Array ke}{i:Nat}{x:ke}{st:SortSt}{Q:ke->SortSt->Prop}(l:arr[i]?=some x)(h:Q x st):wpS (kj prog w) A E s (kW arr i) Q st:=by
 rw[elem'_eq,l];exact ko h
def zY.at(C:zY prog w A s κ P lt){i j:Nat}{x y:ke}{st:SortSt}{Q:Option Bool->SortSt->Prop}(hi:(kz st)[i]?=some x)(l:(kz st)[j]?=some y)(n:P x)(t:P y)(hk:kindOf st=κ)(h:Q (some (lt x y)) st) :
  wpS (kj prog w) A E s (ltAt' i j) Q st:=by
 rw[ltAt'_eq];refine km (mF ?_);exact km (qa hi (km (qa l (C.cmp n t hk h))))
def xY(lt:ke->ke->Bool)(left:Bool)(key:ke)(arr:Array ke)(base i:Nat):Bool:=
 if left then lt (arr.getD (base+i) key) key else !lt key (arr.getD (base+i) key)
def Kn(left:Bool)(key:ke)(arr:Array ke)(base n l:Nat):wJ left key arr base n l=(do
 let B (i:Nat):StateT SortSt Sem (Option Bool):=do
  let x ←kW arr (base+i)
  if left then lt' x key else return (←lt' key x).map (!·)
 let mut t:=0
 let mut z:=1
 let mut lo:=0
 let mut hi:=0
 let some right ←B l|return none
 if right then
  let u:=n-l
  for _ in [0:n]do
   if z ≥ u then break
   let some more ←B (l+z)|return none
   if !more then break
   t:=z
   z:=2*z+1
  lo:=l+t+1
  hi:=l+min z u
 else
  let u:=l+1
  for _ in [0:n]do
   if z ≥ u then break
   let some G ←B (l-z)|return none
   if G then break
   t:=z
   z:=2*z+1
  lo:=l+1-min z u
  hi:=l-t
 for _ in [0:n]do
  if lo ≥ hi then break
  let m:=lo+(hi-lo) / 2
  let some more ←B m|return none
  if more then lo:=m+1 else hi:=m
 return some hi):=rfl
def wz(C:zY prog w A s κ P lt){left:Bool}{key:ke}{arr:Array ke}{base i:Nat}{st:SortSt}{Q:Option Bool->SortSt->Prop}(hi:base+i<arr.size)(ha:∀x,x∈arr->P x)(l:P key)(hk:kindOf st=κ)
  (h:Q (some (xY lt left key arr base i)) st):wpS (kj prog w) A E s (do
   let x ←kW arr (base+i)
   if left=true then lt' x key else do
    let n ←lt' key x
    pure (n.map (!·))) Q st:=by
 have e:arr[base+i]?=some arr[base+i]:=ag hi;have u:arr.getD (base+i) key=arr[base+i]:=by simp[gj,hi]
 refine km (qa e ?_);have t:P arr[base+i]:=ha _ (bC hi);unfold xY at h;rw[u]at h;cases left with
 |true=>
  rw[pH rfl]at h ⊢;exact C.cmp t l hk h
 |false=>
  rw[pE (by decide)]at h ⊢
  exact km (C.cmp l t hk (ko h))
def CF{left:Bool}{key:ke}{arr:Array ke}{base n lo hi:Nat}{st:SortSt}{f:Nat->Option (Option Nat)×Nat×Nat->StateT SortSt Sem (ForInStep (Option (Option Nat)×Nat×Nat))}
  (mono:∀i j,i<=j->j<n->xY lt left key arr base j=true->xY lt left key arr base i=true)
  (down:∀i j,i<=j->j<n->xY lt left key arr base i=false->xY lt left key arr base j=false)
  (L:∀(i l u:Nat) (z:ForInStep (Option (Option Nat)×Nat×Nat)->SortSt->Prop),u<=n->(u<=l->z (.done (none,l,u)) st)->(l<u->xY lt left key arr base (l+(u-l) / 2)=true->z (.yield (none,l+(u-l) / 2+1,u)) st) ->
   (l<u->xY lt left key arr base (l+(u-l) / 2)=false->z (.yield (none,l,l+(u-l) / 2)) st)->wpS (kj prog w) A E s (f i (none,l,u)) z st)
  (M:lo<=hi) (O:hi<=n) (Q:∀j,j<lo->xY lt left key arr base j=true) (R:∀j,hi<=j->j<n->xY lt left key arr base j=false) :
  wpS (kj prog w) A E s (forIn [:n] ((none,lo,hi):Option (Option Nat)×Nat×Nat) f)
   (λc t=>∃k,c=(none,k,k)/\t=st/\k<=n/\(∀j,j<k->xY lt left key arr base j=true)/\(∀j,k<=j->j<n->xY lt left key arr base j=false)) st:=by
 refine kP
  (I:=λi c t=>∃l u,c=(none,l,u)/\t=st/\l<=u/\u<=n/\(∀j,j<l->xY lt left key arr base j=true)/\(∀j,u<=j->j<n->xY lt left key arr base j=false)/\(u-l)+i<=n)
  ?step ?fin ⟨lo,hi,rfl,rfl,M,O,Q,R,by lia⟩
 case step=>
  rintro i c t _ S ⟨l,u,rfl,rfl,U,x,B,G,X⟩;refine L i l u _ x (λH=>?_) (λH e=>?_) (λH e=>?_)
  .have e:l=u:=by lia
   subst e;exact⟨l,rfl,rfl,x,B,G⟩
  .exact⟨_,u,rfl,rfl,by lia,x,λj J=>mono j _ (by lia) (by lia) e,G,by lia⟩
  .exact⟨l,_,rfl,rfl,by lia,by lia,B,λj J hn=>down _ j J hn e,by lia⟩
 case fin=>
  rintro c t ⟨l,u,rfl,rfl,U,x,B,G,X⟩;have e:l=u:=by lia
  subst e;exact⟨l,rfl,rfl,x,B,G⟩
def uP(C:zY prog w A s κ P lt){left:Bool}{key:ke}{arr:Array ke}{base n t:Nat}{st:SortSt}{Q:Option Nat->SortSt->Prop}(hh:t<n)(hb:base+n<=arr.size)(ha:∀x,x∈arr->P x)(z:P key)(hk:kindOf st=κ)
  (mono:∀i j,i<=j->j<n->xY lt left key arr base j=true->xY lt left key arr base i=true)
  (h:∀k,k<=n->(∀j,j<k->xY lt left key arr base j=true)->(∀j,k<=j->j<n->xY lt left key arr base j=false)->Q (some k) st) :
  wpS (kj prog w) A E s (wJ left key arr base n t) Q st:=by
 have down:∀i j,i<=j->j<n->xY lt left key arr base i=false->xY lt left key arr base j=false:=λi j S R e=>by
  cases q:xY lt left key arr base j with
  |false=>rfl
  |true=>rw[mono i j S R q]at e;cases e
 rw[Kn];dsimp only;refine km (wz C (base:=base) (i:=t) (by lia) ha z hk ?_)
 cases er:xY lt left key arr base t with
 |true=>
  dsimp only;rw[pH rfl];refine km (kU (kP
   (I:=λi c u=>∃l o,c=(none,l,o)/\u=st/\l<o/\i+1<=o/\t+l<n/\xY lt left key arr base (t+l)=true)
   (Q:=λc u=>∃l o,c=(none,l,o)/\u=st/\l<o/\t+l<n/\xY lt left key arr base (t+l)=true/\(n-t<=o∨(t+o<n/\xY lt left key arr base (t+o)=false)))
   ?step ?fin ⟨0,1,rfl,rfl,by lia,by lia,by lia,er⟩) ?post)
  case step=>
   rintro i c u _ U ⟨l,o,rfl,rfl,J,X,H,G⟩;dsimp only
   by_cases B:o ≥ n-t
   .rw[pH B];exact ko ⟨l,o,rfl,rfl,J,H,G,.inl B⟩
   .rw[pE B];refine km (wz C (base:=base) (i:=t+o) (by lia) ha z hk ?_)
    cases e:xY lt left key arr base (t+o)with
    |true=>
     dsimp only;rw[pE (by decide)]
     exact ko ⟨o,_,rfl,rfl,by lia,by lia,by lia,e⟩
    |false=>
     dsimp only;rw[pH (by decide)]
     exact ko ⟨l,o,rfl,rfl,J,H,G,.inr ⟨by lia,e⟩⟩
  case fin=>
   rintro c u ⟨l,o,rfl,rfl,J,X,H,G⟩;exact⟨l,o,rfl,rfl,J,H,G,.inl (by lia)⟩
  case post=>
   rintro c u ⟨l,o,rfl,rfl,J,H,G,M⟩;dsimp only;refine km (kU (CF (lt:=lt) (left:=left) (key:=key) (arr:=arr) (base:=base) mono down (λi L O Q' hu Y q2 q3=>?_) (by lia) (by lia) (λj R=>mono j _ (by lia) H G) ?_) ?_)
   .dsimp only
    by_cases B:L ≥ O
    .rw[pH B];exact ko (Y B)
    .rw[pE B];refine km (wz C (base:=base) (i:=L+(O-L) / 2) (by lia) ha z hk ?_)
     cases e:xY lt left key arr base (L+(O-L) / 2)with
     |true=>
      dsimp only;rw[pH rfl];exact ko (q2 (by lia) e)
     |false=>
      dsimp only;rw[pE (by decide)]
      exact ko (q3 (by lia) e)
   .intro j R hn;rcases M with M|⟨M,a6⟩
    .lia
    .exact down (t+o) j (by lia) hn a6
   .rintro c u ⟨k,rfl,rfl,k1,k2,k3⟩;exact ko (h k k1 k2 k3)
 |false=>
  dsimp only;rw[pE (by decide)]
  refine km (kU (kP
   (I:=λi c u=>∃l o,c=(none,l,o)/\u=st/\l<o/\i+1<=o/\l<=t/\xY lt left key arr base (t-l)=false)
   (Q:=λc u=>∃l o,c=(none,l,o)/\u=st/\l<o/\l<=t/\xY lt left key arr base (t-l)=false/\(t+1<=o∨(o<=t/\xY lt left key arr base (t-o)=true)))
   ?step ?fin ⟨0,1,rfl,rfl,by lia,by lia,by lia,er⟩) ?post)
  case step=>
   rintro i c u _ U ⟨l,o,rfl,rfl,J,X,H,G⟩;dsimp only
   by_cases B:o ≥ t+1
   .rw[pH B];exact ko ⟨l,o,rfl,rfl,J,H,G,.inl B⟩
   .rw[pE B];refine km (wz C (base:=base) (i:=t-o) (by lia) ha z hk ?_)
    cases e:xY lt left key arr base (t-o)with
    |true=>
     dsimp only;rw[pH rfl];exact ko ⟨l,o,rfl,rfl,J,H,G,.inr ⟨by lia,e⟩⟩
    |false=>
     dsimp only;rw[pE (by decide)]
     exact ko ⟨o,_,rfl,rfl,by lia,by lia,by lia,e⟩
  case fin=>
   rintro c u ⟨l,o,rfl,rfl,J,X,H,G⟩;exact⟨l,o,rfl,rfl,J,H,G,.inl (by lia)⟩
  case post=>
   rintro c u ⟨l,o,rfl,rfl,J,H,G,M⟩;dsimp only;refine km (kU (CF (lt:=lt) (left:=left) (key:=key) (arr:=arr) (base:=base) mono down (λi L O Q' hu Y q2 q3=>?_) (by lia) (by lia) ?_ (λj R hn=>down _ j R hn G)) ?_)
   .dsimp only
    by_cases B:L ≥ O
    .rw[pH B];exact ko (Y B)
    .rw[pE B];refine km (wz C (base:=base) (i:=L+(O-L) / 2) (by lia) ha z hk ?_)
     cases e:xY lt left key arr base (L+(O-L) / 2)with
     |true=>
      dsimp only;rw[pH rfl];exact ko (q2 (by lia) e)
     |false=>
      dsimp only;rw[pE (by decide)]
      exact ko (q3 (by lia) e)
   .intro j R;rcases M with M|⟨M,a6⟩
    .lia
    .exact mono j (t-o) (by lia) (by lia) a6
   .rintro c u ⟨k,rfl,rfl,k1,k2,k3⟩;exact ko (h k k1 k2 k3)
end
abbrev yA(lt:ke->ke->Bool)(l:List ke):Prop:=l.Pairwise λx y=>lt y x=false
structure MI (lt:ke->ke->Bool)(a b out:Array ke)(ia ib:Nat):Prop where
 la:ia<=a.size
 lb:ib<=b.size
 pm:(out.toList++(a.toList.drop ia++b.toList.drop ib)).Perm (a.toList++b.toList)
 so:yA lt out.toList
 ua:∀x∈out.toList,∀y∈a.toList.drop ia,lt y x=false
 ub:∀x∈out.toList,∀y∈b.toList.drop ib,lt y x=false
section
variable {lt:ke->ke->Bool}{a b out out':Array ke}{ia ib k:Nat}
def MI.congr(m:MI lt a b out ia ib)(e:out'.toList=out.toList):MI lt a b out' ia ib:=⟨m.la,m.lb,by rw[e];exact m.pm,by rw[e];exact m.so,by rw[e];exact m.ua,by rw[e];exact m.ub⟩
def HD(l:List ke)(i k:Nat):l.drop i=(l.drop i).take k++l.drop (i+k):=by
 rw[←List.drop_drop,aS]
def yH(a:Array ke)(i k:Nat):(a.extract i (i+k)).toList=(a.toList.drop i).take k:=by
 rw[gI,fI,iG]
def MI.moreA(m:MI lt a b out ia ib)(sa:yA lt a.toList)(hk:ia+k<=a.size)(h:∀x∈(a.toList.drop ia).take k,∀y∈b.toList.drop ib,lt y x=false):MI lt a b (out++a.extract ia (ia+k)) (ia+k) ib:=by
 have e:(out++a.extract ia (ia+k)).toList=out.toList++(a.toList.drop ia).take k:=by rw[aY,yH]
 have sd:yA lt (a.toList.drop ia):=sa.sublist (bW _ _);have c:=HD a.toList ia k;have s:=sd;rw[c]at s;obtain⟨t,z,u⟩:=aR.mp s;refine⟨hk,m.lb,?_,?_,?_,?_⟩
 .rw[e,aa];refine(aL.append_left _ ?_).trans m.pm;rw[←aa,←c]
 .rw[e];exact aR.mpr ⟨m.so,t,λx l y n=>m.ua x l y (bP n)⟩
 .rw[e];intro x l y n;rcases mAq.mp l with l|l
  .exact m.ua x l y (by rw[c];exact aj _ n)
  .exact u x l y n
 .rw[e];intro x l y n;rcases mAq.mp l with l|l
  .exact m.ub x l y n
  .exact h x l y n
def MI.moreB(m:MI lt a b out ia ib)(sb:yA lt b.toList)(hk:ib+k<=b.size)(h:∀x∈(b.toList.drop ib).take k,∀y∈a.toList.drop ia,lt y x=false):MI lt a b (out++b.extract ib (ib+k)) ia (ib+k):=by
 have e:(out++b.extract ib (ib+k)).toList=out.toList++(b.toList.drop ib).take k:=by rw[aY,yH]
 have sd:yA lt (b.toList.drop ib):=sb.sublist (bW _ _);have c:=HD b.toList ib k;have s:=sd;rw[c]at s;obtain⟨t,z,u⟩:=aR.mp s;refine⟨m.la,hk,?_,?_,?_,?_⟩
 .rw[e,aa];refine(aL.append_left _ ?_).trans m.pm;refine((gY _ _ _).trans ?_);rw[←c]
 .rw[e];exact aR.mpr ⟨m.so,t,λx l y n=>m.ub x l y (bP n)⟩
 .rw[e];intro x l y n;rcases mAq.mp l with l|l
  .exact m.ua x l y n
  .exact h x l y n
 .rw[e];intro x l y n;rcases mAq.mp l with l|l
  .exact m.ub x l y (by rw[c];exact aj _ n)
  .exact u x l y n
def yk{l:List ke}{i:Nat}{x:ke}(h:l[i]?=some x):(l.drop i).take 1=[x]:=by
 obtain⟨hi,e⟩:=gSq.mp h;rw[aC hi,e];rfl
def MI.pushA{x:ke}(m:MI lt a b out ia ib)(sa:yA lt a.toList)(n:a[ia]?=some x)(h:∀y∈b.toList.drop ib,lt y x=false):MI lt a b (out.push x) (ia+1) ib:=by
 have hi:ia<a.size:=(bj.mp n).1;have l:a.toList[ia]?=some x:=by rw[aw];exact n
 refine(m.moreA sa (k:=1) hi λz s y t=>?_).congr ?_
 .rw[yk l,mSq]at s;rw[s];exact h y t
 .rw[dJ,aY,yH,yk l]
def MI.pushB{x:ke}(m:MI lt a b out ia ib)(sb:yA lt b.toList)(n:b[ib]?=some x)(h:∀y∈a.toList.drop ia,lt y x=false):MI lt a b (out.push x) ia (ib+1):=by
 have hi:ib<b.size:=(bj.mp n).1;have l:b.toList[ib]?=some x:=by rw[aw];exact n
 refine(m.moreB sb (k:=1) hi λz s y t=>?_).congr ?_
 .rw[yk l,mSq]at s;rw[s];exact h y t
 .rw[dJ,aY,yH,yk l]
structure SD (lt:ke->ke->Bool)(a b r:Array ke):Prop where
 pm:r.toList.Perm (a.toList++b.toList)
 so:yA lt r.toList
def xT(a:Array ke)(i:Nat):(a.extract i a.size).toList=a.toList.drop i:=by
 rw[gI,fI];exact cw (by rw[aQ,aq];exact af _)
def MI.endB(m:MI lt a b out ia ib)(sa:yA lt a.toList)(e:ib=b.size):SD lt a b (out++a.extract ia a.size++b.extract ib b.size):=by
 have l:b.toList.drop ib=[]:=by rw[e,←aq,du]
 have n:(out++a.extract ia a.size++b.extract ib b.size).toList=out.toList++a.toList.drop ia:=by
  rw[aY,aY,xT,xT,l,aNq]
 have pm:=m.pm;rw[l,aNq]at pm;exact⟨by rw[n];exact pm,by rw[n];exact aR.mpr ⟨m.so,sa.sublist (bW _ _),m.ua⟩⟩
def MI.endA(m:MI lt a b out ia ib)(sb:yA lt b.toList)(e:ia=a.size):SD lt a b (out++a.extract ia a.size++b.extract ib b.size):=by
 have l:a.toList.drop ia=[]:=by rw[e,←aq,du]
 have n:(out++a.extract ia a.size++b.extract ib b.size).toList=out.toList++b.toList.drop ib:=by
  rw[aY,aY,xT,xT,l,aNq]
 have pm:=m.pm;rw[l,cX]at pm;exact⟨by rw[n];exact pm,by rw[n];exact aR.mpr ⟨m.so,sb.sublist (bW _ _),m.ub⟩⟩
def MI.lastA(m:MI lt a b out ia ib)(sa:yA lt a.toList)(sb:yA lt b.toList)(h:∀x∈b.toList.drop ib,∀y∈a.toList.drop ia,lt y x=false):SD lt a b (out++b.extract ib b.size++a.extract ia a.size):=by
 have n:(out++b.extract ib b.size++a.extract ia a.size).toList=out.toList++(b.toList.drop ib++a.toList.drop ia):=by
  rw[aY,aY,xT,xT,aa]
 refine⟨?_,?_⟩
 .rw[n];exact(aL.append_left _ aT).trans m.pm
 .rw[n];refine aR.mpr ⟨m.so,aR.mpr ⟨sb.sublist (bW _ _),sa.sublist (bW _ _),h⟩,λx s y l=>?_⟩
  rcases mAq.mp l with l|l
  .exact m.ub x s y l
  .exact m.ua x s y l
end
def DA:Array ke->Array ke->StateT SortSt Sem (Array ke):=sortPriv% PySem.Builtin.mergeLo
def sq:Nat->StateT SortSt Sem Unit:=sortPriv% PySem.Builtin.setMinGallop
abbrev sg(st:SortSt)(g:Nat):SortSt:=SortSt.mk' (kindOf st) (kz st) (lZ st) g (failedOf st)
def Cb(g:Nat):sq g=modify λst=>sg st g:=rfl
section
variable (a b:Array ke)
abbrev dn(o:Array ke)(i j:Nat):=o++a.extract i a.size++b.extract j b.size
abbrev lA(o:Array ke)(i j:Nat):=o++b.extract j b.size++a.extract i a.size
abbrev SF(α:Type):=ForInStep (Option (Array ke)×Array ke×Nat×Nat×α)
def loC(o:Array ke)(i j m k l:Nat):StateT SortSt Sem (SF (Nat×Nat×Nat)):=do
 let x ←kW a i
 if i+1+1 == a.size then pure (.done (some (lA a b (o.push x) (i+1) j),o.push x,i+1,j,m,k,l))
 else if decide (k<7) && decide (l<7)then pure (.done (none,o.push x,i+1,j,m,k,l))
 else pure (.yield (none,o.push x,i+1,j,m,k,l))
def loB(o:Array ke)(i j m k q:Nat):StateT SortSt Sem (SF (Nat×Nat×Nat)):=do
 let x ←kW b j
 if j+1 == b.size then pure (.done (some (dn a b (o.push x) i (j+1)),o.push x,i,j+1,m,k,q))
 else do
  let y ←kW a i
  match ←wJ true y b (j+1) (b.size-(j+1)) 0 with
  |some l=>
   if l>0 then
    if j+1+l == b.size then pure (.done (some (dn a b (o.push x++b.extract (j+1) (j+1+l)) i (j+1+l)),o.push x++b.extract (j+1) (j+1+l),i,j+1+l,m,k,l))
    else loC a b (o.push x++b.extract (j+1) (j+1+l)) i (j+1+l) m k l
   else loC a b (o.push x) i (j+1) m k l
  |_=>pure (.done (some (dn a b (o.push x) i (j+1)),o.push x,i,j+1,m,k,q))
def loA(o:Array ke)(i j m p q:Nat):StateT SortSt Sem (SF (Nat×Nat×Nat)):=do
 sq m
 let x ←kW b j
 match ←wJ false x a i (a.size-i) 0 with
 |some k=>
  if k>0 then
   if i+k+1 == a.size then pure (.done (some (lA a b (o++a.extract i (i+k)) (i+k) j),o++a.extract i (i+k),i+k,j,m,k,q))
   else if i+k == a.size then pure (.done (some (dn a b (o++a.extract i (i+k)) (i+k) j),o++a.extract i (i+k),i+k,j,m,k,q))
   else loB a b (o++a.extract i (i+k)) (i+k) j m k q
  else loB a b o i j m k q
 |_=>pure (.done (some (dn a b o i j),o,i,j,m,p,q))
def lo1(m:Nat)(o:Array ke)(i j p q:Nat):StateT SortSt Sem (SF (Nat×Nat)):=do
 let y ←kW b j
 let x ←kW a i
 match ←lt' y x with
 |some c=>
  if c then do
   let z ←kW b j
   if j+1 == b.size then pure (.done (some (dn a b (o.push z) i (j+1)),o.push z,i,j+1,0,q+1))
   else if q+1 ≥ m then pure (.done (none,o.push z,i,j+1,0,q+1))
   else pure (.yield (none,o.push z,i,j+1,0,q+1))
  else do
   let z ←kW a i
   if i+1+1 == a.size then pure (.done (some (lA a b (o.push z) (i+1) j),o.push z,i+1,j,p+1,0))
   else if p+1 ≥ m then pure (.done (none,o.push z,i+1,j,p+1,0))
   else pure (.yield (none,o.push z,i+1,j,p+1,0))
 |_=>pure (.done (some (dn a b o i j),o,i,j,p,q))
def lo0(o:Array ke)(i j m:Nat):StateT SortSt Sem (SF Nat):=do
 let r ←forIn [0:a.size+b.size] (none,o,i,j,0,0) λ_ s=>lo1 a b m s.2.1 s.2.2.1 s.2.2.2.1 s.2.2.2.2.1 s.2.2.2.2.2
 Break.runK.match_1 (λ_=>StateT SortSt Sem (SF Nat)) r.1 (λv=>pure (.done (some v,r.2.1,r.2.2.1,r.2.2.2.1,m))) λ_=>do
  rule "list.sort.gallop"
  let r ←forIn [0:a.size+b.size] (none,r.2.1,r.2.2.1,r.2.2.2.1,m+1,r.2.2.2.2.1,r.2.2.2.2.2) λ_ s=>if s.2.2.2.2.1>1 then loA a b s.2.1 s.2.2.1 s.2.2.2.1 (s.2.2.2.2.1-1) s.2.2.2.2.2.1 s.2.2.2.2.2.2 else loA a b s.2.1 s.2.2.1 s.2.2.2.1 s.2.2.2.2.1 s.2.2.2.2.2.1 s.2.2.2.2.2.2
  Break.runK.match_1 (λ_=>StateT SortSt Sem (SF Nat)) r.1 (λv=>pure (.done (some v,r.2.1,r.2.2.1,r.2.2.2.1,r.2.2.2.2.1))) λ_=>do
   sq (r.2.2.2.2.1+1)
   pure (.yield (none,r.2.1,r.2.2.1,r.2.2.2.1,r.2.2.2.2.1+1))
def IF:DA a b=(do
 rule "list.sort.merge-lo"
 let x ←kW b 0
 if 1 == b.size then pure (dn a b #[x] 0 1)
 else if 0+1 == a.size then pure (lA a b #[x] 0 1)
 else do
  let st ←get
  let r ←forIn [0:a.size+b.size] (none,#[x],0,1,mO st) λ_ s=>lo0 a b s.2.1 s.2.2.1 s.2.2.2.1 s.2.2.2.2
  Break.runK.match_1 (λ_=>StateT SortSt Sem (Array ke)) r.1 (λv=>pure v) λ_=>lC "internal:list.sort.merge-bound"):=rfl
end
section
variable {prog:ku}{w:ky}{A:Around}{E:Ψ}{s:Shared}{κ:kR}{P:ke->Prop}{lt:ke->ke->Bool}
def yB{g:Nat}{st:SortSt}{Q:Unit->SortSt->Prop}(h:Q () (sg st g)):wpS (kj prog w) A E s (sq g) Q st:=by
 rw[Cb];exact mv h
def xH{x:String}{st:SortSt}{Q:Unit->SortSt->Prop}(h:Q () st):wpS (kj prog w) A E s (liftM (rule x):StateT SortSt Sem Unit) Q st:=wpS_lift (oa ⟨rfl,h⟩)
def Di(C:zY prog w A s κ P lt){a:Array ke}{i:Nat}{x:ke}(ha:∀x,x∈a->P x)(sa:yA lt a.toList)(t:a[i]?=some x):∀y∈a.toList.drop i,lt y x=false:=by
 obtain⟨hi,e⟩:=bj.mp t;have l:i<a.toList.length:=by simpa using hi
 have u:a.toList[i]=x:=by simpa using e
 have sd:yA lt (a.toList.drop i):=sa.sublist (bW _ _);rw[aC l,u]at sd ⊢;intro y n;rcases ae.mp n with rfl|n
 .exact C.refl (ha _ (by rw[←e];exact bC hi))
 .exact(fQ.mp sd).1 y n
def vP{a:Array ke}{i:Nat}{y:ke}(h:y∈a.toList.drop i):y∈a:=by simpa using bL h
def Bo(C:zY prog w A s κ P lt){left:Bool}{key:ke}{arr:Array ke}{base n:Nat}(hb:base+n<=arr.size)(ha:∀x,x∈arr->P x)(l:P key)(so:yA lt (arr.toList.drop base)) :
  ∀i j,i<=j->j<n->xY lt left key arr base j=true->xY lt left key arr base i=true:=by
 intro i j z L h;have t:base+i<arr.size:=by lia
 have u:base+j<arr.size:=by lia
 have H:arr.getD (base+i) key=arr[base+i]:=by simp[gj,t]
 have I:arr.getD (base+j) key=arr[base+j]:=by simp[gj,u]
 have B:=ha _ (bC t);have G:=ha _ (bC u);have le:lt arr[base+j] arr[base+i]=false:=by
  rcases fP z with q|q
  .have:=bI.mp so i j (by simp;lia) (by simp;lia) q
   simpa using this
  .subst q;exact C.refl B
 unfold xY at h ⊢;rw[H];rw[I]at h;cases left with
 |true=>
  rw[pH rfl]at h ⊢;cases q:lt arr[base+i] key with
  |true=>rfl
  |false=>
   have:=C.trans key arr[base+i] arr[base+j] l B G q le;rw[h]at this;cases this
 |false=>
  rw[pE (by decide)]at h ⊢
  have J:lt key arr[base+j]=false:=by simpa using h
  have:=C.trans arr[base+i] arr[base+j] key B G l le J;simp[this]
def uE{left:Bool}{key x:ke}{arr:Array ke}{base i:Nat}(l:arr[base+i]?=some x):xY lt left key arr base i=if left then lt x key else !lt key x:=by
 obtain⟨hi,e⟩:=bj.mp l;unfold xY;have n:arr.getD (base+i) key=x:=by simp[gj,hi,e]
 rw[n]
def xp{a:Array ke}{i k:Nat}{x:ke}(h:x∈(a.toList.drop i).take k):∃j,j<k/\a[i+j]?=some x:=by
 obtain⟨j,l,e⟩:=cP.mp h;rw[lTq]at l;refine⟨j,by lia,?_⟩
 rw[iq,gc]at e;rw[bj];have hs:i+j<a.size:=by
  rw[aQ,aq]at l;lia
 exact⟨hs,by simpa using e⟩
def zp{a:Array ke}{i:Nat}{x:ke}(h:x∈a.toList.drop i):∃j,i+j<a.size/\a[i+j]?=some x:=by
 obtain⟨j,l,e⟩:=cP.mp h;rw[aQ,aq]at l;have hs:i+j<a.size:=by lia
 refine⟨j,hs,?_⟩;rw[gc]at e;rw[bj];exact⟨hs,by simpa using e⟩
inductive Lp {ρ τ ι σ:Type}(t:ι->τ)(v:ι->σ)(J K:ι->Prop)(R:ρ->σ->Prop):ForInStep (Option ρ×τ)->σ->Prop
 |y (x):J x->Lp t v J K R (.yield (none,t x)) (v x)
 |d (x):K x->Lp t v J K R (.done (none,t x)) (v x)
 |r (a y st):R a st->Lp t v J K R (.done (some a,y)) st
def xG{M:Model}{ρ τ ι σ β:Type}{n:Nat}(t:ι->τ)(v:ι->σ)(J:Nat->ι->Prop)(K:ι->Prop)(R:ρ->σ->Prop){f:Nat->Option ρ×τ->StateT σ Sem (ForInStep (Option ρ×τ))}{k:Option ρ×τ->StateT σ Sem β}{Q:β->σ->Prop}
  (x:ι) (h:J 0 x) (step:∀i x,J i x->wpS M A E s (f i (none,t x)) (Lp t v (J (i+1)) K R) (v x)) (fin:∀x,J n x->K x) (pn:∀x,K x->wpS M A E s (k (none,t x)) Q (v x)) (ps:∀r y st,R r st->wpS M A E s (k (some r,y)) Q st) :
  wpS M A E s (forIn [0:n] (none,t x) f >>= k) Q (v x):=by
 refine km (kU (kP (I:=λi c st=>∃x,c=(none,t x)/\st=v x/\J i x) (Q:=λc st=>Lp t v K K R (.done c) st) ?_ ?_ ⟨x,rfl,rfl,h⟩) ?_)
 .rintro i c st _ _ ⟨x,rfl,rfl,h⟩;refine kU (step i x h) λr l hr=>?_
  cases hr with
  |y x h=>exact⟨x,rfl,rfl,h⟩
  |d x h=>exact .d x h
  |r a y st h=>exact .r a y _ h
 .rintro c st ⟨x,rfl,rfl,h⟩;rw[jn (bx n)]at h;exact .d x (fin x h)
 .rintro c st h;cases h with
  |d x h=>exact pn x h
  |r a y st h=>exact ps a y _ h
structure Ls where
 o:Array ke
 (i j m p q g:Nat)
structure ML (lt:ke->ke->Bool)(a b:Array ke)(n:Nat)(x:Ls):Prop where
 m:MI lt a b x.o x.i x.j
 p:x.i+1<a.size
 q:x.j<b.size
 r:n<=x.i+x.j
structure Lo (prog:ku)(w:ky)(A:Around)(s:Shared)(κ:kR)(P:ke->Prop)(lt:ke->ke->Bool)(a b:Array ke)(st:SortSt)(Q:Array ke->SortSt->Prop):Prop where
 C:zY prog w A s κ P lt
 ha:∀x,x∈a->P x
 hb:∀x,x∈b->P x
 hk:kindOf st=κ
 sa:yA lt a.toList
 sb:yA lt b.toList
 h:∀r g,SD lt a b r->Q r (sg st g)
abbrev L6(x:Ls):=(x.o,x.i,x.j,x.m,x.p,x.q)
abbrev L5(x:Ls):=(x.o,x.i,x.j,x.p,x.q)
abbrev L4(x:Ls):=(x.o,x.i,x.j,x.m)
variable {a b:Array ke}{st:SortSt}{Q:Array ke->SortSt->Prop}{n:Nat}{x:Ls}
abbrev Hl(lt:ke->ke->Bool)(a b:Array ke):=∀i,i+1=a.size->∀x∈b.toList,∀y∈a.toList.drop i,lt y x=false
def PZ(H:Lo prog w A s κ P lt a b st Q)(hl:Hl lt a b)(q:ML lt a b n x)(hi:∀z,a[x.i]?=some z->∀y∈b.toList.drop x.j,lt y z=false) :
  wpS (kj prog w) A E s (loC a b x.o x.i x.j x.m x.p x.q) (Lp L6 (λx=>sg st x.g) (ML lt a b n) (ML lt a b n) Q) (sg st x.g):=by
 have G:=q.p;have l:a[x.i]?=some a[x.i]:=ag (by lia)
 refine km (qa l ?_);have u:=q.m.pushA H.sa l (hi _ l)
 by_cases t:x.i+1+1=a.size
 .rw[pH (by simp[t])]
  exact ko (.r _ _ _ (H.h _ _ (u.lastA H.sa H.sb λy B=>hl _ t y (bL B))))
 rw[pE (by simpa using t)]
 have R:ML lt a b n ⟨_,_,_,x.m,x.p,x.q,x.g⟩:=⟨u,by dsimp only;lia,q.q,by have:=q.r;dsimp only;lia⟩
 split
 .exact ko (.d _ R)
 .exact ko (.y _ R)
def Rg(H:Lo prog w A s κ P lt a b st Q)(hl:Hl lt a b)(q:ML lt a b n x)(hi:∀z,b[x.j]?=some z->∀y∈a.toList.drop x.i,lt y z=false) :
  wpS (kj prog w) A E s (loB a b x.o x.i x.j x.m x.p x.q) (Lp L6 (λx=>sg st x.g) (ML lt a b n) (ML lt a b n) Q) (sg st x.g):=by
 have R:=q.p;have p2:=q.q;have p3:=q.r;have G:b[x.j]?=some b[x.j]:=ag p2;refine km (qa G ?_);have I:=q.m.pushB H.sb G (hi _ G)
 by_cases J:x.j+1=b.size
 .rw[pH (by simp[J])]
  exact ko (.r _ _ _ (H.h _ _ (I.endB H.sa J)))
 rw[pE (by simpa using J)]
 have L:a[x.i]?=some a[x.i]:=ag (by lia)
 have u:=H.ha _ (bC (show x.i<a.size by lia))
 refine km (qa L (km (uP H.C (base:=x.j+1) (n:=b.size-(x.j+1)) (by lia) (by lia) H.hb u H.hk (Bo H.C (by lia) H.hb u (H.sb.sublist (bW _ _))) λl l1 l2 l3=>?_)))
 have S:∀z,a[x.i]?=some z->∀y∈b.toList.drop (x.j+1+l),lt y z=false:=λz U y B=>by
  obtain⟨M,t,ey⟩:=zp B;have q:=l3 (l+M) (by lia) (by lia)
  rw[uE (by rw[←gB];exact ey),pH rfl]at q
  rw[L]at U;cases U;exact q
 dsimp only
 by_cases cl:l>0
 .rw[pH cl];have X:=I.moreB H.sb (k:=l) (by lia) λx Y y B=>by
   obtain⟨M,t,ex⟩:=xp Y;have q:=l2 M t;rw[uE ex,pH rfl]at q;have px:=H.hb x (bP Y |> vP);exact H.C.trans _ _ _ px u (H.ha _ (vP B)) (H.C.asym _ _ px u q) (Di H.C H.ha H.sa L y B)
  by_cases O:x.j+1+l=b.size
  .rw[pH (by simp[O])]
   exact ko (.r _ _ _ (H.h _ _ (X.endB H.sa O)))
  rw[pE (by simpa using O)]
  exact PZ H hl (x:=⟨_,_,_,_,_,_,x.g⟩) ⟨X,R,by dsimp only;lia,by dsimp only;lia⟩ S
 .rw[pE cl];exact PZ H hl (x:=⟨_,_,_,_,_,_,x.g⟩) ⟨I,R,by dsimp only;lia,by dsimp only;lia⟩ (by rw[show x.j+1=x.j+1+l by lia];exact S)
def Qo(H:Lo prog w A s κ P lt a b st Q)(hl:Hl lt a b)(q:ML lt a b n x) :
  wpS (kj prog w) A E s (loA a b x.o x.i x.j x.m x.p x.q) (Lp L6 (λx=>sg st x.g) (ML lt a b n) (ML lt a b n) Q) (sg st x.g):=by
 have U:=q.p;have u:=q.q;have X:=q.r;have I:b[x.j]?=some b[x.j]:=ag u;have B:=H.hb _ (bC u);refine km (yB (km (qa I (km (uP H.C (base:=x.i) (n:=a.size-x.i) (by lia) (by lia) H.ha B H.hk (Bo H.C (by lia) H.ha B (H.sa.sublist (bW _ _))) λk k1 Y k3=>?_)))))
 have R:∀z,b[x.j]?=some z->∀y∈a.toList.drop (x.i+k),lt y z=false:=λz S y l=>by
  obtain⟨J,t,ey⟩:=zp l;have q:=k3 (k+J) (by lia) (by lia)
  rw[uE (by rw[←gB];exact ey),pE (by decide)]at q
  rw[I]at S;cases S;exact H.C.asym _ _ B (H.ha _ (vP l)) (by simpa using q)
 dsimp only
 by_cases ck:k>0
 .rw[pH ck];have L:=q.m.moreA H.sa (k:=k) (by lia) λx G y l=>by
   obtain⟨J,t,ex⟩:=xp G;have q:=Y J t;rw[uE ex,pE (by decide)]at q
   exact H.C.trans _ _ _ (H.ha x (bP G |> vP)) B (H.hb _ (vP l)) (by simpa using q) (Di H.C H.hb H.sb I y l)
  by_cases M:x.i+k+1=a.size
  .rw[pH (by simp[M])]
   exact ko (.r _ _ _ (H.h _ x.m (L.lastA H.sa H.sb λx G=>hl _ M x (bL G))))
  rw[pE (by simpa using M)]
  by_cases O:x.i+k=a.size
  .rw[pH (by simp[O])]
   exact ko (.r _ _ _ (H.h _ x.m (L.endA H.sb O)))
  rw[pE (by simpa using O)]
  exact Rg H hl (x:=⟨_,_,_,_,_,_,x.m⟩) ⟨L,by dsimp only;lia,u,by dsimp only;lia⟩ R
 .rw[pE ck];exact Rg H hl (x:=⟨_,_,_,_,_,_,x.m⟩) ⟨q.m,U,u,X⟩ (by rw[show x.i=x.i+k by lia];exact R)
def Xn(H:Lo prog w A s κ P lt a b st Q)(hl:Hl lt a b){m j:Nat}(q:ML lt a b (n+j) x) :
  wpS (kj prog w) A E s (lo1 a b m x.o x.i x.j x.p x.q) (Lp L5 (λx=>sg st x.g) (ML lt a b (n+(j+1))) (ML lt a b (n+1)) Q) (sg st x.g):=by
 have M:=q.p;have L:=q.q;have S:=q.r;have B:a[x.i]?=some a[x.i]:=ag (by lia)
 have G:b[x.j]?=some b[x.j]:=ag L;have I:=H.ha _ (bC (show x.i<a.size by lia))
 have J:=H.hb _ (bC L);refine km (qa G (km (qa B (km (H.C.cmp J I H.hk ?_)))));cases e:lt b[x.j] a[x.i]with
 |true=>
  dsimp only;rw[pH rfl];refine km (qa G ?_);have t:=q.m.pushB H.sb G λz u=>H.C.trans _ _ _ J I (H.ha _ (vP u)) (H.C.asym _ _ J I e) (Di H.C H.ha H.sa B z u)
  by_cases l:x.j+1=b.size
  .rw[pH (by simp[l])]
   exact ko (.r _ _ _ (H.h _ _ (t.endB H.sa l)))
  rw[pE (by simpa using l)]
  have R:∀n,n<=x.i+(x.j+1)->ML lt a b n ⟨_,_,_,0,0,x.q+1,x.g⟩:=λn hn=>⟨t,M,by dsimp only;lia,hn⟩
  split
  .exact ko (.d _ (R _ (by lia)))
  .exact ko (.y _ (R _ (by lia)))
 |false=>
  dsimp only;rw[pE (by decide)]
  refine km (qa B ?_);have t:=q.m.pushA H.sa B λz u=>H.C.trans _ _ _ I J (H.hb _ (vP u)) e (Di H.C H.hb H.sb G z u)
  by_cases l:x.i+1+1=a.size
  .rw[pH (by simp[l])]
   exact ko (.r _ _ _ (H.h _ _ (t.lastA H.sa H.sb λx O=>hl _ l x (bL O))))
  rw[pE (by simpa using l)]
  have R:∀n,n<=x.i+1+x.j->ML lt a b n ⟨_,_,_,0,x.p+1,0,x.g⟩:=λn hn=>⟨t,by dsimp only;lia,L,hn⟩
  split
  .exact ko (.d _ (R _ (by lia)))
  .exact ko (.y _ (R _ (by lia)))
def WN(H:Lo prog w A s κ P lt a b st Q)(hl:Hl lt a b)(q:ML lt a b n x) :
  wpS (kj prog w) A E s (lo0 a b x.o x.i x.j x.m) (Lp L4 (λx=>sg st x.g) (ML lt a b (n+1)) (λ_=>False) Q) (sg st x.g):=by
 refine xG L5 (λx=>sg st x.g) (λj=>ML lt a b (n+j)) (ML lt a b (n+1)) Q ⟨x.o,x.i,x.j,0,0,0,x.g⟩ ⟨q.m,q.p,q.q,q.r⟩ (λj x q=>Xn H hl q) (λy h=>⟨h.m,h.p,h.q,by have:=h.r;have:=h.p;have:=h.q;lia⟩) (λy q=>?_) λr y l hr=>ko (.r _ _ _ hr)
 refine km (xH ?_);refine xG L6 (λx=>sg st x.g) (λ_=>ML lt a b (n+1)) (ML lt a b (n+1)) Q ⟨y.o,y.i,y.j,x.m+1,y.p,y.q,y.g⟩ ⟨q.m,q.p,q.q,q.r⟩ (λj z q=>?_) (λ_ h=>h) (λz q=>?_) λr y l hr=>ko (.r _ _ _ hr)
 .dsimp only;split
  .exact Qo H hl (x:=⟨_,_,_,z.m-1,_,_,z.g⟩) ⟨q.m,q.p,q.q,q.r⟩
  .exact Qo H hl q
 .refine km (yB (ko ?_));exact Lp.y (t:=L4) (v:=λx=>sg st x.g) ⟨_,_,_,z.m+1,0,0,z.m+1⟩ ⟨q.m,q.p,q.q,q.r⟩
def Ig(C:zY prog w A s κ P lt)(ha:∀x,x∈a->P x)(hb:∀x,x∈b->P x)(hk:kindOf st=κ)(sa:yA lt a.toList)(sb:yA lt b.toList)
  (M:0<a.size) (B:0<b.size) (G:∀x,b[0]?=some x->∀y∈a.toList,lt y x=false) (hl:∀i,i+1=a.size->∀x∈b.toList,∀y∈a.toList.drop i,lt y x=false)
  (h:∀r g,SD lt a b r->Q r (sg st g)):wpS (kj prog w) A E s (DA a b) Q st:=by
 rw[IF];refine km (xH ?_);have l:b[0]?=some b[0]:=ag B;refine km (qa l ?_);have H:MI lt a b #[] 0 0:=⟨bx _,bx _,by simp,by simp[yA],by simp,by simp⟩
 have t:MI lt a b #[b[0]] 0 1:=H.pushB sb l λy I=>G _ l y (by simpa using I)
 by_cases u:1=b.size
 .rw[pH (by simp[←u])]
  exact ko (h _ (mO st) (t.endB sa u))
 rw[pE (by simpa using u)]
 by_cases z:0+1=a.size
 .rw[pH (by simp[←z])]
  exact ko (h _ (mO st) (t.lastA sa sb λx J=>hl 0 z x (bL J)))
 rw[pE (by simpa using z)]
 refine km (mF ?_);exact xG L4 (λx=>sg st x.g) (λi=>ML lt a b (i+1)) (λ_=>False) Q ⟨_,0,1,_,0,0,mO st⟩ ⟨t,by dsimp only;lia,by dsimp only;lia,by dsimp only;lia⟩ (λi x q=>WN ⟨C,ha,hb,hk,sa,sb,h⟩ hl q) (λx h=>by have:=h.p;have:=h.q;have:=h.r;lia) (λx h=>h.elim) λr y L hr=>ko hr
end
structure MH (lt:ke->ke->Bool)(a b out:Array ke)(na nb:Nat):Prop where
 la:na<=a.size
 lb:nb<=b.size
 pm:((a.toList.take na++b.toList.take nb)++out.toList.reverse).Perm (a.toList++b.toList)
 so:yA lt out.toList.reverse
 ua:∀x∈a.toList.take na,∀y∈out.toList,lt y x=false
 ub:∀x∈b.toList.take nb,∀y∈out.toList,lt y x=false
section
variable {lt:ke->ke->Bool}{a b out out':Array ke}{na nb k:Nat}
def MH.congr(m:MH lt a b out na nb)(e:out'.toList=out.toList):MH lt a b out' na nb:=⟨m.la,m.lb,by rw[e];exact m.pm,by rw[e];exact m.so,by rw[e];exact m.ua,by rw[e];exact m.ub⟩
def Bi(l:List ke)(k n:Nat)(h:k<=n):l.take n=l.take k++(l.take n).drop k:=by
 have e:(l.take n).take k=l.take k:=by rw[List.take_take,fk h]
 rw[←e,aS]
noncomputable def qW(a:Array ke)(k n:Nat):(a.extract k n).toList=(a.toList.take n).drop k:=by
 rw[gI,fI,List.drop_take]
def BL(a:Array ke)(n:Nat):(a.extract 0 n).toList=a.toList.take n:=by
 rw[qW,fX]
def MH.moreA(m:MH lt a b out na nb)(sa:yA lt a.toList)(hk:k<=na)(h:∀x∈b.toList.take nb,∀y∈(a.toList.take na).drop k,lt y x=false):MH lt a b (out++(a.extract k na).reverse) k nb:=by
 have e:(out++(a.extract k na).reverse).toList=out.toList++((a.toList.take na).drop k).reverse:=by rw[aY,dE,qW]
 have t:(out++(a.extract k na).reverse).toList.reverse=(a.toList.take na).drop k++out.toList.reverse:=by rw[e,eZ,gJ]
 have c:=Bi a.toList k na hk;have sd:yA lt (a.toList.take na):=sa.sublist (bE _ _);have s:=sd;rw[c]at s;obtain⟨B,u,z⟩:=aR.mp s;have sub:∀y,y∈(a.toList.take na).drop k->y∈a.toList.take na:=λy l=>bL l
 refine⟨bY hk m.la,m.lb,?_,?_,?_,?_⟩
 .rw[t];refine aL.trans ?_ m.pm;rw[←aa];refine aL.append_right _ ?_
  conv=>rhs;rw[c]
  rw[aa,aa];exact aL.append_left _ aT
 .rw[t];exact aR.mpr ⟨u,m.so,λx n y l=>m.ua x (sub x n) y (cj.mp l)⟩
 .rw[e];intro x n y l;rcases mAq.mp l with l|l
  .exact m.ua x (by rw[c];exact ak _ n) y l
  .exact z x n y (cj.mp l)
 .rw[e];intro x n y l;rcases mAq.mp l with l|l
  .exact m.ub x n y l
  .exact h x n y (cj.mp l)
def MH.moreB(m:MH lt a b out na nb)(sb:yA lt b.toList)(hk:k<=nb)(h:∀x∈a.toList.take na,∀y∈(b.toList.take nb).drop k,lt y x=false):MH lt a b (out++(b.extract k nb).reverse) na k:=by
 have e:(out++(b.extract k nb).reverse).toList=out.toList++((b.toList.take nb).drop k).reverse:=by rw[aY,dE,qW]
 have t:(out++(b.extract k nb).reverse).toList.reverse=(b.toList.take nb).drop k++out.toList.reverse:=by rw[e,eZ,gJ]
 have c:=Bi b.toList k nb hk;have sd:yA lt (b.toList.take nb):=sb.sublist (bE _ _);have s:=sd;rw[c]at s;obtain⟨B,u,z⟩:=aR.mp s;have sub:∀y,y∈(b.toList.take nb).drop k->y∈b.toList.take nb:=λy l=>bL l
 refine⟨m.la,bY hk m.lb,?_,?_,?_,?_⟩
 .rw[t];refine aL.trans ?_ m.pm;rw[←aa];refine aL.append_right _ ?_
  conv=>rhs;rw[c]
  rw[aa]
 .rw[t];exact aR.mpr ⟨u,m.so,λx n y l=>m.ub x (sub x n) y (cj.mp l)⟩
 .rw[e];intro x n y l;rcases mAq.mp l with l|l
  .exact m.ua x n y l
  .exact h x n y (cj.mp l)
 .rw[e];intro x n y l;rcases mAq.mp l with l|l
  .exact m.ub x (by rw[c];exact ak _ n) y l
  .exact z x n y (cj.mp l)
def yF{l:List ke}{i:Nat}{x:ke}(h:l[i]?=some x):(l.take (i+1)).drop i=[x]:=by
 rw[bF,h,jm];have hl:(l.take i).length=i:=by
  have:=(gSq.mp h).1;rw[lTq];lia
 rw[gn (by lia),hl,cR]
 rfl
def MH.pushA{x:ke}(m:MH lt a b out (na+1) nb)(sa:yA lt a.toList)(s:a[na]?=some x)(h:∀y∈b.toList.take nb,lt x y=false):MH lt a b (out.push x) na nb:=by
 have l:a.toList[na]?=some x:=by rw[aw];exact s
 refine(m.moreA sa (k:=na) (cg _) λz t y n=>?_).congr ?_
 .rw[yF l,mSq]at n;rw[n];exact h z t
 .rw[dJ,aY,dE,qW,yF l];rfl
def MH.pushB{x:ke}(m:MH lt a b out na (nb+1))(sb:yA lt b.toList)(s:b[nb]?=some x)(h:∀y∈a.toList.take na,lt x y=false):MH lt a b (out.push x) na nb:=by
 have l:b.toList[nb]?=some x:=by rw[aw];exact s
 refine(m.moreB sb (k:=nb) (cg _) λz t y n=>?_).congr ?_
 .rw[yF l,mSq]at n;rw[n];exact h z t
 .rw[dJ,aY,dE,qW,yF l];rfl
def MH.end(m:MH lt a b out na nb)(sa:yA lt a.toList)(sb:yA lt b.toList)(e:na=0∨nb=0):SD lt a b (a.extract 0 na++b.extract 0 nb++out.reverse):=by
 have n:(a.extract 0 na++b.extract 0 nb++out.reverse).toList=(a.toList.take na++b.toList.take nb)++out.toList.reverse:=by
  rw[aY,aY,BL,BL,dE]
 refine⟨by rw[n];exact m.pm,?_⟩
 rw[n];refine aR.mpr ⟨?_,m.so,λx l y s=>?_⟩
 .rcases e with rfl|rfl
  .rw[iW,cX];exact sb.sublist (bE _ _)
  .rw[iW,aNq];exact sa.sublist (bE _ _)
 .rcases mAq.mp l with l|l
  .exact m.ua x l y (cj.mp s)
  .exact m.ub x l y (cj.mp s)
def MH.firstB(m:MH lt a b out na nb)(sa:yA lt a.toList)(sb:yA lt b.toList)(h:∀x∈b.toList.take nb,∀y∈a.toList.take na,lt y x=false):SD lt a b (b.extract 0 nb++a.extract 0 na++out.reverse):=by
 have n:(b.extract 0 nb++a.extract 0 na++out.reverse).toList=(b.toList.take nb++a.toList.take na)++out.toList.reverse:=by
  rw[aY,aY,BL,BL,dE]
 refine⟨?_,?_⟩
 .rw[n];exact(aL.append_right _ aT).trans m.pm
 .rw[n];refine aR.mpr ⟨aR.mpr ⟨sb.sublist (bE _ _),sa.sublist (bE _ _),h⟩,m.so,λx l y s=>?_⟩
  rcases mAq.mp l with l|l
  .exact m.ub x l y (cj.mp s)
  .exact m.ua x l y (cj.mp s)
end
def Dt:Array ke->Array ke->StateT SortSt Sem (Array ke):=sortPriv% PySem.Builtin.mergeHi
section
variable (a b:Array ke)
abbrev dH(o:Array ke)(i j:Nat):=a.extract 0 i++b.extract 0 j++o.reverse
abbrev fH(o:Array ke)(i j:Nat):=b.extract 0 j++a.extract 0 i++o.reverse
abbrev SH(α:Type):=ForInStep (Option (Array ke)×Nat×Nat×Array ke×α)
def hiC(o:Array ke)(i j m k l:Nat):StateT SortSt Sem (SH (Nat×Nat×Nat)):=do
 let x ←kW a (i-1)
 if i-1 == 0 then pure (.done (some (dH a b (o.push x) (i-1) j),i-1,j,o.push x,m,k,l))
 else if decide (k<7) && decide (l<7)then pure (.done (none,i-1,j,o.push x,m,k,l))
 else pure (.yield (none,i-1,j,o.push x,m,k,l))
def hiB(o:Array ke)(i j m k q:Nat):StateT SortSt Sem (SH (Nat×Nat×Nat)):=do
 let x ←kW b (j-1)
 if j-1 == 1 then pure (.done (some (fH a b (o.push x) i (j-1)),i,j-1,o.push x,m,k,q))
 else do
  let y ←kW a (i-1)
  match ←wJ true y b 0 (j-1) (j-1-1)with
  |some l=>
   if j-1-l>0 then
    if l == 1 then pure (.done (some (fH a b (o.push x++(b.extract l (j-1)).reverse) i l),i,l,o.push x++(b.extract l (j-1)).reverse,m,k,j-1-l))
    else if l == 0 then pure (.done (some (dH a b (o.push x++(b.extract l (j-1)).reverse) i l),i,l,o.push x++(b.extract l (j-1)).reverse,m,k,j-1-l))
    else hiC a b (o.push x++(b.extract l (j-1)).reverse) i l m k (j-1-l)
   else hiC a b (o.push x) i (j-1) m k (j-1-l)
  |_=>pure (.done (some (dH a b (o.push x) i (j-1)),i,j-1,o.push x,m,k,q))
def hiA(o:Array ke)(i j m p q:Nat):StateT SortSt Sem (SH (Nat×Nat×Nat)):=do
 sq m
 let x ←kW b (j-1)
 match ←wJ false x a 0 i (i-1)with
 |some k=>
  if i-k>0 then
   if k == 0 then pure (.done (some (dH a b (o++(a.extract k i).reverse) k j),k,j,o++(a.extract k i).reverse,m,i-k,q))
   else hiB a b (o++(a.extract k i).reverse) k j m (i-k) q
  else hiB a b o i j m (i-k) q
 |_=>pure (.done (some (dH a b o i j),i,j,o,m,p,q))
def SG(m:Nat)(o:Array ke)(i j p q:Nat):StateT SortSt Sem (SH (Nat×Nat)):=do
 let y ←kW b (j-1)
 let x ←kW a (i-1)
 match ←lt' y x with
 |some c=>
  if c then do
   let z ←kW a (i-1)
   if i-1 == 0 then pure (.done (some (dH a b (o.push z) (i-1) j),i-1,j,o.push z,p+1,0))
   else if p+1 ≥ m then pure (.done (none,i-1,j,o.push z,p+1,0))
   else pure (.yield (none,i-1,j,o.push z,p+1,0))
  else do
   let z ←kW b (j-1)
   if j-1 == 1 then pure (.done (some (fH a b (o.push z) i (j-1)),i,j-1,o.push z,0,q+1))
   else if q+1 ≥ m then pure (.done (none,i,j-1,o.push z,0,q+1))
   else pure (.yield (none,i,j-1,o.push z,0,q+1))
 |_=>pure (.done (some (dH a b o i j),i,j,o,p,q))
def YT(o:Array ke)(i j m:Nat):StateT SortSt Sem (SH Nat):=do
 let r ←forIn [0:a.size+b.size] (none,i,j,o,0,0) λ_ s=>SG a b m s.2.2.2.1 s.2.1 s.2.2.1 s.2.2.2.2.1 s.2.2.2.2.2
 Break.runK.match_1 (λ_=>StateT SortSt Sem (SH Nat)) r.1 (λv=>pure (.done (some v,r.2.1,r.2.2.1,r.2.2.2.1,m))) λ_=>do
  rule "list.sort.gallop"
  let r ←forIn [0:a.size+b.size] (none,r.2.1,r.2.2.1,r.2.2.2.1,m+1,r.2.2.2.2.1,r.2.2.2.2.2) λ_ s=>if s.2.2.2.2.1>1 then hiA a b s.2.2.2.1 s.2.1 s.2.2.1 (s.2.2.2.2.1-1) s.2.2.2.2.2.1 s.2.2.2.2.2.2 else hiA a b s.2.2.2.1 s.2.1 s.2.2.1 s.2.2.2.2.1 s.2.2.2.2.2.1 s.2.2.2.2.2.2
  Break.runK.match_1 (λ_=>StateT SortSt Sem (SH Nat)) r.1 (λv=>pure (.done (some v,r.2.1,r.2.2.1,r.2.2.2.1,r.2.2.2.2.1))) λ_=>do
   sq (r.2.2.2.2.1+1)
   pure (.yield (none,r.2.1,r.2.2.1,r.2.2.2.1,r.2.2.2.2.1+1))
def HN:Dt a b=(do
 rule "list.sort.merge-hi"
 let x ←kW a (a.size-1)
 if a.size-1 == 0 then pure (dH a b #[x] (a.size-1) b.size)
 else if b.size == 1 then pure (fH a b #[x] (a.size-1) b.size)
 else do
  let st ←get
  let r ←forIn [0:a.size+b.size] (none,a.size-1,b.size,#[x],mO st) λ_ s=>YT a b s.2.2.2.1 s.2.1 s.2.2.1 s.2.2.2.2
  Break.runK.match_1 (λ_=>StateT SortSt Sem (Array ke)) r.1 (λv=>pure v) λ_=>lC "internal:list.sort.merge-bound"):=rfl
end
section
variable {prog:ku}{w:ky}{A:Around}{E:Ψ}{s:Shared}{κ:kR}{P:ke->Prop}{lt:ke->ke->Bool}
def Dm(C:zY prog w A s κ P lt){a:Array ke}{i:Nat}{x:ke}(ha:∀x,x∈a->P x)(sa:yA lt a.toList)(t:a[i]?=some x):∀y∈a.toList.take (i+1),lt x y=false:=by
 obtain⟨hi,e⟩:=bj.mp t;have n:a.toList[i]?=some x:=by rw[aw];exact t
 have sd:yA lt (a.toList.take (i+1)):=sa.sublist (bE _ _);rw[bF,n]at sd ⊢;intro y l;rcases mAq.mp l with l|l
 .exact(aR.mp sd).2.2 y l x (by simp)
 .have:y=x:=by simpa using l
  rw[this];exact C.refl (ha _ (by rw[←e];exact bC hi))
def wx{a:Array ke}{i:Nat}{y:ke}(h:y∈a.toList.take i):y∈a:=by simpa using bP h
def zu{a:Array ke}{n:Nat}{x:ke}(h:x∈a.toList.take n):∃j,j<n/\a[0+j]?=some x:=by
 have l:x∈(a.toList.drop 0).take n:=by rw[fX];exact h
 exact xp l
def vY{a:Array ke}{k n:Nat}{x:ke}(h:x∈(a.toList.take n).drop k):∃j,k<=j/\j<n/\a[0+j]?=some x:=by
 obtain⟨j,l,e⟩:=cP.mp h;rw[aQ,lTq,aq]at l;refine⟨k+j,by lia,by lia,?_⟩
 rw[gc,iq]at e;rw[bj];exact⟨by lia,by simpa using e⟩
structure MG (lt:ke->ke->Bool)(a b:Array ke)(n:Nat)(x:Ls):Prop where
 m:MH lt a b x.o x.i x.j
 p:0<x.i
 q:1<x.j
 r:x.i+x.j+n<=a.size+b.size
abbrev H6(x:Ls):=(x.i,x.j,x.o,x.m,x.p,x.q)
abbrev H5(x:Ls):=(x.i,x.j,x.o,x.p,x.q)
abbrev H4(x:Ls):=(x.i,x.j,x.o,x.m)
variable {a b:Array ke}{st:SortSt}{Q:Array ke->SortSt->Prop}{n:Nat}{x:Ls}{o:Array ke}{u v i j m k l g:Nat}
abbrev Hf(lt:ke->ke->Bool)(a b:Array ke):=∀x∈b.toList.take 1,∀y∈a.toList,lt y x=false
def hiF(H:Lo prog w A s κ P lt a b st Q)(t:Hf lt a b)(m:MH lt a b o i 1):Q (b.extract 0 1++a.extract 0 i++o.reverse) (sg st g):=H.h _ _ (m.firstB H.sa H.sb λx z y B=>t x z y (bP B))
def Sk(H:Lo prog w A s κ P lt a b st Q)(q:MG lt a b n ⟨o,u+1,j,m,k,l,g⟩)(hi:∀z,a[u]?=some z->∀y∈b.toList.take j,lt z y=false) :
  wpS (kj prog w) A E s (hiC a b o (u+1) j m k l) (Lp H6 (λx=>sg st x.g) (MG lt a b n) (MG lt a b n) Q) (sg st g):=by
 dsimp only[hiC,fJ];have B:a[u]?=some (a[u]'q.m.la):=ag q.m.la;refine km (qa B ?_);have G:=q.m.pushA H.sa B (hi _ B)
 by_cases t:u=0
 .rw[pH (by simp[t])]
  exact ko (.r _ _ _ (H.h _ _ (G.end H.sa H.sb (.inl t))))
 rw[pE (by simpa using t)]
 have R:MG lt a b n ⟨_,_,_,m,k,l,g⟩:=⟨G,fR t,q.q,by have:=q.r;dsimp only at *;lia⟩
 split
 .exact ko (.d _ R)
 .exact ko (.y _ R)
def OG(H:Lo prog w A s κ P lt a b st Q)(hf:Hf lt a b)(q:MG lt a b n ⟨o,u+1,v+1,m,k,l,g⟩)(hi:∀z,b[v]?=some z->∀y∈a.toList.take (u+1),lt z y=false) :
  wpS (kj prog w) A E s (hiB a b o (u+1) (v+1) m k l) (Lp H6 (λx=>sg st x.g) (MG lt a b n) (MG lt a b n) Q) (sg st g):=by
 dsimp only[hiB,fJ];have la:u<a.size:=q.m.la;have lb:v<b.size:=q.m.lb;have p2:1<v+1:=q.q;have p3:u+1+(v+1)+n<=a.size+b.size:=q.r;have I:b[v]?=some b[v]:=ag lb;refine km (qa I ?_);have J:=q.m.pushB H.sb I (hi _ I)
 by_cases L:v=1
 .rw[pH (by simp[L])]
  subst L;exact ko (.r _ _ _ (hiF H hf J))
 rw[pE (by simpa using L)]
 have M:a[u]?=some a[u]:=ag la;have G:=H.ha _ (bC la);refine km (qa M (km (uP H.C (base:=0) (n:=v) (by lia) (by lia) H.hb G H.hk (Bo H.C (by lia) H.hb G (by rw[fX];exact H.sb)) λl l1 l2 l3=>?_)))
 have hB:∀z,a[u]?=some z->∀y∈b.toList.take l,lt z y=false:=λz hz y B=>by
  obtain⟨O,t,R⟩:=zu B;have q:=l2 O t;rw[uE R,pH rfl]at q;rw[M]at hz;cases hz;exact H.C.asym _ _ (H.hb _ (wx B)) G q
 dsimp only
 by_cases cl:v-l>0
 .rw[pH cl];have S:=J.moreB H.sb (k:=l) l1 λx hx y B=>by
   obtain⟨O,U,t,R⟩:=vY B;have q:=l3 O U t;rw[uE R,pH rfl]at q;exact H.C.trans _ _ _ (H.ha _ (wx hx)) G (H.hb y (bL B |> wx)) (Dm H.C H.ha H.sa M x hx) q
  by_cases X:l=1
  .rw[pH (by simp[X])]
   subst X;exact ko (.r _ _ _ (hiF H hf S))
  rw[pE (by simpa using X)]
  by_cases Y:l=0
  .rw[pH (by simp[Y])]
   exact ko (.r _ _ _ (H.h _ _ (S.end H.sa H.sb (.inr Y))))
  rw[pE (by simpa using Y)]
  exact Sk H ⟨S,q.p,by dsimp only;lia,by dsimp only;lia⟩ hB
 .rw[pE cl];have:l=v:=by lia
  subst this;exact Sk H ⟨J,q.p,by dsimp only;lia,by dsimp only;lia⟩ hB
def OL(H:Lo prog w A s κ P lt a b st Q)(R:Hf lt a b)(q:MG lt a b n x) :
  wpS (kj prog w) A E s (hiA a b x.o x.i x.j x.m x.p x.q) (Lp H6 (λx=>sg st x.g) (MG lt a b n) (MG lt a b n) Q) (sg st x.g):=by
 obtain⟨o,i,j,m,p,q',g⟩:=x;have la:i<=a.size:=q.m.la;have p1:0<i:=q.p;have S:1<j:=q.q;have p3:i+j+n<=a.size+b.size:=q.r;obtain⟨v,rfl⟩:∃v,j=v+1:=⟨j-1,by lia⟩
 have lb:v<b.size:=q.m.lb;dsimp only[hiA,fJ];have I:b[v]?=some b[v]:=ag lb;have B:=H.hb _ (bC lb);refine km (yB (km (qa I (km (uP H.C (base:=0) (n:=i) (by lia) (by lia) H.ha B H.hk (Bo H.C (by lia) H.ha B (by rw[fX];exact H.sa)) λk k1 k2 k3=>?_)))))
 have U:∀z,b[v]?=some z->∀y∈a.toList.take k,lt z y=false:=λz X y G=>by
  obtain⟨J,t,L⟩:=zu G;have q:=k2 J t;rw[uE L,pE (by decide)]at q
  rw[I]at X;cases X;simpa using q
 dsimp only
 by_cases ck:i-k>0
 .rw[pH ck];have Y:=q.m.moreA H.sa (k:=k) k1 λx hx y G=>by
   obtain⟨J,M,t,L⟩:=vY G;have q:=k3 J M t;rw[uE L,pE (by decide)]at q
   have py:=H.ha y (bL G |> wx);exact H.C.trans _ _ _ (H.hb _ (wx hx)) B py (Dm H.C H.hb H.sb I x hx) (H.C.asym _ _ B py (by simpa using q))
  by_cases O:k=0
  .rw[pH (by simp[O])]
   exact ko (.r _ _ _ (H.h _ m (Y.end H.sa H.sb (.inl O))))
  rw[pE (by simpa using O)]
  obtain⟨u,rfl⟩:∃u,k=u+1:=⟨k-1,by lia⟩
  exact OG H R (g:=m) ⟨Y,Nat.succ_pos _,S,by dsimp only;lia⟩ U
 .rw[pE ck];have:k=i:=by lia
  subst this;obtain⟨u,rfl⟩:∃u,k=u+1:=⟨k-1,by lia⟩
  exact OG H R (g:=m) ⟨q.m,p1,S,p3⟩ U
def Yb(H:Lo prog w A s κ P lt a b st Q)(M:Hf lt a b)(q:MG lt a b (n+j) x) :
  wpS (kj prog w) A E s (SG a b m x.o x.i x.j x.p x.q) (Lp H5 (λx=>sg st x.g) (MG lt a b (n+(j+1))) (MG lt a b (n+1)) Q) (sg st x.g):=by
 obtain⟨o,i,k,X,p,O,g⟩:=x;have S:0<i:=q.p;have U:1<k:=q.q;have Y:i+k+(n+j)<=a.size+b.size:=q.r;obtain⟨u,rfl⟩:∃u,i=u+1:=⟨i-1,by lia⟩
 obtain⟨v,rfl⟩:∃v,k=v+1:=⟨k-1,by lia⟩
 have la:u<a.size:=q.m.la;have lb:v<b.size:=q.m.lb;dsimp only[SG,fJ];have G:a[u]?=some a[u]:=ag la;have I:b[v]?=some b[v]:=ag lb;have J:=H.ha _ (bC la);have L:=H.hb _ (bC lb);refine km (qa I (km (qa G (km (H.C.cmp L J H.hk ?_)))));cases e:lt b[v] a[u]with
 |true=>
  dsimp only;rw[pH rfl];refine km (qa G ?_);have z:=q.m.pushA H.sa G λy B=>H.C.trans _ _ _ (H.hb _ (wx B)) L J (Dm H.C H.hb H.sb I y B) (H.C.asym _ _ L J e)
  by_cases t:u=0
  .rw[pH (by simp[t])]
   exact ko (.r _ _ _ (H.h _ _ (z.end H.sa H.sb (.inl t))))
  rw[pE (by simpa using t)]
  have R:∀n,u+(v+1)+n<=a.size+b.size->MG lt a b n ⟨_,_,_,0,p+1,0,g⟩:=λn hn=>⟨z,fR t,U,hn⟩
  split
  .exact ko (.d _ (R _ (by lia)))
  .exact ko (.y _ (R _ (by lia)))
 |false=>
  dsimp only;rw[pE (by decide)]
  refine km (qa I ?_);have z:=q.m.pushB H.sb I λy B=>H.C.trans _ _ _ (H.ha _ (wx B)) J L (Dm H.C H.ha H.sa G y B) e
  by_cases t:v=1
  .rw[pH (by simp[t])]
   subst t;exact ko (.r _ _ _ (hiF H M z))
  rw[pE (by simpa using t)]
  have R:∀n,u+1+v+n<=a.size+b.size->MG lt a b n ⟨_,_,_,0,0,O+1,g⟩:=λn hn=>⟨z,S,by dsimp only;lia,hn⟩
  split
  .exact ko (.d _ (R _ (by lia)))
  .exact ko (.y _ (R _ (by lia)))
def Yw(H:Lo prog w A s κ P lt a b st Q)(B:Hf lt a b)(q:MG lt a b n x) :
  wpS (kj prog w) A E s (YT a b x.o x.i x.j x.m) (Lp H4 (λx=>sg st x.g) (MG lt a b (n+1)) (λ_=>False) Q) (sg st x.g):=by
 refine xG H5 (λx=>sg st x.g) (λj=>MG lt a b (n+j)) (MG lt a b (n+1)) Q ⟨x.o,x.i,x.j,0,0,0,x.g⟩ ⟨q.m,q.p,q.q,q.r⟩ (λj x q=>Yb H B q) (λy h=>⟨h.m,h.p,h.q,by have:=h.r;have:=h.p;have:=h.q;lia⟩) (λy q=>?_) λr y G hr=>ko (.r _ _ _ hr)
 refine km (xH ?_);refine xG H6 (λx=>sg st x.g) (λ_=>MG lt a b (n+1)) (MG lt a b (n+1)) Q ⟨y.o,y.i,y.j,x.m+1,y.p,y.q,y.g⟩ ⟨q.m,q.p,q.q,q.r⟩ (λj z q=>?_) (λ_ h=>h) (λz q=>?_) λr y G hr=>ko (.r _ _ _ hr)
 .dsimp only;split
  .exact OL H B (x:=⟨_,_,_,z.m-1,_,_,z.g⟩) ⟨q.m,q.p,q.q,q.r⟩
  .exact OL H B q
 .refine km (yB (ko ?_));exact Lp.y (t:=H4) (v:=λx=>sg st x.g) ⟨_,_,_,z.m+1,0,0,z.m+1⟩ ⟨q.m,q.p,q.q,q.r⟩
def Ik(C:zY prog w A s κ P lt)(ha:∀x,x∈a->P x)(hb:∀x,x∈b->P x)(hk:kindOf st=κ)(sa:yA lt a.toList)(sb:yA lt b.toList)
  (L:0<a.size) (M:0<b.size) (J:∀x∈b.toList.take 1,∀y∈a.toList,lt y x=false) (hl:∀x,a[a.size-1]?=some x->∀y∈b.toList,lt x y=false)
  (h:∀r g,SD lt a b r->Q r (sg st g)):wpS (kj prog w) A E s (Dt a b) Q st:=by
 have H:Lo prog w A s κ P lt a b st Q:=⟨C,ha,hb,hk,sa,sb,h⟩;rw[HN];refine km (xH ?_);have t:a[a.size-1]?=some (a[a.size-1]'(by lia)):=ag (by lia)
 refine km (qa t ?_);have O:MH lt a b #[] (a.size-1+1) b.size:=⟨by lia,af _,by
  rw[show a.size-1+1=a.toList.length by simp;lia,aE,←aq,aE];simp,by simp[yA],by simp,by simp⟩
 have G:MH lt a b #[a[a.size-1]'(by lia)] (a.size-1) b.size:=O.pushA sa t λy R=>hl _ t y (bP R)
 by_cases B:a.size-1=0
 .rw[pH (by simp[B])]
  exact ko (h _ (mO st) (G.end sa sb (.inl B)))
 rw[pE (by simpa using B)]
 by_cases I:b.size=1
 .rw[pH (by simp[I])]
  have z:=G;rw[I]at z ⊢;exact ko (hiF H J (g:=mO st) z)
 rw[pE (by simpa using I)]
 refine km (mF ?_);exact xG H4 (λx=>sg st x.g) (λi=>MG lt a b (i+1)) (λ_=>False) Q ⟨_,a.size-1,b.size,_,0,0,mO st⟩ ⟨G,fR B,show 1<b.size by lia,show a.size-1+b.size+1<=a.size+b.size by lia⟩ (λi x q=>Yw H J q) (λx h=>by have:=h.p;have:=h.q;have:=h.r;lia) (λx h=>h.elim) λr y S hr=>ko hr
end
def AQ(lt:ke->ke->Bool)(xs:Array ke)(i j:Nat):Prop:=∀p q x y,i<=p->p<=q->q<j->xs[p]?=some x->xs[q]?=some y->lt y x=false
def SJ(lt:ke->ke->Bool)(xs:Array ke)(i j:Nat):Prop:=∀p q x y,i<=p->p<=q->q<j->xs[p]?=some x->xs[q]?=some y->lt x y=false
def ZM(lt:ke->ke->Bool)(xs:Array ke)(i j:Nat):Prop:=∀p q x y,i<=p->p<j->i<=q->q<j->xs[p]?=some x->xs[q]?=some y->lt x y=false
section
variable {lt:ke->ke->Bool}{xs:Array ke}{i j lo n:Nat}
def JR(l:j<=xs.size)(h:SJ lt xs i j):AQ lt (mirror xs i j ((j-i) / 2)) i j:=by
 intro p q x y t z u ex s;rw[mG l,pH ⟨t,by lia⟩]at ex
 rw[mG l,pH ⟨by lia,u⟩]at s
 exact h _ _ _ _ (by lia) (by lia) (by lia) s ex
def Ay(z:j<=xs.size)(hi:lo<=i)(hn:j<=n)(e:ZM lt xs i j)(h:SJ lt xs lo n):SJ lt (mirror xs i j ((j-i) / 2)) lo n:=by
 intro p q x y t B u ex l;rw[mG z]at ex l
 by_cases cp:i<=p/\p<j
 .rw[pH cp]at ex
  by_cases s:i<=q/\q<j
  .rw[pH s]at l;exact e _ _ _ _ (by lia) (by lia) (by lia) (by lia) ex l
  .rw[pE s]at l;exact h _ _ _ _ (by lia) (by lia) u ex l
 .rw[pE cp]at ex
  by_cases s:i<=q/\q<j
  .rw[pH s]at l;exact h _ _ _ _ t (by lia) (by lia) ex l
  .rw[pE s]at l;exact h _ _ _ _ t B u ex l
end
section
variable (lo:Nat)
def crA(n:Nat):StateT SortSt Sem (ForInStep (Option (Option Nat)×Nat)):=do
 match ←ltAt' (lo+n) (lo+n-1)with
 |some c=>if c then pure (.done (none,n))else pure (.yield (none,n+1))
 |_=>pure (.done (some none,n))
def crB(n q:Nat):StateT SortSt Sem (ForInStep (Option (Option Nat)×Nat×Nat)):=do
 match ←ltAt' (lo+n) (lo+n-1)with
 |some c=>
  if c then
   if q>0 then do
    let _ ←mN (lo+n-(q+1)) (lo+n)
    pure (.yield (none,n+1,0))
   else pure (.yield (none,n+1,0))
  else do
   match ←ltAt' (lo+n-1) (lo+n)with
   |some c=>if c then pure (.done (none,n,q))else pure (.yield (none,n+1,q+1))
   |_=>pure (.done (some none,n,q))
 |_=>pure (.done (some none,n,q))
def crZ(l n:Nat):StateT SortSt Sem (Option Nat):=do
 mN lo (lo+n)
 let r ←forIn [n:l] (none,n) λ_ s=>crA lo s.2
 Break.runK.match_1 (λ_=>StateT SortSt Sem (Option Nat)) r.1 (λv=>pure v) λ_=>pure (some r.2)
def crD(l n:Nat):StateT SortSt Sem (Option Nat):=do
 rule "list.sort.descending-run"
 let r ←forIn [n+1:l] (none,n+1,0) λ_ s=>crB lo s.2.1 s.2.2
 Break.runK.match_1 (λ_=>StateT SortSt Sem (Option Nat)) r.1 (λv=>pure v) λ_=>
  if r.2.2>0 then do
   let _ ←mN (lo+r.2.1-(r.2.2+1)) (lo+r.2.1)
   crZ lo l r.2.1
  else crZ lo l r.2.1
def ZF(l:Nat):countRun' lo l=(do
 let r ←forIn [1:l] (none,1) λ_ s=>crA lo s.2
 Break.runK.match_1 (λ_=>StateT SortSt Sem (Option Nat)) r.1 (λv=>pure v) λ_=>
  if r.2 == l then pure (some r.2)
  else if r.2>1 then do
   match ←ltAt' lo (lo+r.2-1)with
   |some c=>
    if c then pure (some r.2)
    else do
     let _ ←mN lo (lo+r.2)
     crD lo l r.2
   |_=>pure none
  else crD lo l r.2):=countRun'_eq lo l
end
section
variable {prog:ku}{w:ky}{A:Around}{E:Ψ}{s:Shared}{κ:kR}{P:ke->Prop}{lt:ke->ke->Bool}
def Ul(C:zY prog w A s κ P lt){xs:Array ke}(n:∀x,x∈xs->P x)(lo:Nat):AQ lt xs lo (lo+1):=by
 intro p q x y t u z ex l;have e:p=q:=by lia
 subst e;rw[ex]at l;cases l;exact C.refl (n _ (aQq ex))
def Sg(C:zY prog w A s κ P lt){xs:Array ke}(t:∀x,x∈xs->P x){lo n:Nat}(h:AQ lt xs lo (lo+(n+1)))(B:∀x y,xs[lo+(n+1)]?=some x->xs[lo+n]?=some y->lt x y=false)(hz:lo+(n+1)<xs.size):AQ lt xs lo (lo+(n+2)):=by
 intro p q x y z G I ex l
 by_cases c:q<lo+(n+1)
 .exact h p q x y z G c ex l
 .have eq:q=lo+(n+1):=by lia
  subst eq
  by_cases H:p=lo+(n+1)
  .subst H;rw[ex]at l;cases l;exact C.refl (t _ (aQq ex))
  .have u:xs[lo+n]?=some (xs[lo+n]'(by lia)):=ag (by lia)
   exact C.trans _ _ _ (t _ (aQq ex)) (t _ (aQq u)) (t _ (aQq l)) (h p (lo+n) _ _ z (by lia) (by lia) ex u) (B _ _ l u)
def HG(C:zY prog w A s κ P lt){xs:Array ke}(t:∀x,x∈xs->P x){lo n:Nat}(h:SJ lt xs lo (lo+(n+1)))(B:∀x y,xs[lo+(n+1)]?=some x->xs[lo+n]?=some y->lt y x=false)(hz:lo+(n+1)<xs.size):SJ lt xs lo (lo+(n+2)):=by
 intro p q x y z G I ex l
 by_cases c:q<lo+(n+1)
 .exact h p q x y z G c ex l
 .have eq:q=lo+(n+1):=by lia
  subst eq
  by_cases H:p=lo+(n+1)
  .subst H;rw[ex]at l;cases l;exact C.refl (t _ (aQq ex))
  .have u:xs[lo+n]?=some (xs[lo+n]'(by lia)):=ag (by lia)
   exact C.trans _ _ _ (t _ (aQq l)) (t _ (aQq u)) (t _ (aQq ex)) (B _ _ l u) (h p (lo+n) _ _ z (by lia) (by lia) ex u)
def HM(C:zY prog w A s κ P lt){lo l a:Nat}{st:SortSt}(J:∀x,x∈kz st->P x)(hk:kindOf st=κ)(ha:1<=a)(u:a<=l)(hz:lo+l<=(kz st).size)(hs:AQ lt (kz st) lo (lo+a)) :
  wpS (kj prog w) A E s (forIn [a:l] ((none,a):Option (Option Nat)×Nat) λ_ s=>crA lo s.2)
   (λc t=>∃n,c=(none,n)/\t=st/\a<=n/\n<=l/\AQ lt (kz st) lo (lo+n)/\(n=l∨∃x y,(kz st)[lo+n]?=some x/\(kz st)[lo+n-1]?=some y/\lt x y=true)) st:=by
 refine kP (I:=λi c t=>c=(none,i)/\t=st/\a<=i/\i<=l/\AQ lt (kz st) lo (lo+i)) ?step ?fin ⟨rfl,rfl,af _,u,hs⟩
 case step=>
  rintro i c t R O ⟨rfl,rfl,G,L,z⟩;obtain⟨k,rfl⟩:∃k,i=k+1:=⟨i-1,by lia⟩
  have ex:(kz t)[lo+(k+1)]?=some ((kz t)[lo+(k+1)]'(by lia)):=ag (by lia)
  have H:(kz t)[lo+(k+1)-1]?=some ((kz t)[lo+k]'(by lia)):=ag (by lia)
  refine km (C.at ex H (J _ (aQq ex)) (J _ (aQq H)) hk ?_);cases e:lt ((kz t)[lo+(k+1)]'(by lia)) ((kz t)[lo+k]'(by lia))with
  |true=>exact ko ⟨_,rfl,rfl,G,L,z,.inr ⟨_,_,ex,H,e⟩⟩
  |false=>
   refine ko ⟨rfl,rfl,by lia,O,Sg C J z (λx y M Q=>?_) (by lia)⟩
   have B:(kz t)[lo+(k+1)-1]?=some y:=Q;rw[ex]at M;rw[H]at B;cases M;cases B;exact e
 case fin=>
  rintro c t ⟨rfl,rfl,G,L,z⟩;have e:max a l=l:=jn u;rw[e]at G L z ⊢;exact⟨l,rfl,rfl,G,af _,z,.inl rfl⟩
def C2{i j:Nat}{st:SortSt}{Q:Unit->SortSt->Prop}(h:Q () (kQ st (mirror (kz st) i j ((j-i) / 2)))):wpS (kj prog w) A E s (mN i j) Q st:=by
 rw[reverseSlice'_eq];exact mv h
structure yU (xs ys:Array ke)(lo hi:Nat):Prop where
 pm:ys.Perm xs
 out:∀k,(k<lo∨hi<=k)->ys[k]?=xs[k]?
theorem yU.refl(xs:Array ke)(lo hi:Nat):yU xs xs lo hi:=⟨jv.refl _,λ_ _=>rfl⟩
theorem yU.trans{xs ys l:Array ke}{lo hi:Nat}(a:yU xs ys lo hi)(b:yU ys l lo hi):yU xs l lo hi:=⟨b.pm.trans a.pm,λk h=>(b.out k h).trans (a.out k h)⟩
def yU.mono{xs ys:Array ke}{lo hi l:Nat}(a:yU xs ys lo hi)(h:hi<=l):yU xs ys lo l:=⟨a.pm,λk q=>a.out k (by lia)⟩
theorem yU.size{xs ys:Array ke}{lo hi:Nat}(a:yU xs ys lo hi):ys.size=xs.size:=a.pm.size_eq
def yU.mem{xs ys:Array ke}{lo hi:Nat}(a:yU xs ys lo hi){P:ke->Prop}(h:∀x,x∈xs->P x):∀x,x∈ys->P x:=λx l=>h x (a.pm.mem_iff.mp l)
def yt{xs:Array ke}{lo hi i j:Nat}(l:j<=xs.size)(n:lo<=i)(t:j<=hi):yU xs (mirror xs i j ((j-i) / 2)) lo hi:=
 ⟨mirror_perm _ _ _ _,λk hk=>by rw[mG l,pE (by lia)]⟩
structure CR (lt:ke->ke->Bool)(as:Array ke)(lo i q:Nat)(ys:Array ke):Prop where
 b:yU as ys lo (lo+i)
 d:SJ lt ys lo (lo+i)
 e:ZM lt ys (lo+i-(q+1)) (lo+i)
 p:q+1<=i
def Dc(C:zY prog w A s κ P lt){ys:Array ke}(t:∀x,x∈ys->P x){i j:Nat}(h:j<=i+1):ZM lt ys i j:=by
 intro p q x y u g2 z B l n;have e:p=q:=by lia
 subst e;rw[l]at n;cases n;exact C.refl (t _ (aQq l))
def X4(C:zY prog w A s κ P lt){lo t k l:Nat}{st:SortSt}{ys:Array ke}(Q:∀x,x∈kz st->P x)(hk:kindOf st=κ)(hz:lo+t<=(kz st).size)(hi:k+1<t)(g:CR lt (kz st) lo (k+1) l ys) :
  wpS (kj prog w) A E s (crB lo (k+1) l) (λr CZ=>∃m q R,CZ=kQ st R/\m<=t/\CR lt (kz st) lo m q R/\(r = .done (none,m,q)∨r = .yield (none,m,q)/\m=k+1+1)) (kQ st ys):=by
 have G:=g.b;have g2:=g.d;have M:=g.e;have g4:=g.p;have n:=G.mem Q;have hsz:=G.size;have ex:ys[lo+(k+1)]?=some (ys[lo+(k+1)]'(by lia)):=ag (by lia)
 have z:ys[lo+(k+1)-1]?=some (ys[lo+k]'(by lia)):=ag (by lia)
 have B:=n _ (aQq ex);have py:=n _ (aQq z);have H:lt (ys[lo+k]'(by lia)) (ys[lo+(k+1)]'(by lia))=false->SJ lt ys lo (lo+(k+1+1)):=λe=>HG C n g2 (λx y S hy=>by
  have I:ys[lo+(k+1)-1]?=some y:=hy;rw[ex]at S;rw[z]at I;cases S;cases I;exact e) (by lia)
 refine km (C.at (st:=kQ st ys) ex z B py hk ?_);cases e:lt (ys[lo+(k+1)]'(by lia)) (ys[lo+k]'(by lia))with
 |true=>
  have J:=H (C.asym _ _ B py e);dsimp only;rw[pH rfl]
  by_cases U:l>0
  .rw[pH U];refine km (C2 (ko ?_));have X:yU (kz st) (mirror ys (lo+(k+1)-(l+1)) (lo+(k+1)) ((lo+(k+1)-(lo+(k+1)-(l+1))) / 2)) lo (lo+(k+1)):=G.trans (yt (by lia) (by lia) (af _))
   exact⟨_,0,_,rfl,hi,⟨X.mono (by lia),Ay (by lia) (by lia) (by lia) M J,Dc C (X.mem Q) (by lia),by lia⟩,.inr ⟨rfl,rfl⟩⟩
  .rw[pE U];exact ko ⟨_,0,ys,rfl,hi,⟨G.mono (by lia),J,Dc C n (by lia),by lia⟩,.inr ⟨rfl,rfl⟩⟩
 |false=>
  dsimp only;rw[pE (by decide)]
  refine km (C.at (st:=kQ st ys) z ex py B hk ?_);cases Y:lt (ys[lo+k]'(by lia)) (ys[lo+(k+1)]'(by lia))with
  |true=>exact ko ⟨_,l,ys,rfl,cC hi,g,.inl rfl⟩
  |false=>
   refine ko ⟨_,l+1,ys,rfl,hi,⟨G.mono (by lia),H Y,?_,by lia⟩,.inr ⟨rfl,rfl⟩⟩
   intro p q x y h1 h2 h3 h4 L u;have qx:=n _ (aQq L);have qy:=n _ (aQq u)
   by_cases cp:p=lo+(k+1)
   .subst cp;rw[ex]at L;cases L
    by_cases O:q=lo+(k+1)
    .subst O;rw[ex]at u;cases u;exact C.refl B
    .exact C.trans _ _ _ qy py B (M (lo+(k+1)-1) q _ _ (by lia) (by lia) (by lia) (by lia) z u) e
   .by_cases O:q=lo+(k+1)
    .subst O;rw[ex]at u;cases u;exact C.trans _ _ _ B py qx Y (M p (lo+(k+1)-1) _ _ (by lia) (by lia) (by lia) (by lia) L z)
    .exact M p q x y (by lia) (by lia) (by lia) (by lia) L u
abbrev aak(lt:ke->ke->Bool)(st:SortSt)(lo l:Nat)(Q:Option Nat->SortSt->Prop):=∀n xs,1<=n->n<=l->yU (kz st) xs lo (lo+n)->AQ lt xs lo (lo+n)->Q (some n) (kQ st xs)
def Px(C:zY prog w A s κ P lt){lo l m:Nat}{st:SortSt}{ys:Array ke}{Q:Option Nat->SortSt->Prop}(z:∀x,x∈kz st->P x)(hk:kindOf st=κ)(hz:lo+l<=(kz st).size)(h:aak lt st lo l Q)
  (B:1<=m) (G:m<=l) (b:yU (kz st) ys lo (lo+m)) (d:SJ lt ys lo (lo+m)):wpS (kj prog w) A E s (crZ lo l m) Q (kQ st ys):=by
 refine km (C2 ?_);have H:=b.size;have I:=JR (by lia) d
 have n:=b.trans (yt (i:=lo) (j:=lo+m) (by lia) (af _) (af _))
 refine km (kU (HM (st:=kQ st _) C (n.mem z) hk B G (bY hz (fA n.size.symm)) I) ?_);rintro c CZ ⟨J,rfl,rfl,L,t,u,_⟩;exact ko (h J _ (by lia) t (n.mono (by lia)) u)
def Ry(C:zY prog w A s κ P lt){lo l n:Nat}{st:SortSt}{xs:Array ke}{Q:Option Nat->SortSt->Prop}(z:∀x,x∈kz st->P x)(hk:kindOf st=κ)(hz:lo+l<=(kz st).size)(h:aak lt st lo l Q)
  (hn:n<l) (b:yU (kz st) xs lo (lo+n)) (d:SJ lt xs lo (lo+(n+1))):wpS (kj prog w) A E s (crD lo l n) Q (kQ st xs):=by
 refine km (xH (km (kU (kP
  (I:=λi c CZ=>∃q t,c=(none,i,q)/\CZ=kQ st t/\i<=l/\CR lt (kz st) lo i q t)
  (Q:=λc CZ=>∃m q t,c=(none,m,q)/\CZ=kQ st t/\m<=l/\CR lt (kz st) lo m q t)
  ?_ ?_ ⟨0,xs,rfl,rfl,hn,b.mono (by lia),d,Dc C (b.mem z) (by lia),by lia⟩) ?_)))
 .rintro i c CZ _ hi ⟨q,t,rfl,rfl,_,g⟩;obtain⟨k,rfl⟩:∃k,i=k+1:=⟨i-1,by have:=g.p;lia⟩
  refine kU (X4 C z hk hz hi g) λr CZ hr=>?_
  obtain⟨m,q,B,rfl,u,G,rfl|⟨rfl,rfl⟩⟩:=hr
  .exact⟨m,q,B,rfl,rfl,u,G⟩
  .exact⟨q,B,rfl,rfl,u,G⟩
 .rintro c CZ ⟨q,t,rfl,rfl,u,g⟩;exact⟨_,q,t,rfl,rfl,u,g⟩
 .rintro c CZ ⟨m,q,t,rfl,rfl,u,g⟩;have J:=g.b.size;have L:=g.p;dsimp only
  by_cases H:q>0
  .rw[pH H];exact km (C2 (Px (st:=st) (ys:=mirror t (lo+m-(q+1)) (lo+m) ((lo+m-(lo+m-(q+1))) / 2)) C z hk hz h (by lia) u (g.b.trans (yt (by lia) (by lia) (af _))) (Ay (by lia) (by lia) (af _) g.e g.d)))
  .rw[pE H];exact Px C z hk hz h (by lia) u g.b g.d
def GG(C:zY prog w A s κ P lt){lo t:Nat}{st:SortSt}{Q:Option Nat->SortSt->Prop}(u:∀x,x∈kz st->P x)(hk:kindOf st=κ)(h1:1<=t)(hz:lo+t<=(kz st).size)
  (h:∀n xs,1<=n->n<=t->yU (kz st) xs lo (lo+n)->AQ lt xs lo (lo+n)->Q (some n) (kQ st xs)):wpS (kj prog w) A E s (countRun' lo t) Q st:=by
 rw[ZF];refine km (kU (HM C u hk (af 1) h1 hz (Ul C u lo)) ?_);rintro c l ⟨n,rfl,rfl,n1,n2,G,O⟩;dsimp only;have B:Q (some n) l:=h n (kz l) n1 n2 (yU.refl _ _ _) G
 by_cases R:n=t
 .rw[pH (by simp[R])]
  exact ko B
 rw[pE (by simpa using R)]
 obtain⟨xb,yb,J,z,eb⟩:=O.resolve_left R;obtain⟨m,rfl⟩:∃m,n=m+1:=⟨n-1,by lia⟩
 have S:=u _ (aQq J);have H:=u _ (aQq z);have go:ZM lt (kz l) lo (lo+(m+1))->SJ lt (kz l) lo (lo+(m+1+1)):=λe1=>
  HG C u (λp q x y U g2 X ex ey=>e1 p q x y U (by lia) (by lia) X ex ey) (λx y Y hy=>by
   have L:(kz l)[lo+(m+1)-1]?=some y:=hy;rw[J]at Y;rw[z]at L;cases Y;cases L;exact C.asym _ _ S H eb) (by lia)
 by_cases c2:m+1>1
 .rw[pH c2];have ex:(kz l)[lo]?=some ((kz l)[lo]'(by lia)):=ag (by lia)
  have I:=u _ (aQq ex);refine km (C.at ex z I H hk ?_);cases e:lt ((kz l)[lo]'(by lia)) yb with
  |true=>exact ko B
  |false=>
   dsimp only;rw[pE (by decide)]
   have M:ZM lt (kz l) lo (lo+(m+1)):=by
    intro p q x y U g2 X g4 gx gy;have px:=u _ (aQq gx);have py:=u _ (aQq gy);have q1:=G q (lo+(m+1)-1) _ _ X (by lia) (by lia) gy z
    have q2:=G lo p _ _ (af _) U g2 ex gx;exact C.trans _ _ _ py I px (C.trans _ _ _ py H I q1 e) q2
   exact km (C2 (Ry C u hk hz h (by lia) (yt (by lia) (af _) (af _)) (Ay (by lia) (af _) (by lia) M (go M))))
 .rw[pE c2];exact Ry C u hk hz h (by lia) (yU.refl _ _ _) (go (Dc C u (by lia)))
end
section
variable {prog:ku}{w:ky}{A:Around}{E:Ψ}{s:Shared}{κ:kR}{P:ke->Prop}{lt:ke->ke->Bool}
def Vh(C:zY prog w A s κ P lt){xs:Array ke}(H:∀x,x∈xs->P x){lo k l:Nat}(hz:lo+k<xs.size)(hl:l<=k)(hs:AQ lt xs lo (lo+k)){x:ke}(I:xs[lo+k]?=some x)
  (M:∀j y,j<l->xs[lo+j]?=some y->lt x y=false) (O:∀j y,l<=j->j<k->xs[lo+j]?=some y->lt x y=true):AQ lt (bubble xs (lo+k) (k-l)) lo (lo+(k+1)):=by
 have J:=H _ (aQq I);have g:∀p,(bubble xs (lo+k) (k-l))[p]?=if p=lo+l then some x else if lo+l<p/\p<=lo+k then xs[p-1]? else xs[p]?:=λp=>by
  rw[getElem?_bubble hz (k-l) (by lia) p,show lo+k-(k-l)=lo+l by lia,I]
 intro p q u v L Q R t n;rw[g]at t n
 by_cases cp:p=lo+l
 .rw[pH cp]at t;cases t
  by_cases z:q=lo+l
  .rw[pH z]at n;cases n;exact C.refl J
  .rw[pE z,pH ⟨by lia,by lia⟩]at n
   have pv:=H _ (aQq n);exact C.asym _ _ J pv (O (q-1-lo) v (by lia) (by lia) (by rw[show lo+(q-1-lo)=q-1 by lia];exact n))
 .rw[pE cp]at t
  by_cases B:lo+l<p/\p<=lo+k
  .rw[pH B]at t;rw[pE (by lia),pH ⟨by lia,by lia⟩]at n
   exact hs (p-1) (q-1) _ _ (by lia) (by lia) (by lia) t n
  .rw[pE B]at t
   by_cases z:q=lo+l
   .rw[pH z]at n;cases n;exact M (p-lo) u (by lia) (by rw[show lo+(p-lo)=p by lia];exact t)
   .rw[pE z]at n
    by_cases G:lo+l<q/\q<=lo+k
    .rw[pH G]at n;exact hs p (q-1) _ _ L (by lia) (by lia) t n
    .rw[pE G]at n;exact hs p q _ _ L Q (by lia) t n
def Ku{xs:Array ke}{lo k l n:Nat}(hz:lo+k<xs.size)(hl:l<=k)(hn:k<n):yU xs (bubble xs (lo+k) (k-l)) lo (lo+n):=
 ⟨bubble_perm _ _ _,λp t=>by rw[getElem?_bubble hz (k-l) (by lia) p,pE (by lia),pE (by lia)]⟩
def PJ{l n:Nat}{st:SortSt}{Q:Unit->SortSt->Prop}(h:Q () (kQ st (bubble (kz st) l (l-n)))):wpS (kj prog w) A E s (moveDown' l n) Q st:=by
 rw[moveDown'_eq];exact mv h
def Kz(C:zY prog w A s κ P lt){lo n ok:Nat}{st:SortSt}{Q:Bool->SortSt->Prop}(hp:∀x,x∈kz st->P x)(hk:kindOf st=κ)(h1:1<=ok)(h2:ok<=n)(hz:lo+n<=(kz st).size)(hs:AQ lt (kz st) lo (lo+ok))
  (h:∀xs,yU (kz st) xs lo (lo+n)->AQ lt xs lo (lo+n)->Q true (kQ st xs)):wpS (kj prog w) A E s (binarySort' lo n ok) Q st:=by
 rw[binarySort'_eq];dsimp only;rw[Nat.max_eq_left h1];refine km (kU (kP (I:=λk c u=>∃t,c=(none,())/\u=kQ st t/\yU (kz st) t lo (lo+n)/\AQ lt t lo (lo+k)/\k<=n)
  (Q:=λc u=>∃t,c=(none,())/\u=kQ st t/\yU (kz st) t lo (lo+n)/\AQ lt t lo (lo+n)) ?step ?fin ⟨kz st,rfl,rfl,yU.refl _ _ _,hs,h2⟩) ?post)
 case fin=>
  rintro c u ⟨t,rfl,rfl,b1,B,q⟩;have e:max ok n=n:=by lia
  rw[e]at B;exact⟨t,rfl,rfl,b1,B⟩
 case post=>
  rintro c u ⟨t,rfl,rfl,b1,B⟩;exact ko (h t b1 B)
 case step=>
  rintro k c u hk1 L ⟨t,rfl,rfl,b1,B,q⟩;have z:=b1.mem hp;have hsz:=b1.size;have ex:t[lo+k]?=some (t[lo+k]'(by lia)):=ag (by lia)
  have R:=z _ (aQq ex);refine km (kU (kP (I:=λi c u=>∃l r,c=(none,l,r)/\u=kQ st t/\l<=r/\r<=k/\(∀j y,j<l->t[lo+j]?=some y->lt (t[lo+k]'(by lia)) y=false)/\(∀j y,r<=j->j<k->t[lo+j]?=some y->lt (t[lo+k]'(by lia)) y=true)/\(r-l)+i<=k)
   (Q:=λc u=>∃l r,c=(none,l,r)/\u=kQ st t/\l=r/\r<=k/\(∀j y,j<l->t[lo+j]?=some y->lt (t[lo+k]'(by lia)) y=false)/\(∀j y,r<=j->j<k->t[lo+j]?=some y->lt (t[lo+k]'(by lia)) y=true))
   ?step1 ?fin1 ⟨0,k,rfl,rfl,bx _,af _,λj y hj=>absurd hj (cW _),λj y U g2=>absurd g2 (by lia),by lia⟩) ?post1)
  case fin1=>
   rintro c u ⟨l,r,rfl,rfl,a1,G,H,J,a5⟩;exact⟨l,r,rfl,rfl,by lia,G,H,J⟩
  case step1=>
   rintro i c u _ hi ⟨l,r,rfl,rfl,a1,G,H,J,a5⟩;dsimp only
   by_cases X:l ≥ r
   .rw[pH X];exact ko ⟨l,r,rfl,rfl,by lia,G,H,J⟩
   rw[pE X];have O:t[lo+(l+r) / 2]?=some (t[lo+(l+r) / 2]'(by lia)):=ag (by lia)
   have pm:=z _ (aQq O);refine km (C.at (st:=kQ st t) ex O R pm hk ?_);cases e:lt (t[lo+k]'(by lia)) (t[lo+(l+r) / 2]'(by lia))with
   |true=>
    dsimp only;rw[pH rfl];refine ko ⟨l,_,rfl,rfl,by lia,by lia,H,λj y U g2 M=>?_,by lia⟩
    have py:=z _ (aQq M);cases e':lt (t[lo+k]'(by lia)) y with
    |true=>rfl
    |false=>
     have q1:=B (lo+(l+r) / 2) (lo+j) _ _ (by lia) (by lia) (by lia) O M
     have Y:=C.trans _ _ _ pm py R q1 e';rw[e]at Y;cases Y
   |false=>
    dsimp only;rw[pE (by decide)]
    refine ko ⟨_,r,rfl,rfl,by lia,G,λj y U M=>?_,J,by lia⟩
    have py:=z _ (aQq M);exact C.trans _ _ _ py pm R (B (lo+j) (lo+(l+r) / 2) _ _ (by lia) (by lia) (by lia) M O) e
  case post1=>
   rintro c u ⟨l,r,rfl,rfl,rfl,G,H,J⟩;dsimp only;refine km (PJ (ko ?_));have e:lo+k-(lo+l)=k-l:=by lia
   show ∃S,_/\kQ st (bubble t (lo+k) (lo+k-(lo+l)))=kQ st S/\_;rw[e];exact⟨_,rfl,rfl,b1.trans (Ku (by lia) G L),Vh C z (by lia) G B ex H J,L⟩
end
def sW(lt:ke->ke->Bool)(xs:Array ke):Nat->List (Nat×Nat×Nat)->Nat->Prop
 |s,[],e=>s=e
 |s,p::r,e=>p.1=s/\0<p.2.1/\AQ lt xs s (s+p.2.1)/\sW lt xs (s+p.2.1) r e
theorem uu{lt:ke->ke->Bool}{xs:Array ke}:∀{q r:List (Nat×Nat×Nat)}{s e:Nat},sW lt xs s (q++r) e↔∃m,sW lt xs s q m/\sW lt xs m r e
 | [],r,s,e=>by
  constructor
  .intro h;exact⟨s,rfl,h⟩
  .rintro⟨m,rfl,h⟩;exact h
 |p::q,r,s,e=>by
  constructor
  .rintro⟨l,n,t,u⟩;obtain⟨m,a,b⟩:=uu.mp u;exact⟨m,⟨l,n,t,a⟩,b⟩
  .rintro⟨m,⟨l,n,t,a⟩,b⟩;exact⟨l,n,t,uu.mpr ⟨m,a,b⟩⟩
theorem zh{lt:ke->ke->Bool}{xs:Array ke}:∀{q:List (Nat×Nat×Nat)}{s e:Nat},sW lt xs s q e->s+q.length<=e
 | [],s,e,h=>by have:s=e:=h;simp[this]
 |p::q,s,e,hz=>by
  obtain⟨_,n,_,l⟩:=hz;have:=zh l;rw[lCq];lia
theorem wF{lt:ke->ke->Bool}{xs ys:Array ke}:∀{q:List (Nat×Nat×Nat)}{s e:Nat},(∀k,s<=k->k<e->ys[k]?=xs[k]?)->sW lt xs s q e->sW lt ys s q e
 | [],s,e,_,h=>h
 |p::q,s,e,g,hz=>by
  obtain⟨u,z,B,n⟩:=hz;have l:=zh n;refine⟨u,z,λa b x y t E G ex H=>B a b x y t E G ?_ ?_,wF (λk J I=>g k (by lia) I) n⟩
  .rw[←g a t (by lia)];exact ex
  .rw[←g b (by lia) (by lia)];exact H
theorem Bz{lt:ke->ke->Bool}{xs:Array ke}:∀{q l:List (Nat×Nat×Nat)}{s e:Nat},l.map (λp=>(p.1,p.2.1))=q.map (λp=>(p.1,p.2.1))->sW lt xs s q e->sW lt xs s l e
 | [],l,s,e,g,h=>by
  have:l=[]:=by simpa using g
  subst this;exact h
 |p::q,[],s,e,g,h=>by simp at g
 |p::q,p'::l,s,e,g,hz=>by
  obtain⟨x,n,t,u⟩:=hz;simp only[au,List.cons.injEq,Prod.mk.injEq]at g;obtain⟨⟨z,g2⟩,B⟩:=g;rw[←g2]at n t u;exact⟨z.trans x,n,t,Bz B u⟩
theorem Ff(o:Nat):∀(M:List ke) (n:Nat) (xs:Array ke),o+n+M.length<=xs.size ->
  ((M.zipIdx n).foldl (λa x=>a.setIfInBounds (o+x.2) x.1) xs).toList=xs.toList.take (o+n)++M++xs.toList.drop (o+n+M.length)
 | [],n,xs,h=>by simp
 |y::r,n,xs,h=>by
  rw[List.zipIdx_cons,cZ];rw[lCq]at h;rw[Ff o r (n+1) _ (by rw[Array.size_setIfInBounds];lia),ic]
  have hl:o+n<xs.toList.length:=by rw[aq];lia
  have l:(xs.toList.set (o+n) y).take (o+(n+1))=xs.toList.take (o+n)++[y]:=by
   rw[←gB,bF,aN hl,List.take_set_of_le (af _)];rfl
  have s:(xs.toList.set (o+n) y).drop (o+(n+1)+r.length)=xs.toList.drop (o+n+(r.length+1)):=by
   rw[List.drop_set_of_lt (by lia)]
   congr 1;lia
  rw[l,s,lCq,aa,aa,aa];rfl
section
variable {prog:ku}{w:ky}{A:Around}{E:Ψ}{s:Shared}{κ:kR}{P:ke->Prop}{lt:ke->ke->Bool}
def Lc(C:zY prog w A s κ P lt){left:Bool}{key:ke}{arr:Array ke}{base n:Nat}(hb:base+n<=arr.size)(ha:∀x,x∈arr->P x)(l:P key)(so:AQ lt arr base (base+n)) :
  ∀i j,i<=j->j<n->xY lt left key arr base j=true->xY lt left key arr base i=true:=by
 intro i j G I h;have t:arr[base+i]?=some (arr[base+i]'(by lia)):=ag (by lia)
 have u:arr[base+j]?=some (arr[base+j]'(by lia)):=ag (by lia)
 have z:=ha _ (aQq t);have B:=ha _ (aQq u);have le:=so (base+i) (base+j) _ _ (by lia) (by lia) (by lia) t u
 rw[uE u]at h;rw[uE t];cases left with
 |true=>
  rw[pH rfl]at h ⊢;cases q:lt (arr[base+i]'(by lia)) key with
  |true=>rfl
  |false=>
   have:=C.trans _ _ _ l z B q le;rw[h]at this;cases this
 |false=>
  rw[pE (by decide)]at h ⊢
  have H:lt key (arr[base+j]'(by lia))=false:=by simpa using h
  have:=C.trans _ _ _ z B l le H;simp[this]
def ue{a:Array ke}{i j:Nat}{x:ke}(h:x∈(a.extract i j).toList):∃k,i<=k/\k<j/\a[k]?=some x:=by
 rw[qW]at h;obtain⟨k,l,n,e⟩:=vY h;rw[bK]at e;exact⟨k,l,n,e⟩
def CA{a:Array ke}{i j:Nat}(h:AQ lt a i j):yA lt (a.extract i j).toList:=by
 rw[qW];refine bI.mpr λp q l n t=>?_
 rw[aQ,lTq,aq]at l n;have e:∀k (hk:k<((a.toList.take j).drop i).length),a[i+k]?=some ((a.toList.take j).drop i)[k]:=λk hk=>by
  rw[aQ,lTq,aq]at hk;rw[gc,iq,bj];exact⟨by lia,by simp⟩
 exact h (i+p) (i+q) _ _ (by lia) (by lia) (by lia) (e p _) (e q _)
def IX(i:Nat):mergeAt' i=(do
 let s ←get
 let (some (sa,l,n),some (sb,t,_)):=((lZ s)[i]?,(lZ s)[i+1]?)|lC "internal:list.sort.pending"
 set (setPending s (((lZ s).setIfInBounds i (sa,l+t,n)).eraseIdxIfInBounds (i+1)))
 let some k ←wJ false (←kW (kz s) sb) (kz s) sa l 0|return false
 let (sa,l):=(sa+k,l-k)
 if l == 0 then return true
 let some t ←wJ true (←kW (kz s) (sa+l-1)) (kz s) sb t (t-1)|return false
 if t == 0 then return true
 let x:=(kz s).extract sa sb
 let y:=(kz s).extract sb (sb+t)
 let merged ←if l<=t then DA x y else Dt x y
 modify λs=>kQ s (merged.toList.zipIdx.foldl (λa (p,j)=>a.setIfInBounds (sa+j) p) (kz s))
 return (failedOf (←get)).isNone):=rfl
def NZ{st l:SortSt}{Q:PUnit->SortSt->Prop}(h:Q ⟨⟩ l):wpS (kj prog w) A E s (set l:StateT SortSt Sem PUnit) Q st:=by
 unfold wpS;rw[StateT.run_set];exact kf ⟨rfl,h⟩
def O3(C:zY prog w A s κ P lt){xs R M:Array ke}{sa n G k l:Nat}(B:∀x,x∈xs->P x)(hz:sa+n+G<=xs.size)(hk:k<=n)(hl:l<=G)(Y:AQ lt xs sa (sa+n))(S:AQ lt xs (sa+n) (sa+n+G)){key last:ke}
  (ek:xs[sa+n]?=some key) (el:xs[sa+n-1]?=some last)
  (k2:∀j y,j<k->xs[sa+j]?=some y->lt key y=false) (l3:∀j y,l<=j->j<G->xs[sa+n+j]?=some y->lt y last=false) (hna:0<n) (hnb:0<G)
  (m:SD lt (xs.extract (sa+k) (sa+n)) (xs.extract (sa+n) (sa+n+l)) M)
  (J:R.toList=xs.toList.take (sa+k)++M.toList++xs.toList.drop (sa+k+M.toList.length)):yU xs R sa (sa+n+G)/\AQ lt R sa (sa+n+G):=by
 have lM:M.toList.length=(n-k)+l:=by
  have:=m.pm.length_eq;simp only[lAq,aq,fS]at this ⊢;lia
 have hlx:xs.toList.length=xs.size:=aq;have gz:∀p,R[p]?=if p<sa+k then xs[p]? else if p<sa+n+l then M[p-(sa+k)]? else xs[p]?:=λp=>by
  rw[←aw,J]
  by_cases I:p<sa+k
  .rw[pH I,aa,gZq (by rw[lTq];lia),eT I,aw]
  .rw[pE I,aa,gYq (by rw[lTq];lia),lTq,show min (sa+k) xs.toList.length=sa+k by lia]
   by_cases c2:p<sa+n+l
   .rw[pH c2,gZq (by lia),aw]
   .rw[pE c2,gYq (by lia),cf,aw]
    congr 1;lia
 have pk:=B _ (aQq ek);have pl:=B _ (aQq el);have z:∀q v,M[q]?=some v->(∃j,k<=j/\j<n/\xs[sa+j]?=some v)∨∃j,j<l/\xs[sa+n+j]?=some v:=λq v e=>by
  have L:v∈M.toList:=by simpa using aQq e
  rcases mAq.mp (m.pm.mem_iff.mp L)with L|L
  .obtain⟨j,H,U,u⟩:=ue L;exact .inl ⟨j-sa,by lia,by lia,by rw[show sa+(j-sa)=j by lia];exact u⟩
  .obtain⟨j,H,U,u⟩:=ue L;exact .inr ⟨j-(sa+n),by lia,by rw[show sa+n+(j-(sa+n))=j by lia];exact u⟩
 refine⟨⟨?_,λp hp'=>?_⟩,?_⟩
 .rw[Array.perm_iff_toList_perm,J];have c:xs.toList=xs.toList.take (sa+k)++((xs.extract (sa+k) (sa+n)).toList++(xs.extract (sa+n) (sa+n+l)).toList)++xs.toList.drop (sa+k+M.toList.length):=by
   rw[qW,qW,lM];have X:=Bi xs.toList (sa+k) (sa+n) (by lia)
   have O:=Bi xs.toList (sa+n) (sa+n+l) (by lia)
   have a3:sa+k+(n-k+l)=sa+n+l:=by lia
   rw[a3,←aa,←X,←O,aS]
  conv=>rhs;rw[c]
  exact aL.append_right _ (aL.append_left _ m.pm)
 .rw[gz]
  by_cases I:p<sa+k
  .rw[pH I]
  .rw[pE I,pE (by lia)]
 .intro p q x y X O a3 ex t;rw[gz]at ex t
  by_cases p1:p<sa+k
  .rw[pH p1]at ex;have px:=B _ (aQq ex);have lx:lt key x=false:=k2 (p-sa) x (by lia) (by rw[show sa+(p-sa)=p by lia];exact ex)
   by_cases q1:q<sa+k
   .rw[pH q1]at t;exact Y p q _ _ X O (by lia) ex t
   .rw[pE q1]at t
    by_cases Q:q<sa+n+l
    .rw[pH Q]at t;rcases z _ _ t with⟨j,H,U,u⟩|⟨j,H,u⟩
     .exact Y p (sa+j) _ _ X (by lia) (by lia) ex u
     .exact C.trans _ _ _ px pk (B _ (aQq u)) lx (S (sa+n) (sa+n+j) _ _ (af _) (by lia) (by lia) ek u)
    .rw[pE Q]at t;exact C.trans _ _ _ px pk (B _ (aQq t)) lx (S (sa+n) q _ _ (af _) (by lia) (by lia) ek t)
  .rw[pE p1]at ex;rw[pE (by lia)]at t
   by_cases p2:p<sa+n+l
   .rw[pH p2]at ex
    by_cases Q:q<sa+n+l
    .rw[pH Q]at t;rcases fP O with c|c
     .have ex':M.toList[p-(sa+k)]?=some x:=by rw[aw];exact ex
      have ey':M.toList[q-(sa+k)]?=some y:=by rw[aw];exact t
      obtain⟨hx,e1⟩:=gSq.mp ex';obtain⟨hy,e2⟩:=gSq.mp ey';have:=bI.mp m.so (p-(sa+k)) (q-(sa+k)) hx hy (by lia)
      rw[e1,e2]at this;exact this
     .subst c;rw[ex]at t;cases t;rcases z _ _ ex with⟨j,H,U,u⟩|⟨j,H,u⟩
      .exact C.refl (B _ (aQq u))
      .exact C.refl (B _ (aQq u))
    .rw[pE Q]at t;have py:=B _ (aQq t);rcases z _ _ ex with⟨j,H,U,u⟩|⟨j,H,u⟩
     .exact C.trans _ _ _ (B _ (aQq u)) pl py (Y (sa+j) (sa+n-1) _ _ (by lia) (by lia) (by lia) u el) (l3 (q-(sa+n)) y (by lia) (by lia) (by rw[show sa+n+(q-(sa+n))=q by lia];exact t))
     .exact S (sa+n+j) q _ _ (by lia) (by lia) (by lia) u t
   .rw[pE p2]at ex;rw[pE (by lia)]at t
    exact S p q _ _ (by lia) O (by lia) ex t
end
section
variable {prog:ku}{w:ky}{A:Around}{E:Ψ}{s:Shared}{κ:kR}{P:ke->Prop}{lt:ke->ke->Bool}
def QC{α:Type}{l:List α}{i:Nat}{a b:α}(n:l[i]?=some a)(t:l[i+1]?=some b):l=l.take i++a::b::l.drop (i+2):=by
 obtain⟨u,x⟩:=gSq.mp n;obtain⟨z,B⟩:=gSq.mp t
 conv=>lhs;rw[←aS i l]
 rw[aC u,aC z,x,B]
def NU{α:Type}{q r:List α}{a b c:α}:((q++a::b::r).set q.length c).eraseIdx (q.length+1)=q++c::r:=by
 rw[List.set_append_right _ _ (af _),cR,cJ,List.eraseIdx_append_of_length_le (by lia),iG]
 rfl
def Ct(C:zY prog w A s κ P lt){i lo:Nat}{st:SortSt}{Q:Bool->SortSt->Prop}(G:∀x,x∈kz st->P x)(hk:kindOf st=κ)(hf:failedOf st=none)(hlo:lo<=(kz st).size)(O:sW lt (kz st) 0 (lZ st).toList lo)
  (hi:i+1<(lZ st).size) (h:∀xs p g,yU (kz st) xs 0 lo->p.size+1=(lZ st).size->sW lt xs 0 p.toList lo->Q true (SortSt.mk' κ xs p g none)):wpS (kj prog w) A E s (mergeAt' i) Q st:=by
 obtain⟨L,n,z,g0,fl⟩:=st;have hk:L=κ:=hk;have hf:fl=none:=hf;subst hk hf;have G:∀x,x∈n->P x:=G;have hlo:lo<=n.size:=hlo;have O:sW lt n 0 z.toList lo:=O;have hi:i+1<z.size:=hi;have e1:z[i]?=some (z[i]'(by lia)):=ag (by lia)
 have e2:z[i+1]?=some (z[i+1]'(by lia)):=ag (by lia)
 generalize z[i]'(by lia)=a at e1
 generalize z[i+1]'(by lia)=b at e2
 obtain⟨sa,u,pa⟩:=a;obtain⟨sb,H,pb⟩:=b;have e1':z.toList[i]?=some (sa,u,pa):=by rw[aw];exact e1
 have e2':z.toList[i+1]?=some (sb,H,pb):=by rw[aw];exact e2
 have ep:=QC e1' e2';have lq:(z.toList.take i).length=i:=by rw[lTq,aq];lia
 generalize z.toList.take i=q at ep lq;generalize z.toList.drop (i+2)=r at ep;rw[ep]at O;obtain⟨U,c1,c2⟩:=uu.mp O;obtain⟨x1,x2,x3,x4,x5,x6,x7⟩:=c2;have d1:sa=U:=x1;have d2:0<u:=x2;have d3:AQ lt n U (U+u):=x3;have f1:sb=U+u:=x4;have f2:0<H:=x5;have f3:AQ lt n (U+u) (U+u+H):=x6;have f4:sW lt n (U+u+H) r lo:=x7
 clear x1 x2 x3 x4 x5 x6 x7
 subst d1 f1;have hrl:sa+u+H+r.length<=lo:=zh f4;have hql:0+q.length<=sa:=zh c1;have hz:sa+u+H<=n.size:=by lia
 have np:((z.setIfInBounds i (sa,u+H,pa)).eraseIdxIfInBounds (i+1)).toList=q++(sa,u+H,pa)::r:=by
  rw[Array.toList_eraseIdxIfInBounds,ic,ep,←lq];exact NU
 have ns:((z.setIfInBounds i (sa,u+H,pa)).eraseIdxIfInBounds (i+1)).size+1=z.size:=by
  rw[←aq,np,←aq,ep];simp only[lAq,lCq];lia
 have fin:∀X g,yU n X sa (sa+u+H)->AQ lt X sa (sa+u+H)->Q true (SortSt.mk' L X ((z.setIfInBounds i (sa,u+H,pa)).eraseIdxIfInBounds (i+1)) g none):=λX g b1 s1=>by
  refine h X _ g ⟨b1.pm,λk hk=>b1.out k (by lia)⟩ ns ?_
  rw[np];refine uu.mpr ⟨sa,wF (λk _ k2=>b1.out k (.inl k2)) c1,rfl,by show 0<u+H;lia,?_,?_⟩
  .show AQ lt X sa (sa+(u+H));rw[←gB];exact s1
  .show sW lt X (sa+(u+H)) r lo;rw[←gB];exact wF (λk k1 _=>b1.out k (.inr k1)) f4
 rw[IX];refine km (mF ?_);dsimp only;rw[e1,e2];dsimp only;refine km (NZ ?_);have ek:n[sa+u]?=some (n[sa+u]'(by lia)):=ag (by lia)
 have el:n[sa+u-1]?=some (n[sa+u-1]'(by lia)):=ag (by lia)
 have pk:=G _ (aQq ek);have pl:=G _ (aQq el);refine km (qa ek ?_);refine km (uP C d2 (by lia) G pk rfl (Lc C (by lia) G pk d3) λk k1 k2 k3=>?_)
 dsimp only;have kl:∀j y,j<k->n[sa+j]?=some y->lt (n[sa+u]'(by lia)) y=false:=λj y hj B=>by
  have:=k2 j hj;rw[uE B,pE (by decide)]at this
  simpa using this
 have kh:∀j y,k<=j->j<u->n[sa+j]?=some y->lt (n[sa+u]'(by lia)) y=true:=λj y h1 h2 B=>by
  have:=k3 j h1 h2;rw[uE B,pE (by decide)]at this
  simpa using this
 by_cases c1':u-k=0
 .rw[pH (by simp[c1'])]
  refine ko (fin n g0 (yU.refl _ _ _) λp q x y Y R a3 ex B=>?_)
  have px:=G _ (aQq ex);have py:=G _ (aQq B)
  by_cases q1:q<sa+u
  .exact d3 p q _ _ Y R q1 ex B
  .by_cases p1:p<sa+u
   .exact C.trans _ _ _ px pk py (kl (p-sa) x (by lia) (by rw[show sa+(p-sa)=p by lia];exact ex)) (f3 (sa+u) q _ _ (af _) (by lia) a3 ek B)
   .exact f3 p q _ _ (by lia) R a3 ex B
 rw[pE (by simpa using c1')]
 have ea:sa+k+(u-k)-1=sa+u-1:=by lia
 rw[ea];refine km (qa el ?_);refine km (uP C (by lia) (by lia) G pl rfl (Lc C (by lia) G pl f3) λl l1 l2 l3=>?_)
 dsimp only;have ll:∀j y,j<l->n[sa+u+j]?=some y->lt y (n[sa+u-1]'(by lia))=true:=λj y hj B=>by
  have:=l2 j hj;rw[uE B,pH rfl]at this;exact this
 have lh:∀j y,l<=j->j<H->n[sa+u+j]?=some y->lt y (n[sa+u-1]'(by lia))=false:=λj y h1 h2 B=>by
  have:=l3 j h1 h2;rw[uE B,pH rfl]at this;exact this
 by_cases c2':l=0
 .rw[pH (by simp[c2'])]
  refine ko (fin n g0 (yU.refl _ _ _) λp q x y Y R a3 ex B=>?_)
  have px:=G _ (aQq ex);have py:=G _ (aQq B)
  by_cases q1:q<sa+u
  .exact d3 p q _ _ Y R q1 ex B
  .by_cases p1:p<sa+u
   .exact C.trans _ _ _ px pl py (d3 p (sa+u-1) _ _ Y (by lia) (by lia) ex el) (lh (q-(sa+u)) y (by lia) (by lia) (by rw[show sa+u+(q-(sa+u))=q by lia];exact B))
   .exact f3 p q _ _ (by lia) R a3 ex B
 rw[pE (by simpa using c2')]
 have sx:yA lt (n.extract (sa+k) (sa+u)).toList:=CA λp q x y Y R a3 ex B=>d3 p q x y (by lia) R a3 ex B
 have sy:yA lt (n.extract (sa+u) (sa+u+l)).toList:=CA λp q x y Y R a3 ex B=>f3 p q x y Y R (by lia) ex B
 have I:∀x,x∈n.extract (sa+k) (sa+u)->P x:=λx I=>by
  obtain⟨j,_,_,e⟩:=ue (iY.mpr I);exact G _ (aQq e)
 have J:∀x,x∈n.extract (sa+u) (sa+u+l)->P x:=λx I=>by
  obtain⟨j,_,_,e⟩:=ue (iY.mpr I);exact G _ (aQq e)
 have zx:(n.extract (sa+k) (sa+u)).size=u-k:=by rw[fS];lia
 have zy:(n.extract (sa+u) (sa+u+l)).size=l:=by rw[fS];lia
 have g0':(n.extract (sa+u) (sa+u+l))[0]?=some (n[sa+u]'(by lia)):=by
  rw[iN,pH (by lia),jh]
  exact ek
 have gl':(n.extract (sa+k) (sa+u))[u-k-1]?=some (n[sa+u-1]'(by lia)):=by
  rw[iN,pH (by lia),show sa+k+(u-k-1)=sa+u-1 by lia]
  exact el
 have low:∀y∈(n.extract (sa+k) (sa+u)).toList,lt y (n[sa+u]'(by lia))=false:=λy J=>by
  obtain⟨j,j1,j2,ej⟩:=ue J;exact C.asym _ _ pk (G _ (aQq ej)) (kh (j-sa) y (by lia) (by lia) (by rw[show sa+(j-sa)=j by lia];exact ej))
 have S:∀x∈(n.extract (sa+u) (sa+u+l)).toList,lt (n[sa+u-1]'(by lia)) x=false:=λx I=>by
  obtain⟨j,j1,j2,ej⟩:=ue I;exact C.asym _ _ (G _ (aQq ej)) pl (ll (j-(sa+u)) x (by lia) (by rw[show sa+u+(j-(sa+u))=j by lia];exact ej))
 have done:∀M g,SD lt (n.extract (sa+k) (sa+u)) (n.extract (sa+u) (sa+u+l)) M ->
   Q true (SortSt.mk' L (M.toList.zipIdx.foldl (λa x=>a.setIfInBounds (sa+k+x.snd) x.fst) n) ((z.setIfInBounds i (sa,u+H,pa)).eraseIdxIfInBounds (i+1)) g none):=λM g mg=>by
  have lM:M.toList.length=(u-k)+l:=by
   have:=mg.pm.length_eq;simp only[lAq,aq,fS]at this ⊢;lia
  have wb:=Ff (sa+k) M.toList 0 n (by lia)
  obtain⟨b1,s1⟩:=O3 C G hz k1 l1 d3 f3 ek el kl lh d2 f2 mg wb;exact fin _ g b1 s1
 by_cases c3:u-k<=l
 .rw[pH c3];refine km (Ig (κ:=L) (a:=n.extract (sa+k) (sa+u)) (b:=n.extract (sa+u) (sa+u+l)) C I J rfl sx sy (by rw[zx];lia) (by rw[zy];lia) (λx ex y J=>?_) (λj hj x I y J=>?_) λM g mg=>?_)
  .rw[g0']at ex;cases ex;exact low y J
  .have hj':j=u-k-1:=by lia
   subst hj';have:y=n[sa+u-1]'(by lia):=by
    obtain⟨t,t1,t2⟩:=zp J;rw[zx]at t1;have t0:t=0:=by lia
    subst t0;rw[jh,gl']at t2;exact(aO.inj t2).symm
   rw[this];exact S x I
  .refine km (mv ?_);refine km (mF ?_);exact ko (done M g mg)
 .rw[pE c3];refine km (Ik (κ:=L) (a:=n.extract (sa+k) (sa+u)) (b:=n.extract (sa+u) (sa+u+l)) C I J rfl sx sy (by rw[zx];lia) (by rw[zy];lia) (λx I y J=>?_) (λx ex y J=>?_) λM g mg=>?_)
  .have:x=n[sa+u]'(by lia):=by
    obtain⟨t,t1,t2⟩:=zu I;have t0:t=0:=by lia
    subst t0;rw[bK,g0']at t2;exact(aO.inj t2).symm
   rw[this];exact low y J
  .rw[zx,gl']at ex;cases ex;exact S y J
  .refine km (mv ?_);refine km (mF ?_);exact ko (done M g mg)
end
section
variable {prog:ku}{w:ky}{A:Around}{E:Ψ}{s:Shared}{κ:kR}{P:ke->Prop}{lt:ke->ke->Bool}
abbrev ya(κ:kR)(xs:Array ke)(p:Array (Nat×Nat×Nat))(g:Nat):SortSt:=SortSt.mk' κ xs p g none
def Ek{xs:Array ke}{p:Array (Nat×Nat×Nat)}{lo n:Nat}(h:sW lt xs 0 p.toList lo)(hn:0<n)(hs:AQ lt xs lo (lo+n)):sW lt xs 0 (p.push (lo,n,0)).toList (lo+n):=by
 rw[dJ];exact uu.mpr ⟨lo,h,rfl,hn,hs,rfl⟩
def EF(p:Array (Nat×Nat×Nat))(i pw:Nat):(p.modify i λx=>(x.fst,x.2.fst,pw)).toList.map (λp=>(p.1,p.2.1))=p.toList.map (λp=>(p.1,p.2.1)):=by
 apply cV;intro k;rw[gMq,gMq,aw,aw,Array.getElem?_modify];split
 .cases p[k]? <;> rfl
 .rfl
def Hm(C:zY prog w A s κ P lt){arr:Array ke}{g:Nat}{Q:Unit->SortSt->Prop}(hp:∀x,x∈arr->P x)(h2:2<=arr.size)
    (h:∀xs p g',xs.Perm arr->AQ lt xs 0 arr.size->Q () (ya κ xs p g')):wpS (kj prog w) A E s sortRuns' Q (ya κ arr #[] g):=by
  rw[sortRuns'_eq];refine km (mF ?_);dsimp only;have e0:kz (ya κ arr #[] g)=arr:=rfl;rw[e0];generalize minRun' arr.size arr.size 0=O;refine km (kU (kP
    (I:=λi c l=>∃lo xs p g',c=(none,lo)/\l=ya κ xs p g'/\xs.Perm arr/\lo<=arr.size/\sW lt xs 0 p.toList lo/\i<=lo)
    (Q:=λc l=>∃xs p g',c=(none,arr.size)/\l=ya κ xs p g'/\xs.Perm arr/\sW lt xs 0 p.toList arr.size)
    ?step ?fin ⟨0,arr,#[],g,rfl,rfl,jv.refl _,bx _,rfl,af _⟩) ?post)
  case fin=>
    rintro c l ⟨lo,xs,p,g',rfl,rfl,L,q2,R,q4⟩;have e:lo=arr.size:=by lia
    subst e;exact⟨xs,p,g',rfl,rfl,L,R⟩
  case step=>
    rintro i c l _ hi ⟨lo,xs,p,g',rfl,rfl,L,q2,R,q4⟩;dsimp only;have S:∀x,x∈xs->P x:=λx hx=>hp x (L.mem_iff.mp hx)
    have hzx:xs.size=arr.size:=L.size_eq
    by_cases c1:lo ≥ arr.size
    . rw[pH c1]
      have e:lo=arr.size:=by lia
      subst e;exact ko ⟨xs,p,g',rfl,rfl,L,R⟩
    rw[pE c1];refine km (GG (st:=ya κ xs p g') C S rfl (by lia) (by show lo+(arr.size-lo)<=xs.size;lia) λn u n1 n2 b1 s1=>?_)
    dsimp only;have hb:yU xs u lo (lo+n):=b1;show wpS _ _ _ _ _ _ (ya κ u p g')
    by_cases c2:n<O
    all_goals
      first
        | (rw[pH c2]
           refine km (xH ?_);refine km (Kz (st:=ya κ u p g') (n:=min (arr.size-lo) O) C (hb.mem S) rfl n1 (by lia) (by show lo+min (arr.size-lo) O<=u.size;have:=hb.size;lia) s1 λH b2 Y=>?_)
           rw[pE (by decide)]
           have z:yU xs H lo (lo+min (arr.size-lo) O):=(hb.mono (by lia)).trans b2
           have nn:1<=min (arr.size-lo) O:=by lia
           have nl:lo+min (arr.size-lo) O<=arr.size:=by lia
           show wpS _ _ _ _ _ _ (ya κ H p g')
           clear b1 s1 hb b2
           generalize min (arr.size-lo) O=nN at z nn nl Y ⊢)
        | (rw[pE c2]
           have z:=hb;have Y:=s1;have nn:=n1;have nl:lo+n<=arr.size:=by lia
           clear b1 s1 hb
           generalize hnN:n=nN at z nn nl Y ⊢;generalize hzs:u=H at z Y ⊢)
      have hpz:=z.mem S;have hzz:=z.size;have hcz:sW lt H 0 p.toList lo:=wF (λk _ k2=>z.out k (.inl k2)) R
      have pz:H.Perm arr:=z.pm.trans L;refine km (mF ?_);have ep:lZ (ya κ H p g')=p:=rfl;rw[ep];cases eb:p.back? with
      |none=>
        dsimp only;refine km (mv (ko ?_));exact⟨lo+nN,H,p.push (lo,nN,0),g',rfl,rfl,pz,nl,Ek hcz nn Y,by lia⟩
      |some t=>
        obtain⟨s1',n1',pw0⟩:=t;dsimp only;refine km (kU (kP
          (I:=λi c l=>∃u q g2,c=(none,())/\l=ya κ u q g2/\yU H u 0 lo/\sW lt u 0 q.toList lo)
          (Q:=λc l=>∃u q g2,c=(none,())/\l=ya κ u q g2/\yU H u 0 lo/\sW lt u 0 q.toList lo)
          ?step1 (λc l hh=>hh) ⟨H,p,g',rfl,rfl,yU.refl _ _ _,hcz⟩) ?post1)
        case step1=>
          rintro j c l _ hj ⟨B,q,g2,rfl,rfl,b3,G⟩;refine km (mF ?_);have eq:lZ (ya κ B q g2)=q:=rfl;rw[eq]
          by_cases d1:q.size>1
          . rw[pH d1]
            have eo:q[q.size-2]?=some (q[q.size-2]'(by lia)):=ag (by lia)
            rw[eo];generalize q[q.size-2]'(by lia)=o
            obtain⟨o1,o2,older⟩:=o;dsimp only;split
            . exact ko ⟨B,q,g2,rfl,rfl,b3,G⟩
            . refine km (Ct (st:=ya κ B q g2) C (b3.mem hpz) rfl rfl (by show lo<=B.size;have:=b3.size;lia) G (by show q.size-2+1<q.size;lia) λU p3 g3 b4 _ X=>?_)
              rw[pE (by decide)]
              exact ko ⟨U,p3,g3,rfl,rfl,b3.trans b4,X⟩
          . rw[pE d1]
            exact ko ⟨B,q,g2,rfl,rfl,b3,G⟩
        case post1=>
          rintro c l ⟨B,q,g2,rfl,rfl,b3,G⟩;dsimp only;refine km (mv (km (mv (ko ?_))));have s3:AQ lt B lo (lo+nN):=λa b x y a1 a2 a3 ex ey=>Y a b x y a1 a2 a3 (by rw[←b3.out a (.inr a1)];exact ex) (by rw[←b3.out b (.inr (by lia))];exact ey)
          exact⟨lo+nN,B,_,g2,rfl,rfl,b3.pm.trans pz,nl,Ek (Bz (EF q _ _) G) nn s3,by lia⟩
  case post=>
    rintro c l ⟨xs,p,g',rfl,rfl,L,R⟩;dsimp only;refine km (kU (kP
      (I:=λi c l=>∃u q g2,c=(none,())/\l=ya κ u q g2/\u.Perm arr/\sW lt u 0 q.toList arr.size/\q.size+i<=arr.size)
      (Q:=λc l=>∃u q g2,c=(none,())/\l=ya κ u q g2/\u.Perm arr/\sW lt u 0 q.toList arr.size/\q.size<=1)
      ?step2 ?fin2 ⟨xs,p,g',rfl,rfl,L,R,by have:=zh R;rw[aq]at this;lia⟩) ?post2)
    case fin2=>
      rintro c l ⟨u,q,g2,rfl,rfl,M,J,r3⟩;exact⟨u,q,g2,rfl,rfl,M,J,by lia⟩
    case step2=>
      rintro j c l _ hj ⟨u,q,g2,rfl,rfl,M,J,r3⟩;refine km (mF ?_);have eq:lZ (ya κ u q g2)=q:=rfl;rw[eq]
      by_cases d1:q.size<=1
      . rw[pH d1]
        exact ko ⟨u,q,g2,rfl,rfl,M,J,d1⟩
      rw[pE d1];have hi':∀(b:Prop) [Decidable b],(if b then q.size-2-1 else q.size-2)+1<q.size:=λb _=>by split <;> lia
      refine km (Ct (st:=ya κ u q g2) C (λx hx=>hp x (M.mem_iff.mp hx)) rfl rfl (by show arr.size<=u.size;have:=M.size_eq;lia) J (hi' _) λU p3 g3 b4 ns X=>?_)
      rw[pE (by decide)]
      have ns':p3.size+1=q.size:=ns;exact ko ⟨U,p3,g3,rfl,rfl,b4.pm.trans M,X,by lia⟩
    case post2=>
      rintro c l ⟨u,q,g2,rfl,rfl,M,J,r3⟩;refine ko (h u q g2 M ?_);rw[←aq]at r3;cases eq:q.toList with
      |nil=>
        rw[eq]at J;have r2':0=arr.size:=J;lia
      |cons a r=>
        rw[eq]at J r3;have er:r=[]:=by
          rw[lCq]at r3;exact bU.mp (by lia)
        subst er;obtain⟨_,_,s3,e3⟩:=J;have e3':0+a.2.1=arr.size:=e3;rw[e3']at s3;exact s3
end
end MrS
namespace Xe
open PySem
abbrev VEm:Ξ:=[.type "ValueError", .type "Exception", .type "BaseException", .type "object"]
abbrev Lk{α:Type}(M:Model)(h:Heap)(x:Sem α)(r:α):Prop:=
 ∀(A:Around) (Q:α->Shared->Prop) (E:Ψ) (s:Shared),(∀b o,h.get? b=some o->s.heap.get? b=some o)->Q r s->ki M A x Q E s
section
variable {prog:ku}{w:ky}{A:Around}{E:Ψ}{s:Shared}{env:Env}{e:Addr}{c0:Value}{t:Expr}{n:Str}{b₀:Stmt}{suite:List Stmt}{pos:Pos}{sU:List ExceptHandler}{Q:Flow->Shared->Prop}
abbrev Mt(M:Model)(e:Addr)(c0:Value)(b:Bool)(s:Shared):Prop:=∀(A:Around) (Q:Bool->Shared->Prop) (E:Ψ),Q b s->ki M A (excMatches (.ref e) c0) Q E s
end
end Xe
namespace Mr
abbrev St:=L2.St
open PySem PySem.Spec PyProof.Rows L2
section
variable {X:Cx}{oH:Φ}{σ:List (Option V)}{H H':Hp}{s:Shared}{h':Heap}
def HP{t':Nat}{fp:Δ}{T:Addr}{o:HO}(I:Inv X oH σ H s)(k:∀b u,b∉fp->s.heap.get? b=some u->h'.get? b=some u)
  (t:∀b∈fp,Am X oH H b) (x:s.heap.objs.size<=T) (new:qR X.prog X.w (qw H T o) h' T o):Inv X oH σ (qw H T o) { s with heap:=h',toks:=t' }:=by
 have hn:H T=none:=I.hok.fresh x;have B:∀b u,H b=some u->b∉fp:=λb u e z=>by rw[(t b z).1]at e;cases e
 refine I.step (g':=s.gens) (d':=s.drawn) (ch:=fp) (λb hb=>?_) (λb u _ _ l e _=>k b u l e) (λb u _ _ l e _=>⟨u.slots,k b u l e⟩)
  (λb u _ e n=>by rw[pd (aD (aK (ao e) x))];exact n) (λb u l e=>⟨u,k b u l e⟩)
  (λb E e=>by rw[pd (qO e hn)];exact e) (λb u E e=>by rw[pd (qO e hn)];exact e) (λb S e=>⟨#[],by rw[pd (qO e hn),e];simp⟩) (λm G=>?_) (λb u e=>?_) I.bare
 .obtain⟨_,J,_,L,M,O⟩:=t b hb;exact⟨L,J,M,O⟩
 .obtain⟨u,P,Q,R,r⟩:=G;exact⟨u,P,Q,k _ u (λz=>(t _ z).2.1 rfl) R,r⟩
 .by_cases hb:b=T
  .subst hb;rw[pB]at e;cases e;exact new
  .rw[pd hb]at e;refine(I.hok b u e).stay (λc v l q=>k c v ?_ q) (λc q=>by rw[pd (qO q hn)];exact q) λc E q=>by rw[pd (qO q hn)];exact q
   rcases l with rfl|l
   .exact B _ u e
   .exact B c _ l
def LI{t':Nat}{fp:Δ}(I:Inv X oH σ H s)(k:∀b u,b∉fp->s.heap.get? b=some u->h'.get? b=some u)
  (t:∀b∈fp,Am X oH H b):Inv X oH σ H { s with heap:=h',toks:=t' }:=by
 have x:∀b u,H b=some u->b∉fp:=λb u e z=>by rw[(t b z).1]at e;cases e
 refine I.step (g':=s.gens) (d':=s.drawn) (ch:=fp) (λb hb=>?_) (λb u _ _ l e _=>k b u l e) (λb u _ _ l e _=>⟨u.slots,k b u l e⟩)
  (λ_ _ _ _ n=>n) (λb u l e=>⟨u,k b u l e⟩) (λ_ _ e=>e) (λ_ _ _ e=>e) (λb Q e=>⟨#[],by rw[e];simp⟩) (λm B=>?_) (λb u e=>?_) I.bare
 .obtain⟨_,E,_,G,J,L⟩:=t b hb;exact⟨G,E,J,L⟩
 .obtain⟨u,M,O,P,r⟩:=B;exact⟨u,M,O,k _ u (λz=>(t _ z).2.1 rfl) P,r⟩
 .refine(I.hok b u e).stay (λc v l q=>k c v ?_ q) (λ_ q=>q) λ_ _ q=>q
  rcases l with rfl|l
  .exact x _ u e
  .exact x c _ l
def Hd{a b:Addr}{xs:List V}(I:Inv X oH σ H s)(h:rJ X.K H a xs)(f:Am X oH H b):a≠b:=by
 intro e;subst e;obtain⟨l,_,_,t,_⟩:=f;rcases h with(h|⟨o,h⟩)|⟨o,u,n,hk,_⟩
 .rw[l]at h;cases h
 .rw[l]at h;cases h
 .have hb:=I.mod.kin a o hk;rcases t with z|z
  .exact I.ok.noex a o hb z
  .exact absurd (aK (ao (I.ok.bs a o hb).1) z) (eK _)
end
def ZO(K:Ζ)(a:Addr):It:=
  ⟨λi H=>∃xs x,rJ K H a xs/\xs[i]?=some x,
   λi H v l=>∃T x,H T=none/\v = .ref T/\l=qw H T (.tup [.int i,x])/\∀xs,rJ K H a xs->xs[i]?=some x,
   λi H=>∃xs,rJ K H a xs/\xs.length<=i⟩
def Nu{P:ku}{w:ky}{K:Ζ}{J:List Expr}{k:Nat}{pos:Pos}(a e B:Addr)(L:e≠B) :
  Hg P w K (.Tuple J k pos) (ZO K a) [e,B] e (λi h=>(∃l,IsEnum h e B i l)/\h.IsListIter B a i) where
 mem:=by simp
 obj:=λi h st b hb=>by
  obtain⟨⟨l,G⟩,o,ho,_,d⟩:=st;rcases ae.mp hb with rfl|hb
  .exact⟨_,G,λv z=>by
    have z':Data.fields _=Data.cell v:=z;cases z'⟩
  .have e:b=B:=by simpa using hb
   subst e;exact⟨o,ho,λv z=>by rw[d]at z;cases z⟩
 keep:=λi h h' st kp=>by
  obtain⟨⟨l,G⟩,n⟩:=st;exact⟨⟨l,kp e (by simp) _ G⟩,n.at λo q=>kp B (by simp) o q⟩
 item:=by
  intro X S hw U hc i oH s σ H E I Q st Y;subst S hw U;obtain⟨xs,x,R,hx⟩:=Y;obtain⟨its,rv,p,hz⟩:=I.list R;obtain⟨u,hu,ru⟩:=rv.get hx;obtain⟨⟨l,G⟩,n⟩:=st;have hil:B<s.heap.objs.size:=by obtain⟨_,q,_⟩:=n;exact ao q
  have M:e<s.heap.objs.size:=ao G;refine wpAny_pyNext_enum_item G n p.isList (x:=u) (by simpa using hu) L λh1 he1 O ht1 hz1 hk1=>⟨_,rfl,?_⟩
  refine wpAny_letOwnedTupleGo_enum he1 λh2 he2 t=>?_
  replace t:bZ e h1 h2:=t;have hn:H s.heap.objs.size=none:=I.hok.fresh (af _);refine⟨.ref s.heap.objs.size,qw H s.heap.objs.size (.tup [.int i,x]),?_,rfl,⟨_,x,hn,rfl,rfl,λys hy=>by rw[I.list_inj hy R];exact hx⟩,⟨⟨_,by simpa using he2⟩,O.extBut t.extBut (Ne.symm L)⟩,λb hb=>?_⟩
  .show L2.Inv X oH σ _ { s with heap:=h2,toks:=s.toks+1 }
   refine HP (s:=s) (fp:=[e,B]) I (λb o hb q=>?_) Q (af _) ⟨by simp only[lCq,eJ];rw[kJ];decide,[.int i s.toks,u],.cons ⟨_,rfl⟩ (.cons ru .nil),_,t.extBut _ _ (eI M) ht1,rfl,_,rfl⟩
   have b1:b≠e:=λz=>hb (by simp[z])
   exact t.extBut b o b1 (hk1 b o b1 (λz=>hb (by simp[z])) q)
  .have hb2:b<s.heap.objs.size:=by
    rcases ae.mp hb with rfl|hb
    .exact M
    .have e:b=B:=by simpa using hb
     subst e;exact hil
   rw[pd (aD hb2)];exact(Q b hb).1
 done:=by
  intro X S hw U hc i oH s σ H E I Q st Y;subst S hw U;obtain⟨xs,R,hx⟩:=Y;obtain⟨its,rv,p,hz⟩:=I.list R;obtain⟨⟨l,G⟩,n⟩:=st;have hl:=rv.length;exact wpAny_pyNext_enum_end (I.ok.hd hc) G n p.isList (by simp;lia) λh1 eb=>⟨rfl,LI (t':=s.toks) (fp:=[e,B]) I (λb o hb q=>eb b o (λz=>hb (by simp[z])) q) Q⟩
 self:=λ_ _ _ _ _ st h=>by
  obtain⟨⟨l,G⟩,_⟩:=st;exact wpAny_pyIter_enum G h
def Zy(K:Ζ)(a b:Addr):It:=
  ⟨λi H=>∃xs ys x y,rJ K H a xs/\rJ K H b ys/\xs[i]?=some x/\ys[i]?=some y,
   λi H v l=>∃T x y,H T=none/\v = .ref T/\l=qw H T (.tup [x,y])/\(∀xs,rJ K H a xs->xs[i]?=some x)/\∀ys,rJ K H b ys->ys[i]?=some y,
   λi H=>∃xs ys,rJ K H a xs/\rJ K H b ys/\(xs.length<=i∨ys.length<=i)⟩
structure Z5 (z TI TO i1 i2:Addr):Prop where
 a:TI≠z
 b:TO≠z
 c:i1≠z
 d:i2≠z
 e:TI≠TO
 f:TI≠i1
 g:TI≠i2
 h:TO≠i1
 i:TO≠i2
 j:i1≠i2
def aae(n:Nat):Z5 (n+4) (n+2) (n+3) n (n+1) where
 a:=λ(q:n+2=n+4)=>by lia
 b:=λ(q:n+3=n+4)=>by lia
 c:=λ(q:n=n+4)=>by lia
 d:=λ(q:n+1=n+4)=>by lia
 e:=λ(q:n+2=n+3)=>by lia
 f:=λ(q:n+2=n)=>by lia
 g:=λ(q:n+2=n+1)=>by lia
 h:=λ(q:n+3=n)=>by lia
 i:=λ(q:n+3=n+1)=>by lia
 j:=λ(q:n=n+1)=>by lia
def QX{P:ku}{w:ky}{K:Ζ}{elts:List Expr}{k:Nat}{pos:Pos}(S U z TI TO n t:Addr)(d:Z5 z TI TO n t) :
  Hg P w K (.Tuple elts k pos) (Zy K S U) [z,TI,TO,n,t] z
   (λi h=>IsZip h z TI TO .none/\IsPair h TI (.ref n) (.ref t)/\(∃a b,IsPair h TO a b)/\h.IsListIter n S i/\h.IsListIter t U i) where
 mem:=by simp
 obj:=λi h st b hb=>by
  obtain⟨hz,l,⟨a,c,u⟩,⟨o1,q1,_,d1⟩,⟨o2,q2,_,d2⟩⟩:=st;simp only[ae,cM,or_false]at hb;rcases hb with rfl|rfl|rfl|rfl|rfl
  .exact⟨_,hz,λv x=>by
    have x':Data.fields _=Data.cell v:=x;cases x'⟩
  .exact⟨_,l,λv x=>by
    have x':Data.seq _ _=Data.cell v:=x;cases x'⟩
  .exact⟨_,u,λv x=>by
    have x':Data.seq _ _=Data.cell v:=x;cases x'⟩
  .exact⟨o1,q1,λv x=>by rw[d1]at x;cases x⟩
  .exact⟨o2,q2,λv x=>by rw[d2]at x;cases x⟩
 keep:=λi h h' st kp=>by
  obtain⟨hz,l,⟨a,c,u⟩,Y,h2⟩:=st;exact⟨kp z (by simp) _ hz,kp TI (by simp) _ l,⟨a,c,kp TO (by simp) _ u⟩,Y.at λo q=>kp n (by simp) o q,h2.at λo q=>kp t (by simp) o q⟩
 item:=by
  intro X hP hw hK hc i oH s σ H E I O st hg;subst hP hw hK;obtain⟨xs,ys,x,y,G,J,hx,hy⟩:=hg;obtain⟨its1,Q,p1,_⟩:=I.list G;obtain⟨its2,R,p2,_⟩:=I.list J;obtain⟨u1,hu1,ru1⟩:=Q.get hx;obtain⟨u2,hu2,ru2⟩:=R.get hy;obtain⟨hz,l,⟨a,c,u⟩,Y,h2⟩:=st;have L:∀b∈[z,TI,TO,n,t],S≠b:=λb hb=>Hd I G (O b hb)
  have M:∀b∈[z,TI,TO,n,t],U≠b:=λb hb=>Hd I J (O b hb)
  have D:ZipApart z TI TO n t S U:=⟨d.a,d.b,d.c,d.d,d.e,d.f,d.g,d.h,d.i,d.j,L z (by simp),L TO (by simp),L n (by simp),L t (by simp),M z (by simp),M TO (by simp),M n (by simp),M t (by simp)⟩
  have hzl:z<s.heap.objs.size:=ao hz;refine wpAny_pyNext_zip_item D hz l u Y h2 p1.isList p2.isList (x:=u1) (y:=u2) (by simpa using hu1) (by simpa using hu2) λg1 hz1 hTO1 g11 g12 hT1 hsz1 hk1=>⟨_,rfl,?_⟩
  refine wpAny_letOwnedTupleGo_zip hz1 λg2 hz2 B=>?_
  replace B:bZ z g1 g2:=B;have hn:H s.heap.objs.size=none:=I.hok.fresh (af _);refine⟨.ref s.heap.objs.size,qw H s.heap.objs.size (.tup [x,y]),?_,rfl,⟨_,x,y,hn,rfl,rfl,λws hw=>by rw[I.list_inj hw G];exact hx,λws hw=>by rw[I.list_inj hw J];exact hy⟩,
   ⟨hz2,B.extBut _ _ d.a (hk1 _ _ d.a d.e d.f d.g l),⟨_,_,B.extBut _ _ d.b hTO1⟩,g11.extBut B.extBut d.c,g12.extBut B.extBut d.d⟩,λb hb=>?_⟩
  .show L2.Inv X oH σ _ { s with heap:=g2,toks:=s.toks }
   refine HP (s:=s) (fp:=[z,TI,TO,n,t]) I (λb o hb q=>?_) O (af _) ⟨by simp only[lCq,eJ];rw[kJ];decide,[u1,u2],.cons ru1 (.cons ru2 .nil),_,B.extBut _ _ (eI hzl) hT1,rfl,_,rfl⟩
   have b1:b≠z:=λe=>hb (by simp[e])
   exact B.extBut b o b1 (hk1 b o b1 (λe=>hb (by simp[e])) (λe=>hb (by simp[e])) (λe=>hb (by simp[e])) q)
  .have hb2:b<s.heap.objs.size:=by
    have hb':=hb;simp only[ae,cM,or_false]at hb';rcases hb' with rfl|rfl|rfl|rfl|rfl
    .exact hzl
    .exact ao l
    .exact ao u
    .obtain⟨_,q,_⟩:=Y;exact ao q
    .obtain⟨_,q,_⟩:=h2;exact ao q
   rw[pd (aD hb2)];exact(O b hb).1
 done:=by
  intro X hP hw hK hc i oH s σ H E I O st hg;subst hP hw hK;obtain⟨xs,ys,G,J,hx⟩:=hg;obtain⟨its1,Q,p1,_⟩:=I.list G;obtain⟨its2,R,p2,_⟩:=I.list J;obtain⟨hz,l,⟨a,c,u⟩,Y,h2⟩:=st;have L:∀b∈[z,TI,TO,n,t],S≠b:=λb hb=>Hd I G (O b hb)
  have M:∀b∈[z,TI,TO,n,t],U≠b:=λb hb=>Hd I J (O b hb)
  have D:ZipApart z TI TO n t S U:=⟨d.a,d.b,d.c,d.d,d.e,d.f,d.g,d.h,d.i,d.j,L z (by simp),L TO (by simp),L n (by simp),L t (by simp),M z (by simp),M TO (by simp),M n (by simp),M t (by simp)⟩
  have e1:=Q.length;have e2:=R.length;refine wpAny_pyNext_zip_end (I.ok.hd hc) D hz l u Y h2 p1.isList p2.isList ?_ λg1 eb=>⟨rfl,LI (t':=s.toks) (fp:=[z,TI,TO,n,t]) I (λb o hb q=>eb b o (λe=>hb (by simp[e])) (λe=>hb (by simp[e])) (λe=>hb (by simp[e])) (λe=>hb (by simp[e])) q) O⟩
  rcases hx with hx|hx
  .exact .inl (by simp;lia)
  .exact .inr (by simp;lia)
 self:=λ_ _ _ _ _ st h=>wpAny_pyIter_zip st.1 h
section
variable {X:Cx}{elts:List Expr}{kk:Nat}{tpos:Pos}
def VA(K:Ζ)(n:TA):TI:=λσ H R=>n σ H λvs l=>∃a,vs=[.ref a]/\(∃xs,rJ K l a xs)/\R (ZO K a) l
def LR{e:Expr}{B:TA}{p pos:Pos}(G:Gl X "enumerate")(J:X.mg "enumerate" = none)(ha:PA X [e] B)(hs:kA [e] X.env=[(false,eval e X.env)]:=by rfl) :
  PI X (.Tuple elts kk tpos) (.Call (.Name "enumerate" p) [e] [] pos) (VA X.K B):=by
 intro L s σ H R I h;refine Call_ (xk I G J boot_enumerate (bR (thn (ha pos L s σ H _ I h) λus l x=>?_) hs rfl))
 obtain⟨vs,M,t,O,P⟩:=x;obtain⟨a,Q,⟨xs,S⟩,q⟩:=P;subst Q;obtain⟨u,rfl,U⟩:=wG O;cases U;obtain⟨Y,rv,p1,hz⟩:=t.list S;refine call_enumerate_list p1.isList λg E z hsz hk=>wpAny_pyIter_enum E ?_
 refine⟨l.heap.objs.size+1,[l.heap.objs.size+1,l.heap.objs.size],_,_,M,rfl,t.kept (t':=l.toks) hk,Nu a _ _ (Nat.succ_ne_self _),⟨⟨_,E⟩,z⟩,λb hb=>?_,q⟩
 have n:l.heap.objs.size<=b:=by
  simp only[ae,cM,or_false]at hb;rcases hb with rfl|rfl
  .exact cg _
  .exact af _
 exact t.fpOk n (t.hok.fresh n)
def WB(K:Ζ)(n:TA):TI:=λσ H R=>n σ H λvs l=>∃a b,vs=[.ref a,.ref b]/\(∃xs,rJ K l a xs)/\(∃ys,rJ K l b ys)/\R (Zy K a b) l
def Kk{e f:Expr}{J:TA}{p pos:Pos}(Q:Gl X "zip")(S:X.mg "zip" = none)(ha:PA X [e,f] J)(hs:kA [e,f] X.env=[(false,eval e X.env),(false,eval f X.env)]:=by rfl)(n:kA [f] X.env=[(false,eval f X.env)]:=by rfl) :
  PI X (.Tuple elts kk tpos) (.Call (.Name "zip" p) [e,f] [] pos) (WB X.K J):=by
 intro U s σ H R I h;refine Call_ (xk I Q S boot_zip (bR (thn (ha pos U s σ H _ I h) λus l ⟨vs,Y,t,r1,q1⟩=>?_) (by rw[hs,n]) (by rw[n];rfl)))
 obtain⟨a,b,e1,⟨xs,z⟩,⟨ys,B⟩,q⟩:=q1;subst e1;obtain⟨u,v,rfl,ru,rv⟩:=QJ r1;cases ru;cases rv;obtain⟨L,_,p1,_⟩:=t.list z;obtain⟨M,_,p2,_⟩:=t.list B;refine call_zip_2 p1.isList p2.isList λg O E G h1 h2 hsz hk=>wpAny_pyIter_zip O ?_
 refine⟨l.heap.objs.size+4,[l.heap.objs.size+4,l.heap.objs.size+2,l.heap.objs.size+3,l.heap.objs.size,l.heap.objs.size+1],_,_,Y,rfl,t.kept (t':=l.toks) hk,
  QX a b _ _ _ _ _ (aae l.heap.objs.size),⟨O,E,⟨_,_,G⟩,h1,h2⟩,λc P=>?_,q⟩
 have x:l.heap.objs.size<=c:=by
  simp only[ae,cM,or_false]at P;rcases P with rfl|rfl|rfl|rfl|rfl
  .exact gC _ _
  .exact gC _ _
  .exact gC _ _
  .exact af _
  .exact gC _ _
 exact t.fpOk x (t.hok.fresh x)
end
def Qv{K:Ζ}{a:Addr}{xs:List V}{z B:Nat}{tb:TS}{D:An}{σ:St}{H:Hp}(l:Nat->St->Hp->Prop)(G:l 0 σ H)(hl:∀i σ H,i<=xs.length->l i σ H->rJ K H a xs)
  (hs:∀i x σ H T,xs[i]?=some x->l i σ H->H T=none->tb { D with nx:=l (i+1),ct:=l (i+1),bk:=D.nx } ((σ.set z (some (.int i))).set B (some x)) (qw H T (.tup [.int i,x]))) (hd:∀σ H,l xs.length σ H->D.nx σ H) :
  ∃W:Nat->Nat->St->Hp->Prop,(∃m,W 0 m σ H)/\∀i m σ H,W i m σ H ->
   ((ZO K a).stop i H/\D.nx σ H)∨((ZO K a).go i H/\∃N:St->Hp->Prop,(∀n s,N n s->∃E,E<m/\W (i+1) E n s)/\∀x s,(ZO K a).yld i H x s->M7 K 2 (yZ (rE z) (yZ (rE B) N6)) x σ s λu I=>tb { D with nx:=N,ct:=N,bk:=D.nx } u I):=by
 refine⟨λi m σ H=>m=xs.length-i/\i<=xs.length/\l i σ H,⟨xs.length,by simp,bx _,G⟩,?_⟩
 rintro i m σ H ⟨rfl,hi,p⟩;have q:=hl i σ H hi p
 by_cases t:i<xs.length
 .refine .inr ⟨⟨xs,xs[i],q,by simp[t]⟩,l (i+1),λn s J=>⟨xs.length-(i+1),by lia,rfl,t,J⟩,λv s y=>?_⟩
  obtain⟨T,x,L,rfl,rfl,M⟩:=y;exact⟨T,_,rfl,C5.of pB,rfl,_,_,rfl,_,_,rfl,rfl,hs i x σ H T (M xs q) p L⟩
 .have e:i=xs.length:=by lia
  subst e;exact .inl ⟨⟨xs,q,af _⟩,hd σ H p⟩
def Tq{K:Ζ}{a b:Addr}{xs ys:List V}{G I:Nat}{tb:TS}{D:An}{σ:St}{H:Hp}(l:Nat->St->Hp->Prop)(L:l 0 σ H)(u:xs.length=ys.length)
  (hl:∀i σ H,i<=xs.length->l i σ H->rJ K H a xs/\rJ K H b ys)
  (hs:∀i x y σ H T,xs[i]?=some x->ys[i]?=some y->l i σ H->H T=none->tb { D with nx:=l (i+1),ct:=l (i+1),bk:=D.nx } ((σ.set G (some x)).set I (some y)) (qw H T (.tup [x,y]))) (hd:∀σ H,l xs.length σ H->D.nx σ H) :
  ∃W:Nat->Nat->St->Hp->Prop,(∃m,W 0 m σ H)/\∀i m σ H,W i m σ H ->
   ((Zy K a b).stop i H/\D.nx σ H)∨((Zy K a b).go i H/\∃N:St->Hp->Prop,(∀n s,N n s->∃J,J<m/\W (i+1) J n s)/\∀x s,(Zy K a b).yld i H x s->M7 K 2 (yZ (rE G) (yZ (rE I) N6)) x σ s λz M=>tb { D with nx:=N,ct:=N,bk:=D.nx } z M):=by
 refine⟨λi m σ H=>m=xs.length-i/\i<=xs.length/\l i σ H,⟨xs.length,by simp,bx _,L⟩,?_⟩
 rintro i m σ H ⟨rfl,hi,p⟩;obtain⟨B,E⟩:=hl i σ H hi p
 by_cases t:i<xs.length
 .refine .inr ⟨⟨xs,ys,xs[i],ys[i],B,E,by simp[t],by simp[u ▸ t]⟩,l (i+1),λn s O=>⟨xs.length-(i+1),by lia,rfl,t,O⟩,λv s y=>?_⟩
  obtain⟨T,x,y,P,rfl,rfl,Q,R⟩:=y;exact⟨T,_,rfl,C5.of pB,rfl,_,_,rfl,_,_,rfl,rfl,hs i x y σ H T (Q xs B) (R ys E) p P⟩
 .have e:i=xs.length:=by lia
  subst e;exact .inl ⟨⟨xs,ys,B,E,.inl (af _)⟩,hd σ H p⟩
section
variable {X:Cx}
def BD{n:Φ}{σ:St}{H:Hp}{s:Shared}{a:Addr}{ns:Ϝ}(I:Inv X n σ H s)(h:rJ X.K H a (ns.map V.int)) :
  ∃vs:Ξ,s.heap.IsList a vs.toArray/\kK vs ns/\ns.length<=kr:=by
 obtain⟨l,r,p,z⟩:=I.list h;rw[lMq]at z;exact⟨l,p.isList,AI r,z⟩
def Mx(G:X.calm=true):uf X (.builtin "min") (λxs H Q=>∃(a:Addr) (ns:Ϝ),xs=[.ref a]/\rJ X.K H a (ns.map V.int)/\0<ns.length/\∀M,M∈ns->(∀x,x∈ns->M<=x)->Q (.int M) H):=by
 intro S s σ H xs U Q I r h;obtain⟨a,ns,rfl,J,n,q⟩:=h;obtain⟨u,rfl,L⟩:=wG r;cases L;obtain⟨Y,hl,hi,_⟩:=BD I J;obtain⟨xs,e⟩:=hi.allInts.items;have l:ns=xs.toList.map (·.1):=by
  rw[←hi.numsOf,←nums_intItems,←e]
 have z:0<xs.size:=by
  have B:=n;rw[l,lMq,aq]at B;exact B
 rw[e]at hl;refine min_intList (I.ok.hd G) hl z λv h' tk O hk=>?_
 obtain⟨t,rfl⟩:=intItems_at O;obtain⟨h1,P⟩:=argBest_lt (numAt xs) (xs.size-1);refine⟨.int _,H,I.kept hk,⟨t,rfl⟩,q _ ?_ λx E=>?_⟩
 .rw[l,numAt_eq];exact PySem.getD_mem (by rw[lMq,aq];lia)
 .rw[l]at E;obtain⟨j,R,rfl⟩:=PySem.mem_getD E;rw[lMq,aq]at R;rw[←numAt_eq];exact P j (by lia)
def Qh(K:Ζ):V->List V->Hp->VK->Prop:=λx vs H Q=>∃(a:Addr) (ns:Ϝ) (k:Int),x = .ref a/\vs=[.int k]/\rJ K H a (ns.map V.int)/\k∈ns/\Q (.int (ns.idxOf k:Nat)) H
def HZ:MtR X "list.index" (Qh X.K):=by
 intro oH s σ H x xs v us Q I R r h;obtain⟨a,E,k,rfl,rfl,S,hk,q⟩:=h;cases R;obtain⟨u,rfl,t,rfl⟩:=wG r;obtain⟨l,U,⟨o,n,M,O,z,hd⟩,Y⟩:=I.list S;have hi:=AI U;obtain⟨cls,dd,P,sl⟩:=o;simp only at O z hd;subst O z hd;have B:=hi.length;have G:E.idxOf k<E.length:=fM.mpr hk;have hs:kr=16777216:=kJ;rw[lMq]at Y;refine mW fV ⟨_,M,rfl⟩ PySem.F.entry_list_index (PySem.F.args_list_index_2 _ _)
  (SeqAt.list_indexAt a l.toArray n none sl (.int k t) (isInt k) (E.idxOf k) (by simpa[B]using G) (by lia) ?_ ?_) ⟨M,λy hy=>(eq_isInt k t hi y (by simpa using hy)).at _ _,?_⟩
 .show isInt k l[E.idxOf k]=true;rw[isInt_at k hi _ (by lia) G]
  simpa using bQ G
 .intro j J L;show isInt k l[j]=false;rw[isInt_at k hi j (by simpa using J) (by lia)]
  exact ne_of_lt_idxOf L _
 .exact⟨.int _,H,I.tok _,⟨_,rfl⟩,q⟩
def XZ(K:Ζ)(x:V)(H:Hp)(T:String)(b:Bool):Prop:=
 match x with
 | .int _=>(T = "int" /\ b=true)∨(T = "bool" /\ b=false)
 | .bl _=>(T = "bool" /\ b=true)∨(T = "int" /\ b=true)
 | .str _=>T = "str" /\ b=true
 | .ref p=>(T = "list" /\ b=true/\∃xs,rJ K H p xs)∨(T = "dict" /\ b=true/\∃kvs,H p=some (.dK kvs))∨(T = "tuple" /\ b=true/\∃xs,C5 K H p xs)
 |_=>False
def Pw:uf X (.builtin "isinstance") (λxs H Q=>∃x T b,xs=[x,.ty T]/\XZ X.K x H T b/\Q (.bl b) H):=by
 intro E s σ H xs R Q I r h;obtain⟨x,T,b,rfl,e,q⟩:=h;obtain⟨u,v,rfl,l,G⟩:=QJ r;cases G;cases x with
 |int i=>
  obtain⟨t,rfl⟩:=l;rcases e with⟨rfl,rfl⟩|⟨rfl,rfl⟩
  .exact kB (lj (Tx:= "int") F.isi_meta_int F.sub_int_int) ⟨(show s.TypeIs (.int i t) "int" from rfl),⟨.bl true,H,I,rfl,q⟩⟩
  .exact kB (mq (by trivial) F.isi_meta_bool F.sub_int_bool) (show EP X E σ Q (.bool false) { s with toks:=s.toks+1 } from ⟨.bl false,H,I.tok _,rfl,q⟩)
 |bl i=>
  cases l;rcases e with⟨rfl,rfl⟩|⟨rfl,rfl⟩
  .exact kB (lj (Tx:= "bool") F.isi_meta_bool F.sub_bool_bool) ⟨(show s.TypeIs (.bool i) "bool" from rfl),⟨.bl true,H,I,rfl,q⟩⟩
  .exact kB (lj (Tx:= "bool") F.isi_meta_int F.sub_bool_int) ⟨(show s.TypeIs (.bool i) "bool" from rfl),⟨.bl true,H,I,rfl,q⟩⟩
 |str i=>
  obtain⟨t,rfl⟩:=l;obtain⟨rfl,rfl⟩:=e;exact kB (lj (Tx:= "str") F.isi_meta_str F.sub_str_str) ⟨(show s.TypeIs (.str i t) "str" from rfl),⟨.bl true,H,I,rfl,q⟩⟩
 |ref p=>
  cases l;rcases e with⟨rfl,rfl,xs,n⟩|⟨rfl,rfl,z,J⟩|⟨rfl,rfl,xs,n⟩
  .obtain⟨B,L,pl,M⟩:=I.list n;exact kB (lj (Tx:= "list") F.isi_meta_list (by rw[mn];kernel_rfl)) ⟨pl.isList.typeIs,⟨.bl true,H,I,rfl,q⟩⟩
  .have ty:s.TypeIs (.ref p) "dict" := (XD I (.inl ⟨z,.inl J⟩)).1;exact kB (lj (Tx:= "dict") F.isi_meta_dict (by rw[mn];kernel_rfl)) ⟨ty,⟨.bl true,H,I,rfl,q⟩⟩
  .obtain⟨B,L,⟨o,O,P,_⟩,M⟩:=I.tuple n;exact kB (lj (Tx:= "tuple") F.isi_meta_tuple (by rw[mn];kernel_rfl)) ⟨⟨o,O,P⟩,⟨.bl true,H,I,rfl,q⟩⟩
 |_=>exact(show False from e).elim
end
end Mr
namespace Mr
open PySem L2
structure xX (K:Ζ)(mg:Str->Υ)(x:Str)(st:Stmt)(ps:List Str)(f:Addr)(fd:kH):Prop where
 F:Vp K x x st f fd
 m:mg x=some (.ref f)
 b:Av K fd ps []
def uD{H:Hp}{p:Addr}{o:HO}(h:H p=none):pX H (qw H p o):=λb u e=>by
 rw[pd (qO e h)];exact e
end Mr
namespace Mr
open PySem PySem.Spec PyProof.Rows L2
def IJ{prog:ku}{w:ky}{A:Around}{R:nX->Shared->Prop}{s:Shared}{M l iter:Expr}{O:List Expr}{scope:kY}{pos:Pos}{Y P:Value}{env:Env}(I:Nat->Shared->Prop)
  (turn:∀n s,I n s->ki (kj prog w) A (mD Y) (λr t=>match r with
   |none=>R (.ok .next) t
   |some v=>ki (kj prog w) A (mS l Y v) (λ_ B=>ki (kj prog w) A (nc l env v) (λ_ E=>
     ki (kj prog w) A (forIn O true λc r=>if r=true then do let ok ←ny c env (eval c env);pure (ForInStep.yield ok)else pure (ForInStep.yield r)) (λok u=>
      if ok=true then ki (kj prog w) A (eval M env) (λx G=>
       ki (kj prog w) A (call (.builtin "list.append") [P,x]) (λ_ H=>∃m,m<n/\I m H) (λ_ _=>False) G) (λ_ _=>False) u
      else ∃m,m<n/\I m u) (λ_ _=>False) E) (λ_ _=>False) B) (λ_ _=>False) t) (λ_ _=>False) s)
  (n:Nat) (h:I n s):lV (kj prog w) A (.compLoop (.ListComp M [⟨l,iter,O,0⟩] scope pos) 0 Y P env) R s:=by
 refine codeAny_loop rfl I (λn s hI=>?_) n h
 show ki _ A ((compTurn (.ListComp M [⟨l,iter,O,0⟩] scope pos) 0 Y P env).onRaise (λx=>do noteFrame x env;theTreesLotGoes x)) _ _ s
 refine wpAny_noted ?_;rw[compTurn_list];refine jZ (oi (jZ (kM (turn n s hI) (λr t J=>?_) λ_ _ z=>z.elim)))
 cases r with
 |none=>exact kf J
 |some v=>
  refine jZ (kM J (λ_ B Q=>?_) λ_ _ z=>z.elim)
  refine jZ (kM Q (λ_ E S=>?_) λ_ _ z=>z.elim)
  refine jZ (kM S (λok u L=>?_) λ_ _ z=>z.elim)
  cases ok with
  |false=>exact kf ⟨rfl,L⟩
  |true=>exact jZ (jZ (kM L (λx G U=>jZ (kM U (λ_ H X=>kf (kf ⟨rfl,X⟩)) λ_ _ z=>z.elim)) λ_ _ z=>z.elim))
abbrev qK(X:Cx)(scope:kY)(cl:List (Str×Addr))(N:List Str)(C:Addr)(s:Shared)(H:Hp)(fp:Δ):Cx where
 prog:=X.prog
 w:=X.w
 K:=X.K
 mg:=X.mg
 base:=X.base
 A:=X.A
 N:=N
 s₀:=s
 H₀:=H
 env:=compEnvC scope cl C X.env
 outer:=X.stack
 stack:=X.stack
 ex:=fp
 fn:=λ_=>false
 calm:=X.calm
 pn:=[]
 xe:=λ_ _=>False
def PF(X:Cx)(l:List Expr)(t:TT):Prop:=
 ∀(n:Φ) (s:Shared) (σ:St) (H:Hp) (Q:Bool->Hp->Prop),Inv X n σ H s->t σ H Q ->
  ki (kj X.prog X.w) X.A (forIn l true λc r=>if r=true then do let ok ←ny c X.env (eval c X.env);pure (ForInStep.yield ok)else pure (ForInStep.yield r)) (TP X n σ Q) X.xe s
def ZD:TT:=λ_ H Q=>Q true H
def AU{X:Cx}:PF X [] ZD:=λ_ _ _ H _ I h=>wpAny_tests_nil ⟨H,I,h⟩
def OM{X:Cx}{c:Expr}{t:TT}(h:PT X c t):PF X [c] t:=λl s σ H Q I q=>wpAny_tests_one (h l s σ H Q I q)
structure vX (X:Cx)(scope:kY)(cl:List (Str×Addr))(x:Str)(N:List Str)(fr:Θ):Prop where
 names:N.Nodup
 own:N[0]?=some x
 len:N.length=fr.length+1
 sub:∀y c,cl.lookup y=some c->X.env.cells.lookup y=some c
 has:∀y,((kS scope X.env).names.lookup y=some .cell∨(kS scope X.env).names.lookup y=some .free)->∃c,cl.lookup y=some c
 get:∀(k j:Nat) (y:Str),fr[k]?=some j->N[k+1]?=some y->X.N[j]?=some y/\X.env.scope.names.lookup y=some .cell/\(kS scope X.env).names.lookup y=some .cell
structure Sv (X:Cx)(scope:kY)(cl:List (Str×Addr))(q:Nat)(N:List Str)(fr:Θ):Prop where
 len:N.length=fr.length+q
 sub:∀y c,cl.lookup y=some c->X.env.cells.lookup y=some c
 has:∀y,((kS scope X.env).names.lookup y=some .cell∨(kS scope X.env).names.lookup y=some .free)->∃c,cl.lookup y=some c
 get:∀(k j:Nat) (y:Str),fr[k]?=some j->N[k+q]?=some y->X.N[j]?=some y/\X.env.scope.names.lookup y=some .cell/\(kS scope X.env).names.lookup y=some .cell
def vX.g{X:Cx}{scope:kY}{cl:List (Str×Addr)}{x:Str}{N:List Str}{fr:Θ}(h:vX X scope cl x N fr):Sv X scope cl 1 N fr:=⟨h.len,h.sub,h.has,h.get⟩
def vX.none{X:Cx}{scope:kY}{x:Str}(h:∀p∈scope.names,p.2 ≠ .cell/\p.2 ≠ .free):vX X scope [] x [x] [] where
 names:=by simp
 own:=rfl
 len:=rfl
 sub:=λy c e=>by cases e
 has:=λy e=>by
  exfalso;have key:∀p∈(kS scope X.env).names,p.2 ≠ .cell/\p.2 ≠ .free:=by
   intro p s;obtain⟨q,t,rfl⟩:=mMq.mp s;obtain⟨n,k⟩:=q;obtain⟨u,l⟩:=h _ t;have hk:(k == NameKind.free)=false:=by simpa using l
   simp only[hk,jx];exact⟨u,l⟩
  rcases e with e|e
  .exact(key _ (PySem.mem_of_lookup e)).1 rfl
  .exact(key _ (PySem.mem_of_lookup e)).2 rfl
 get:=λk j y e _=>by cases e
def slots(σ:St)(fr:Θ):St:=fr.map λj=>(σ[j]?).join
def LF(B:TI)(fr:Θ)(tf:TT)(te:TE):TE:=λσ H Q=>B σ H λJ s=>∀l,s l=none->∃W:Nat->Nat->Hp->Prop,(∃m,W 0 m (qw s l (.lst [])))/\∀i m H,W i m H ->
 (J.stop i H/\Q (.ref l) H) ∨
 (J.go i H/\∃N:Hp->Prop,(∀n,N n->∃t,t<m/\W (i+1) t n)/\∀x n,J.yld i H x n->tf (some x::slots σ fr) n λb u=>
  if b=true then te (some x::slots σ fr) u λy z=>∃ys,z l=some (.lst ys)/\ys.length<kr/\N (qw z l (.lst (ys++[y])))else N u)
section
variable {X:Cx}{scope:kY}{cl:List (Str×Addr)}{N:List Str}{fr:Θ}{x:Str}{px pos:Pos}{elt iter:Expr}{ifs:List Expr}{tf:TT}{te:TE}
def CJ{tg:Expr}{gq:TG}{q:Nat}{own:St->Prop}{oH:Φ}{σ:St}{H:Hp}{s:Shared}{E:Ψ}{J:It}{fp:Δ}{it:Addr}{tn:Nat->Heap->Prop}{RR:Value->Addr->nX->Shared->Prop}{Q:VK}
  (hc:X.calm=true) (hcell:∀y∈scope.names,y.2 ≠ .cell) (hkind:scope.kind = .function) (hF:Sv X scope cl q N fr) (pg:∀C s H fp,PG (qK X scope cl N C s H fp) tg gq) (hw:∀Y,own Y->∃ws:St,ws.length=q/\Y=ws++slots σ fr)
  (hf:∀C s H fp,PF (qK X scope cl N C s H fp) ifs tf) (he:∀C s H fp,PE (qK X scope cl N C s H fp) elt te)
  (I:Inv X oH σ H s) (T:Hg X.prog X.w X.K tg J fp it tn) (st:tn 0 s.heap) (O:∀b∈fp,Am X oH H b)
  (h:∀L,H L=none->∃W:Nat->Nat->Hp->Prop,(∃m,W 0 m (qw H L (.lst [])))/\∀i m H,W i m H ->
   (J.stop i H/\Q (.ref L) H) ∨
   (J.go i H/\∃N:Hp->Prop,(∀R,N R->∃m',m'<m/\W (i+1) m' R)/\∀x R,J.yld i H x R->∀vs:St,vs.length=q->gq x (vs++slots σ fr) R λY H1=>own Y/\tf Y H1 λb H2=>
    if b=true then te Y H2 λy H3=>∃ys,H3 L=some (.lst ys)/\ys.length<kr/\N (qw H3 L (.lst (ys++[y])))else N H2))
  (fin:∀L C s' Hf m,Inv X oH σ Hf s'->s'.heap.Ns C m->Am X oH Hf C->Q (.ref L) Hf->RR (.ref L) C (.ok .next) s') :
  ki (kj X.prog X.w) X.A (nq []) (λL S=>ki (kj X.prog X.w) X.A (nR scope X.env.globals cl [] X.env.qual none .none (some X.env)) (λcenv s₄=>
   lV (kj X.prog X.w) X.A (.compStart (.ListComp elt [⟨tg,iter,ifs,0⟩] scope pos) 0 (.ref it) L { cenv with scope:=kS scope X.env }) (RR L cenv.locals) s₄) E S) E s:=by
 refine ly (wpAny_newFunctionEnv hcell (by intro y hy;simp at hy) (λM P B=>?_) hkind)
 dsimp only at P B ⊢;generalize hG:s.heap.push { cls:=.type "list", dict:=none,data:=.seq ([]:Ξ).toArray }=G at P B ⊢;have hC:G.objs.size=s.heap.objs.size+1:=by rw[←hG,iX]
 have hCle:s.heap.objs.size<=G.objs.size:=by rw[hC];exact cg _
 have hDC:s.heap.objs.size≠G.objs.size:=by rw[hC];exact aD (dS _)
 have below:∀b,b<s.heap.objs.size->b≠G.objs.size:=λb hb=>by rw[hC];exact aD (cB hb)
 have old:∀b o,s.heap.get? b=some o->M.get? b=some o:=λb o e=>B.extBut b o (below b (ao e)) (ah _ (hG ▸ ah _ e))
 have hacc:M.get? s.heap.objs.size=some { cls:=.type "list", data:=.seq ([]:Ξ).toArray }:=B.extBut _ _ hDC (ah _ (hG ▸ aH _ rfl));have hn:H s.heap.objs.size=none:=I.hok.fresh (af _);have hnC:H G.objs.size=none:=I.hok.fresh hCle;have fpl:∀b∈fp,b<s.heap.objs.size:=λb hb=>by
  obtain⟨o,q,_⟩:=T.obj 0 _ st b hb;exact ao q
 obtain⟨W,⟨m0,w0⟩,turn⟩:=h _ hn;have ok':(qK X scope cl N G.objs.size s H fp).Ok:=by
  refine⟨I.ok.mod,by show(kS scope X.env).kind = .function;exact hkind,I.ok.glob,I.ok.blt,hCle,λy z c h1 h2=>I.ok.inj y z c (hF.sub y c h1) (hF.sub z c h2),hF.has,λ_ _ z _=>(by cases z),I.ok.hd,I.ok.frames,.inl rfl,
   λb hb=>⟨below b (fpl b hb),λy c e=>(O b hb).2.2.2.2.1 y c (hF.sub y c e)⟩,λb o e=>⟨(I.bs b o e).1,(I.bs b o e).2⟩,bY I.ok.bsz I.sz,λb o e hb=>?_,λb hb z=>?_,I.stack,I.stkFree⟩
  .rcases(O b hb).2.2.2.1 with q|q
   .exact I.ok.noex b o e q
   .exact absurd (aK (ao (I.ok.bs b o e).1) q) (eK _)
  .rcases ae.mp (I.stkSub b z)with q|q
   .exact(O b hb).2.1 q
   .exact(O b hb).2.2.1 q
 have I0:Inv (qK X scope cl N G.objs.size s H fp) [] (bu q none++slots σ fr) (qw H s.heap.objs.size (.lst [])) { s with heap:=M,toks:=s.toks+([]:List (Str×Value)).length }:=by
  have hok1:A7 X.prog X.w (qw H s.heap.objs.size (.lst [])) M:=I.hok.laid old (af _) ⟨bx _,[],0,.nil,hacc⟩;refine⟨ok',rfl,I.bare,Un.laid old (af _) hn,⟨_,P,λk y v e1 e2 e3=>?_⟩,λy c e=>?_,?_,λy c e=>?_,λp hp=>absurd (show p∈([]:Φ)from hp) (by simp),hok1,?_⟩
  .by_cases kq:k<q
   .have e2:(bu q none++slots σ fr)[k]?=some (some v):=e2;rw[gZq (by rw[bT];exact kq),bM,pH kq]at e2
    cases e2
   .obtain⟨k,rfl⟩:∃j,k=j+q:=⟨k-q,by lia⟩
    have U:(bu q none++slots σ fr)[k+q]?=some (some v):=e2;rw[gYq (by rw[bT];lia),bT,fj]at U
    unfold slots at U;rw[gMq]at U;cases ej:fr[k]? with
    |none=>rw[ej]at U;cases U
    |some j=>
     rw[ej]at U;have e2j:(σ[j]?).join=some v:=aO.inj U;have e2s:σ[j]?=some (some v):=by
      cases q:σ[j]? with
      |none=>rw[q]at e2j;cases e2j
      |some z=>rw[q]at e2j;exact congrArg some e2j
     obtain⟨g1,g2,g3⟩:=hF.get k j y ej e1;obtain⟨m,_,hl⟩:=I.loc;obtain⟨u,r,l⟩:=hl j y v g1 e2s (.inr (.inl g2));refine⟨u,r,.inr ⟨.inl g3,?_⟩⟩;obtain⟨c,e⟩:=hF.has y (.inl g3);have e':=hF.sub y c e;rcases l with⟨l1,_⟩|⟨_,c',ec,hcell'⟩
     .have l1':X.env.scope.names.lookup y=some .local:=l1;rw[g2]at l1';cases l1'
     .rw[e']at ec;cases ec;obtain⟨o,ho,hd⟩:=hcell';exact⟨c,e,o,old c o ho,hd⟩
  .obtain⟨v,o,ho,hd⟩:=I.cell y c (hF.sub y c e);exact⟨v,o,old c o ho,hd⟩
  .show qw H s.heap.objs.size (.lst []) G.objs.size=none;rw[pd (Ne.symm hDC)];exact hnC
  .obtain⟨v,o,ho,hd⟩:=I.cell y c (hF.sub y c e);rw[pd (aD (ao ho))];exact I.freeC y c (hF.sub y c e)
  .show(bu q none++slots σ fr).length=N.length;unfold slots;rw[hF.len,lAq,bT,lMq,fW]
 have st1:tn 0 M:=T.keep 0 _ _ st λb _ o e=>old b o e
 have nf0:∀b∈fp,qw H s.heap.objs.size (.lst []) b=none:=λb hb=>by
  rw[pd (aD (fpl b hb))];exact(O b hb).1
 have stat:∀{R:Hp},(∀b∈fp,R b=none)->∀b∈fp,Am (qK X scope cl N G.objs.size s H fp) [] R b:=λhn' b hb=>
  ⟨hn' b hb,below b (fpl b hb),ok'.exfs b hb,.inl hb,λy c e=>(ok'.exf b hb).2 y c e,λp hp=>absurd (show p∈([]:Φ)from hp) (by simp)⟩
 have loop:∀S:Shared,S={ s with heap:=M,toks:=s.toks+([]:List (Str×Value)).length } ->
   lV (kj X.prog X.w) X.A (.compLoop (.ListComp elt [⟨tg,iter,ifs,0⟩] scope pos) 0 (.ref it) (.ref s.heap.objs.size) (compEnvC scope cl G.objs.size X.env)) (RR (.ref s.heap.objs.size) G.objs.size) S:=by
  rintro S rfl;refine IJ (λn s'=>∃i vs R,vs.length=q/\Inv (qK X scope cl N G.objs.size s H fp) [] (vs++slots σ fr) R s'/\tn i s'.heap/\(∀b∈fp,R b=none)/\W i n R) ?_ m0 ⟨0,_,_,bT,I0,st1,nf0,w0⟩
  rintro n s4 ⟨i,vs,H4,lv,I4,st4,nf4,w4⟩;rcases turn i n H4 w4 with⟨stop,qq⟩|⟨go,Nx,hNx,step⟩
  .refine thn (T.done (qK X scope cl N G.objs.size s H fp) rfl rfl rfl hc i [] s4 (vs++slots σ fr) H4 (λ_ _=>False) I4 (stat nf4) st4 stop) λr s5 t=>?_
   obtain⟨hr,I5⟩:=t;subst hr;obtain⟨m,hm,_⟩:=I5.loc;have I6:Inv X oH σ H4 s5:=I.call' (ch:=fp) I5.os I5.base I5.hok I5.bare λb hb=>⟨(O b hb).2.2.2.1,(O b hb).2.1,(O b hb).2.2.2.2.1,(O b hb).2.2.2.2.2⟩
   exact fin _ _ s5 H4 m I6 hm (I.fpOk hCle I5.free) qq
  .refine thn (T.item (qK X scope cl N G.objs.size s H fp) rfl rfl rfl hc i [] s4 (vs++slots σ fr) H4 (λ_ _=>False) I4 (stat nf4) st4 go) λr s5 t=>?_
   obtain⟨u,hr,h5⟩:=t;subst hr;refine thn h5 λ_ s6 t=>?_
   obtain⟨y,H6,I6,r6,y6,st6,nf6⟩:=t;have I6':=I6.pinned (stat nf6) (T.obj _ _ st6);refine thn (pg _ _ _ _ _ s6 (vs++slots σ fr) H6 y u _ I6' r6 (step y _ y6 vs lv)) λ_ s7 t=>?_
   obtain⟨σ7,H7,I7,o7,q7⟩:=t;obtain⟨ws,lw,e7⟩:=hw _ o7;subst e7;refine thn (hf _ _ _ _ _ s7 _ _ _ I7 q7) λb s8 t=>?_
   obtain⟨H8,I8,q8⟩:=t;have again:∀{s9:Shared}{H9:Hp},Inv (qK X scope cl N G.objs.size s H fp) ([]++D5 fp s6.heap) (ws++slots σ fr) H9 s9->Nx H9->∃m,m<n/\∃i vs R,vs.length=q/\Inv (qK X scope cl N G.objs.size s H fp) [] (vs++slots σ fr) R s9/\tn i s9.heap/\(∀b∈fp,R b=none)/\W i m R:=λ{s9 H9} I9 n9=>by
    obtain⟨m',hm,w9⟩:=hNx H9 n9;refine⟨m',hm,i+1,ws,H9,lw,I9.unpinned,T.keep _ _ _ st6 λb hb o e=>(I9.pin (b,o) (aj _ (aj _ (yD hb e)))).1,λb hb=>?_,w9⟩
    obtain⟨o,e,d⟩:=T.obj _ _ st6 b hb;exact(I9.pin (b,o) (aj _ (aj _ (yD hb e)))).2.1
   cases b with
   |false=>exact again I8 q8
   |true=>
    refine thn (he _ _ _ _ _ s8 _ _ _ I8 q8) λz s9 t=>?_
    obtain⟨zv,H9,I9,r9,ys,a9,l9,n9⟩:=t;refine thn (qv (X:=qK X scope cl N G.objs.size s H fp) _ s9 _ H9 (.ref s.heap.objs.size) [zv] (.ref s.heap.objs.size) [z] (λ_ R=>R=qw H9 s.heap.objs.size (.lst (ys++[zv]))) I9 rfl (.cons r9 .nil) ⟨_,ys,zv,rfl,rfl,a9,l9,rfl⟩) λ_ s10 t=>?_
    obtain⟨_,H10,I10,_,e10⟩:=t;subst e10;exact again I10 n9
 exact codeAny_compStart_list (loop _ rfl) (T.self X.A 0 _ _ _ st1 (loop _ rfl))
def DX{M:Φ}{σ:St}{H:Hp}{s:Shared}{E:Ψ}{J:It}{fp:Δ}{S:Addr}{U:Nat->Heap->Prop}{RR:Value->Addr->nX->Shared->Prop}{Q:VK}
  (hc:X.calm=true) (t:∀y∈scope.names,y.2 ≠ .cell) (u:scope.kind = .function) (Y:scope.names.lookup x=some .local) (O:vX X scope cl x N fr)
  (hf:∀C s H fp,PF (qK X scope cl N C s H fp) ifs tf) (he:∀C s H fp,PE (qK X scope cl N C s H fp) elt te)
  (I:Inv X M σ H s) (T:Hg X.prog X.w X.K (.Name x px) J fp S U) (st:U 0 s.heap) (P:∀b∈fp,Am X M H b)
  (h:∀l,H l=none->∃W:Nat->Nat->Hp->Prop,(∃m,W 0 m (qw H l (.lst [])))/\∀i m H,W i m H ->
   (J.stop i H/\Q (.ref l) H) ∨
   (J.go i H/\∃N:Hp->Prop,(∀z,N z->∃m',m'<m/\W (i+1) m' z)/\∀x z,J.yld i H x z->tf (some x::slots σ fr) z λb H2=>
    if b=true then te (some x::slots σ fr) H2 λy H3=>∃ys,H3 l=some (.lst ys)/\ys.length<kr/\N (qw H3 l (.lst (ys++[y])))else N H2))
  (fin:∀l C R Hf m,Inv X M σ Hf R->R.heap.Ns C m->Am X M Hf C->Q (.ref l) Hf->RR (.ref l) C (.ok .next) R) :
  ki (kj X.prog X.w) X.A (nq []) (λl B=>ki (kj X.prog X.w) X.A (nR scope X.env.globals cl [] X.env.qual none .none (some X.env)) (λn G=>
   lV (kj X.prog X.w) X.A (.compStart (.ListComp elt [⟨.Name x px,iter,ifs,0⟩] scope pos) 0 (.ref S) l { n with scope:=kS scope X.env }) (RR l n.locals) G) E B) E s:=by
 refine CJ (tg:=.Name x px) (gq:=rE 0) (q:=1) (own:=λL=>∃a,L=a::slots σ fr) hc t u O.g (λC s H fp=>Ai O.names O.own (.inl (kT Y)) (.inr (kT Y))) (λL e=>?_) hf he I T st P (λl ha=>?_) fin
 .obtain⟨a,rfl⟩:=e;exact⟨[a],rfl,rfl⟩
 .obtain⟨W,w0,turn⟩:=h l ha;refine⟨W,w0,λi m H w=>(turn i m H w).imp id λ⟨go,N,hN,stp⟩=>⟨go,N,hN,λx z y vs lv=>?_⟩⟩
  match vs,lv with
  | [v],_=>exact⟨⟨some x,rfl⟩,stp x z y⟩
def C8{E:TI}(L:X.calm=true)(t:og scope X.env=pure cl)(u:∀y∈scope.names,y.2 ≠ .cell)(l:scope.kind = .function)(n:∀y∈scope.names,y.2 = .local->scope.names.lookup y.1=some .local)
  (M:scope.names.lookup x=some .local) (O:vX X scope cl x N fr) (hi:PI X (.Name x px) iter E) (P:∀C s H fp,PF (qK X scope cl N C s H fp) ifs tf) (R:∀C s H fp,PE (qK X scope cl N C s H fp) elt te)
  (hs:∀x,mj iter X.env x=pure x:=by intro _;rfl):PE X (.ListComp elt [⟨.Name x px,iter,ifs,0⟩] scope pos) (LF E fr tf te):=by
 intro G s σ H Q I h;rw[eval_ListComp];refine lK (use:=none) rfl hs t l n (thn (hi G s σ H _ I h) λv s1 S=>thn S λU s2 Y=>?_)
 obtain⟨it,fp,tn,J,H2,e,I2,T,CZ,f2,q2⟩:=Y;subst e;refine DX (RR:=λz C=>compPost (kj X.prog X.w) X.A X.xe none (EP X G σ Q) z C) L u l M O P R I2 T CZ f2 q2 ?_
 intro z C s' Hf m I' hm B q;refine⟨m,hm,λh' sb=>⟨.ref z,Hf,?_,rfl,q⟩⟩
 exact I'.turned (t':=s'.toks) (λb o hb e=>(sb.2 b hb).trans e) B.1 B.2.1 B.2.2.2.1 B.2.2.2.2.1 B.2.2.2.2.2
def G2{wi:TI}{y:Str}{i:Nat}{py B:Pos}(hc:X.calm=true)(hN:X.N.Nodup)(YT:X.N[i]?=some y)(hy:VL X.env.scope y)(E:og scope X.env=pure cl)(G:∀y∈scope.names,y.2 ≠ .cell)(l:scope.kind = .function)
  (n:∀y∈scope.names,y.2 = .local->scope.names.lookup y.1=some .local)
  (hx:scope.names.lookup x=some .local) (hF:vX X scope cl x N fr) (hi:PI X (.Name x px) iter wi) (hf:∀C s H fp,PF (qK X scope cl N C s H fp) ifs tf) (he:∀C s H fp,PE (qK X scope cl N C s H fp) elt te)
  (R:mZ (.ListComp elt [⟨.Name x px,iter,ifs,0⟩] scope pos) (some (.Name y py)) B.line X.env=pure true:=by rfl) (hs:∀x,mj iter X.env x=pure x:=by intro _;rfl)
  (S:X.fn y=true∨X.env.scope.names.lookup y=some .local:=by trivial) :
  PS X (.Assign [.Name y py] (.ListComp elt [⟨.Name x px,iter,ifs,0⟩] scope pos) B) (EG (LF wi fr tf te) (rE i)):=by
 intro O s σ H D I h;rw[nK _ _ _ _ R];refine jZ (oi (jZ ?_));show ki _ X.A (do let _ ←comprehension (.ListComp elt [⟨.Name x px,iter,ifs,0⟩] scope pos) scope X.env _ (nq []) false (eval iter X.env) (some (nc (.Name y py) X.env))) _ _ s
 refine jZ (kM (lK (use:=some (nc (.Name y py) X.env)) (Q:=λ_ L=>SP X O D .next L) rfl hs E l n
  (thn (hi O s σ H _ I h) λv s1 h1=>thn h1 λitv s2 h2=>?_)) (λ_ L hq=>kf (kf hq)) λ_ _ e=>e)
 obtain⟨it,fp,tn,J,H2,e,P,T,CZ,f2,U⟩:=h2;subst e;refine DX (RR:=λt C=>compPost (kj X.prog X.w) X.A X.xe (some (nc (.Name y py) X.env)) (λ_ L=>SP X O D .next L) t C) (Q:=λv H'=>D.nx (σ.set i (some v)) H') hc G l hx hF hf he P T CZ f2 U ?_
 intro t C L Hf m I' hm M q;obtain⟨o,es,ep,ho,hd,r⟩:=id hm;have I1:Inv X (O++[(C,o)]) σ Hf L:=I'.pins_of λp hp=>(mAq.mp hp).elim (λz=>I'.pin p (aj _ z)) λz=>by
  have e:p=(C,o):=by simpa using z
  subst e;exact⟨ho,M.1,M.2.1,M.2.2.1,λv z=>by rw[hd]at z;cases z⟩
 refine thn (Ai (X:=X) (i:=i) (pos:=py) hN YT hy S _ L σ Hf (.ref t) (.ref t) _ I1 rfl q) λ_ s2 Y=>?_
 obtain⟨σ2,H2,P,U⟩:=Y;have pC:=P.pin (C,o) (aj _ (aj _ (by simp)))
 refine⟨m,⟨o,es,ep,pC.1,hd,r⟩,λh' sb=>⟨σ2,H2,?_,U⟩⟩
 exact P.unpinned.turned (t':=s2.toks) (λb u hb e=>(sb.2 b hb).trans e) pC.2.1 M.2.1 M.2.2.2.1 M.2.2.2.2.1 M.2.2.2.2.2
end
end Mr
namespace MrS
open PySem PyProof.Rows
section
variable {prog:ku}{w:ky}{A:Around}{E:Ψ}{s:Shared}{Pk:ke->Prop}{lt:ke->ke->Bool}
noncomputable abbrev tE(h:Heap)(a:Addr)(vs:Ξ):Heap:=((h.update a (Obj.mapSeq λ_=>#[])).push (kC "tuple" vs.toArray 0)).push (kC "list" #[] 0)
def xl{a:Addr}{vs:Ξ}{n:Nat}{P:PySem.Fin->Shared->Prop}(B:s.heap.get? a=some (kC "list" vs.toArray n))(hs:vs.length<=kr)
  (I:2<=vs.length->∀Q:kR->Shared->Prop,Q mi { s with heap:=tE s.heap a vs }->ki (kj prog w) A (oh vs.toArray) Q E { s with heap:=tE s.heap a vs })
  (C:zY prog w A { s with heap:=tE s.heap a vs } mi Pk lt) (M:∀x,x∈lJ vs->Pk x)
  (h:∀xs:Array ke,xs.Perm (lJ vs)->AQ lt xs 0 (lJ vs).size->P (.done (.ret .none)) { s with heap:=mL s.heap a vs (xs.map (·.2)) }) :
  ki (kj prog w) A (Builtin.«list.sort» ⟨[.ref a],[]⟩) P E s:=by
 rw[list_sort_plain];have ha:a<s.heap.objs.size:=ao B;refine jZ (listItems_at B rfl ?_);refine jZ (om B rfl ?_ (hsz:=by simpa using hs))
 obtain⟨J,t⟩:∃J,(s.heap.update a (Obj.mapSeq λ_=>#[])).get? a=some (kC "list" #[] J):=⟨_,nA B (λ_=>#[])⟩
 refine jZ (oB t rfl ?_);refine jZ (wpAny_newTuple ?_);refine jZ (mw ?_);refine lu ?_;have l:(tE s.heap a vs).get? a=some (kC "list" #[] J):=by
  rw[gf _ _ _ (by rw[size_push',fE];exact aD (cB ha)),gf _ _ _ (by rw[fE];exact aD ha)]
  exact t
 show ki (kj prog w) A _ P E { s with heap:=tE s.heap a vs }
 dsimp only;have R:vs.toArray.size=vs.length:=by simp
 have S:kr=16777216:=kJ
 by_cases G:vs.toArray.size<2
 .rw[pH G,pH G];refine jZ (kf ?_);rw[StateT.run_pure];refine jZ (kf ?_);dsimp only;refine jZ (oB l rfl ?_);refine jZ (om l rfl ?_ (hsz2:=by rw[jy];show(lJ vs).size<=_;rw[mT,kJ];lia))
  simp only[bne_self_eq_false,cK,if_false];refine kf (h _ (jv.refl _) ?_);intro i j x y _ U X ex O;have:i=j:=by rw[mT]at X;lia
  subst this;rw[ex]at O;cases O;exact C.refl (M x (aQq ex))
 .rw[pE G,pE G];refine jZ (I (by lia) _ ?_)
  refine jZ (kM (Hm C (arr:=lJ vs) (g:=7) (E:=E)
   (Q:=λ_ u=>∃xs p H,u=ya mi xs p H/\xs.Perm (lJ vs)/\AQ lt xs 0 (lJ vs).size) M (by rw[mT];lia) λxs p H Y a2=>⟨xs,p,H,rfl,Y,a2⟩) ?_ λ_ _ e=>e)
  rintro⟨⟨⟩,u⟩ s' ⟨rfl,xs,p,H,rfl,z,L⟩;dsimp only;refine jZ (oB l rfl ?_);refine jZ (om l rfl ?_ (hsz2:=by refine bY (fA ((jy ..).trans (z.size_eq.trans (mT _)))) ?_;lia))
  simp only[bne_self_eq_false,cK,if_false];exact kf (h xs z L)
def Gw{h:Heap}{a:Addr}{xs:Ω}{n:Nat}(vs:Ξ)(u:h.get? a=some (kC "list" xs n)):∃l,(tE h a vs).get? a=some (kC "list" #[] l):=by
 have ha:a<h.objs.size:=ao u;obtain⟨l,t⟩:∃l,(h.update a (Obj.mapSeq λ_=>#[])).get? a=some (kC "list" #[] l):=⟨_,nA u (λ_=>#[])⟩
 refine⟨l,?_⟩;rw[gf _ _ _ (by rw[size_push',fE];exact aD (cB ha)),gf _ _ _ (by rw[fE];exact aD ha)]
 exact t
def Gj{h:Heap}{a:Addr}{xs:Ω}{n:Nat}(ys:Ω)(l:h.get? a=some (kC "list" xs n)):∃t,(h.update a (Obj.mapSeq λ_=>ys)).get? a=some (kC "list" ys t):=⟨_,nA l (λ_=>ys)⟩
def uZ{vs:Ξ}{x:ke}(h:x∈lJ vs):x.1∈vs/\x.2=x.1:=by
 obtain⟨i,hi,e⟩:=Array.mem_iff_getElem.mp h;have l:i<vs.length:=by rw[mT]at hi;exact hi
 have:x=(vs[i],vs[i]):=by
  rw[←e];simp[lJ]
 rw[this];exact⟨gRq l,rfl⟩
def zI{vs:Ξ}{xs:Array ke}(t:xs.Perm (lJ vs))(hs:AQ lt xs 0 (lJ vs).size) :
  (xs.map (·.2)).toList.Perm vs/\(xs.map (·.2)).toList.Pairwise (λx y=>lt (y,y) (x,x)=false):=by
 constructor
 .have:=t.toList.map (·.2);have e:(lJ vs).toList.map (·.2)=vs:=by
   have:(lJ vs).toList=vs.zip vs:=by simp[lJ]
   rw[this];apply jq
   .simp
   .intro i L M;simp
  rw[e]at this;rw[Array.toList_map];exact this
 .rw[bI];intro i j hi B u;have n:i<xs.size:=by simpa using hi
  have l:j<xs.size:=by simpa using B
  have z:=hs i j xs[i] xs[j] (bx _) (cC u) (by rw[←t.size_eq];exact l) (by simp[n]) (by simp[l])
  have G:=uZ (t.mem_iff.mp (bC n));have H:=uZ (t.mem_iff.mp (bC l));have I:xs[i]=(xs[i].2,xs[i].2):=jd G.2.symm rfl;have J:xs[j]=(xs[j].2,xs[j].2):=jd H.2.symm rfl;rw[I,J]at z;simpa using z
def DT{l:Addr}{vs:Ξ}{Q:Ψ}(hl:s.heap.IsList l vs.toArray)(hs:vs.length<=kr)
  (I:∀u:Shared,(∀b o,s.heap.get? b=some o->u.heap.get? b=some o)->(2<=vs.length->∀Q:kR->Shared->Prop,Q mi u->ki (kj prog w) A.in1.in1 (oh vs.toArray) Q E u)/\zY prog w A.in1.in1 u mi Pk lt)
  (J:∀v∈vs,Pk (v,v))
  (h:∀(out:Ξ) (h':Heap) (L:Nat),out.Perm vs->out.Pairwise (λx y=>lt (y,y) (x,x)=false)->(∀b o,s.heap.get? b=some o->h'.get? b=some o) ->
   h'.get? (s.heap.objs.size+1)=some (kC "list" out.toArray L)->Q (.ref (s.heap.objs.size+1)) { s with heap:=h' }) :
  ki (kj prog w) A (call (.builtin "sorted") [.ref l]) Q E s:=by
 refine Calls.call_function_entry oC ot ox (oy _) ?_;unfold Builtin.«sorted»;refine jZ (m:=checkCount "sorted" 1 1 _) (kf ?_);refine jZ (collect_list hl ?_ hs);refine jZ (mw ?_);have t:((s.heap.push (kC "list" #[] 0)).update s.heap.objs.size (Obj.mapSeq (· ++ vs.toArray))).objs.size=s.heap.objs.size+1:=by
  rw[fE,size_push']
 have n:(((s.heap.push (kC "list" #[] 0)).update s.heap.objs.size (Obj.mapSeq (· ++ vs.toArray))).push (kC "list" vs.toArray 0)).get? (s.heap.objs.size+1)=some (kC "list" vs.toArray 0):=by
  rw[←t];exact aH _ rfl
 show ki _ _ _ _ _ { s with heap:=((s.heap.push (kC "list" #[] 0)).update s.heap.objs.size (Obj.mapSeq (· ++ vs.toArray))).push (kC "list" vs.toArray 0) }
 rw[t];generalize M:((s.heap.push (kC "list" #[] 0)).update s.heap.objs.size (Obj.mapSeq (· ++ vs.toArray))).push (kC "list" vs.toArray 0)=G at n ⊢;have O:∀b o,s.heap.get? b=some o->G.get? b=some o:=λb o e=>by
  rw[←M];refine ah _ ?_;rw[de _ _ _ _ (aD (ao e))];exact ah _ e
 have H:∀b o,s.heap.get? b=some o->(tE G (s.heap.objs.size+1) vs).get? b=some o:=λb o e=>by
  refine ah _ (ah _ ?_);rw[de _ _ _ _ (aD (cB (ao e)))];exact O b o e
 obtain⟨P,R⟩:=I { s with heap:=tE G (s.heap.objs.size+1) vs } H
 refine jZ (lu (kN nQ ⟨_,n,rfl⟩ nB (xl (Pk:=Pk) (lt:=lt) n hs P R (λx S=>?_) λz U X=>⟨_,rfl,?_⟩) (nT _)))
 .obtain⟨Y,m2⟩:=uZ S;have:x=(x.1,x.1):=jd rfl m2;rw[this];exact J _ Y
 .obtain⟨v1,v2⟩:=zI U X;obtain⟨e1,B⟩:=Gw vs n;obtain⟨n1,g1⟩:=Gj (z.map (·.2)) B;refine kf ⟨_,rfl,h _ (mL G (s.heap.objs.size+1) vs (z.map (·.2))) n1 v1 v2 (λb o e=>?_) ?_⟩
  .unfold mL;rw[de _ _ _ _ (aD (cB (ao e)))];exact H b o e
  .rw[show(z.map (·.2)).toList.toArray=z.map (·.2)from gK]
   exact g1
end
end MrS
namespace HT
open PySem PyProof.Rows
section
open PySem.SeqAt
open PySem.AutoSeq1 (wpAny_loadPart')
open PySem.MeetsSeq PySem.MeetsSeq2 PySem.MeetsSeq3 PySem.SeqRoads2
def II{vs:Ξ}{ns:Ϝ}(h:kK vs ns):∀{i:Nat}(hi:i<vs.length),∃(z:Int) (t:Tok),vs[i] = .int z t/\ns.drop i=z::ns.drop (i+1):=by
 induction h with
 |nil=>intro i hi;exact absurd hi (cW _)
 |cons a t _ l=>
  intro i hi;cases i with
  |zero=>exact⟨a,t,rfl,rfl⟩
  |succ i=>exact l (i:=i) (by simpa using hi)
def Gc(l b:Addr)(items z:Ω)(n U:Nat)(dd J:Option Addr)(sl L:Array Υ)(ns H:Ϝ)(hi:kK items.toList ns)(Q:kK z.toList H)(k:Nat) :
  ∀i:Nat,min items.size z.size-i=k->i<=items.size->i<=z.size->Meets (Builtin.«list.__eq__.loop» ⟨[.ref l,.ref b,kE i,kE 0],[]⟩)
   (λ_ R s=>s.heap.get? l=some { cls:=.type "list", dict:=dd,data:=.seq items n,slots:=sl }/\s.heap.get? b=some { cls:=.type "list", dict:=J,data:=.seq z U,slots:=L } /\
    R (.ok (.ret (.bool (sY (ns.drop i) (H.drop i))))) s):=by
 have z1:ns.length=items.size:=by rw[←hi.length];simp
 have z2:H.length=z.size:=by rw[←Q.length];simp
 induction k with
 |zero=>
  intro i hk X Y prog w A R s h;obtain⟨M,g,d,O,os⟩:=s;obtain⟨hl,hb,h⟩:=h
  wp_walk using wpAny_loadPart' hl,wpAny_loadPart' hb
  have fin:sY (ns.drop i) (H.drop i)=decide (items.size<z.size):=by
   by_cases c:i=items.size
   .have e1:ns.drop i=[]:=dU (by lia)
    rw[e1]
    by_cases S:i<z.size
    .rw[aC (by lia:i<H.length),Dr]
     exact(d0 (by lia)).symm
    .rw[dU (by lia:H.length<=i),EE]
     exact(d4 (by lia)).symm
   .have S:i=z.size:=by lia
    rw[aC (by lia:i<ns.length),dU (by lia:H.length<=i),DN]
    exact(d4 (by lia)).symm
  rw[fin]at h
  by_cases c:i=items.size
  .have SG:items[((i:Nat):Int).toNat]?=none:=by simp;lia
   rw[SG]
   wp_walk using wpAny_loadPart' hl,wpAny_loadPart' hb
   exact h
  .have S:i=z.size:=by lia
   have SG:items[((i:Nat):Int).toNat]?=some (items[i]'(by lia)):=by simp
   have B:z[((i:Nat):Int).toNat]?=none:=by simp;lia
   rw[SG,B]
   wp_walk using wpAny_loadPart' hl,wpAny_loadPart' hb
   exact h
 |succ k ih=>
  intro i hk X Y prog w A R s h;obtain⟨M,g,d,O,os⟩:=s;obtain⟨hl,hb,h⟩:=h
  wp_walk using wpAny_loadPart' hl,wpAny_loadPart' hb
  have I:i<items.size:=by lia
  have E:i<z.size:=by lia
  obtain⟨x,t,ex,dx⟩:=II hi (i:=i) (by simpa using I)
  obtain⟨y,u,ey,dy⟩:=II Q (i:=i) (by simpa using E)
  have SG:items[((i:Nat):Int).toNat]?=some (.int x t):=by
   rw[←ex];simp[I]
  have B:z[((i:Nat):Int).toNat]?=some (.int y u):=by
   rw[←ey];simp[E]
  have hc:((i:Int)+1)=((i+1:Nat):Int):=by push_cast;rfl
  rw[dx,dy,yo]at h;rw[SG,B];obtain⟨e,he,G⟩:=O4 A.in1 ⟨M,g,d,O,os⟩ x t y u;refine jZ (he prog w _ _ ?_);cases e with
  |true=>
   rw[pH (G.mp rfl)]at h
   wp_walk
   rw[hc];exact⟨mB plain_eq_loop _,kL entry_eq_loop (by
    rw[Around.under_plainId plain_eq_loop _];exact ih (i+1) (by lia) (by lia) (by lia) prog w A R _ ⟨hl,hb,h⟩)⟩
  |false=>
   rw[pE (λq=>absurd (G.mpr q) aJ)]at h
   have P:=Sa A.in1 ⟨M,g,d,O,os⟩ x t y u prog w
   wp_walk using wpAny_loadPart' hl,wpAny_loadPart' hb
   rw[SG,B]
   wp_walk using P
   exact h
def GN(l b:Addr)(items t:Ω)(n B:Nat)(dd u:Option Addr)(sl x:Array Υ)(ns z:Ϝ)(hi:kK items.toList ns)(E:kK t.toList z) :
  Meets (Builtin.«list.__lt__» ⟨[.ref l,.ref b],[]⟩)
   (λ_ R s=>s.heap.get? l=some { cls:=.type "list", dict:=dd,data:=.seq items n,slots:=sl }/\s.heap.get? b=some { cls:=.type "list", dict:=u,data:=.seq t B,slots:=x } /\
    R (.ok (.ret (.bool (sY ns z)))) s):=by
 intro prog w A R s h;obtain⟨G,g,d,H,os⟩:=s;obtain⟨hl,hb,h⟩:=h;have I:=AutoSeq1.sub_list_list
 wp_walk using wpAny_loadPart' hl,wpAny_loadPart' hb
 exact⟨mB plain_eq_loop _,kL entry_eq_loop (by
  rw[Around.under_plainId plain_eq_loop _];exact Gc l b items t n B dd u sl x ns z hi E _ 0 rfl (bx _) (bx _) prog w A R _ ⟨hl,hb,h⟩)⟩
end
end HT
namespace Mr
open PySem PySem.Spec PyProof.Rows L2
section
open HT
theorem Ez:∀xs ys:Ϝ,sY xs ys=true->sY ys xs=false
 | [],[],_=>rfl
 | [],_::_,_=>rfl
 |_::_,[],h=>by cases h
 |x::xs,y::ys,h=>by
  rw[yo]at h ⊢
  by_cases e:x=y
  .rw[pH e]at h;rw[pH e.symm];exact Ez xs ys h
  .rw[pE e]at h;rw[pE (Ne.symm e)];have l:x<y:=of_decide_eq_true h;exact d4 (by lia)
theorem Ck:∀xs ys l:Ϝ,sY ys xs=false->sY l ys=false->sY l xs=false
 | [],[],[],_,_=>rfl
 | [],[],_::_,_,h=>by exact h
 | [],_::_,[],_,h=>by cases h
 | [],_::_,_::_,_,_=>rfl
 |_::_,[],_,h,_=>by cases h
 |_::_,_::_,[],_,h=>by cases h
 |x::xs,y::ys,z::l,h1,h2=>by
  rw[yo]at h1 h2 ⊢
  by_cases s:y=x
  .rw[pH s]at h1;subst s
   by_cases n:z=y
   .rw[pH n]at h2 ⊢;exact Ck xs ys l h1 h2
   .rw[pE n]at h2 ⊢;exact h2
  .rw[pE s]at h1;have t:¬ y<x:=of_decide_eq_false h1
   by_cases n:z=y
   .rw[pE (by lia)]
    exact d4 (by lia)
   .rw[pE n]at h2;have u:¬ z<y:=of_decide_eq_false h2;rw[pE (by lia)]
    exact d4 (by lia)
theorem Jh:∀xs ys:Ϝ,sY xs ys=false->sY ys xs=false->xs=ys
 | [],[],_,_=>rfl
 | [],_::_,h,_=>by cases h
 |_::_,[],_,h=>by cases h
 |x::xs,y::ys,h1,h2=>by
  rw[yo]at h1 h2
  by_cases e:x=y
  .rw[pH e]at h1;rw[pH e.symm]at h2;rw[e,Jh xs ys h1 h2]
  .rw[pE e]at h1;rw[pE (Ne.symm e)]at h2;have l:¬ x<y:=of_decide_eq_false h1;have n:¬ y<x:=of_decide_eq_false h2;lia
def TQ(x y:Ϝ):Bool:=!HT.sY y x
def Ob(x y z:Ϝ)(l:TQ x y=true)(n:TQ y z=true):TQ x z=true:=by
 unfold TQ at *;simp only[jj]at *;exact Ck x y z l n
def Np(x y:Ϝ):(TQ x y || TQ y x)=true:=by
 unfold TQ;cases h:HT.sY y x with
 |false=>rfl
 |true=>rw[Ez y x h];rfl
def xS(rs:Λ):Λ:=rs.mergeSort TQ
def sk(rs:Λ):(xS rs).Perm rs:=ja _ _
def Kv(rs:Λ):(xS rs).Pairwise (λx y=>HT.sY y x=false):=by
 refine(iH Ob Np rs).imp λ{a b} h=>?_
 unfold TQ at h;simpa using h
def EI:∀{xs ys:Λ},xs.Perm ys->xs.Pairwise (λx y=>HT.sY y x=false)->ys.Pairwise (λx y=>HT.sY y x=false)->xs=ys
 |xs,ys,l,n,s=>aL.eq_of_pairwise (λa b _ _ t u=>(Jh b a t u).symm) n s l
def V8{xs rs:Λ}(l:xs.Perm rs)(h:xs.Pairwise (λx y=>HT.sY y x=false)):xs=xS rs:=
 EI (l.trans (sk rs).symm) h (Kv rs)
def vR(rs:Λ):(xS rs).length=rs.length:=(sk rs).length_eq
noncomputable def qQ(ns:Ϝ):Ϝ:=ns.mergeSort (λx y=>decide (x<=y))
def qT(ns:Ϝ):(qQ ns).Perm ns:=ja _ _
def CL(ns:Ϝ):(qQ ns).Pairwise (·<=·):=by
 refine(iH (le:=λx y=>decide (x<=y)) (λa b c l n=>?_) (λa b=>?_) ns).imp λ{a b} h=>by simpa using h
 .simp only[decide_eq_true_eq]at *;lia
 .simp only[Bool.or_eq_true,decide_eq_true_eq];lia
def G9{xs ns:Ϝ}(l:xs.Perm ns)(h:xs.Pairwise (·<=·)):xs=qQ ns:=
 aL.eq_of_pairwise (λa b _ _ n s=>Int.le_antisymm n s) h (CL ns) (l.trans (qT ns).symm)
end
def qL(H:Hp)(ps:Δ)(rs:Λ):Prop:=ps.map H=rs.map (λr=>some (HO.lst (r.map V.int)))
def qL.nil{H:Hp}:qL H [] []:=rfl
theorem qL.length{H:Hp}{ps:Δ}{rs:Λ}(h:qL H ps rs):ps.length=rs.length:=by
 have:=congrArg bV h;simpa using this
def qL.cons_iff{H:Hp}{ps:Δ}{rs:Λ}{p:Addr}{r:Ϝ}:qL H (p::ps) (r::rs)↔H p=some (.lst (r.map V.int))/\qL H ps rs:=by
 unfold qL;rw[au,au,List.cons.injEq]
def qL.get{H:Hp}{ps:Δ}{rs:Λ}(h:qL H ps rs){i:Nat}{p:Addr}(e:ps[i]?=some p):∃r,rs[i]?=some r/\H p=some (.lst (r.map V.int)):=by
 have:=congrArg (λl=>l[i]?) h
 simp only[gMq,e,df]at this;cases n:rs[i]? with
 |none=>rw[n]at this;cases this
 |some r=>rw[n]at this;exact⟨r,rfl,aO.inj this⟩
def qL.mem{H:Hp}{ps:Δ}{rs:Λ}(h:qL H ps rs){p:Addr}(l:p∈ps):∃r,r∈rs/\H p=some (.lst (r.map V.int)):=by
 obtain⟨i,hi⟩:=List.getElem?_of_mem l;obtain⟨r,n,e⟩:=h.get hi;exact⟨r,mGq n,e⟩
def qL.keep{H l:Hp}{ps:Δ}{rs:Λ}(h:qL H ps rs)(k:∀p∈ps,l p=H p):qL l ps rs:=by
 unfold qL at *;rw[←h];exact mCq k
def qL.same{H l:Hp}{ps:Δ}{rs:Λ}(h:qL H ps rs)(s:pX H l):qL l ps rs:=
 h.keep λp n=>by
  obtain⟨r,_,e⟩:=h.mem n;rw[s _ _ e,e]
noncomputable def toI:V->Int
 | .int i=>i
 |_=>0
def Ao(H:Hp)(p:Addr):Ϝ:=match H p with
 |some (.lst xs)=>xs.map toI
 |_=>[]
def Jc{H:Hp}{p:Addr}{r:Ϝ}(h:H p=some (.lst (r.map V.int))):Ao H p=r:=by
 unfold Ao;rw[h];simp only[mPq];exact List.map_id'' (λ_=>rfl) r
def qL.fn{H:Hp}{ps:Δ}{rs:Λ}(h:qL H ps rs):rs=ps.map (Ao H):=by
 induction rs generalizing ps with
 |nil=>
  have:=h.length;have:ps=[]:=bU.mp this;rw[this];rfl
 |cons r rs l=>
  cases ps with
  |nil=>have:=h.length;simp at this
  |cons p ps=>
   obtain⟨n,s⟩:=qL.cons_iff.mp h;rw[au,←l s,Jc n]
def qL.fn_row{H:Hp}{ps:Δ}{rs:Λ}(h:qL H ps rs){p:Addr}(l:p∈ps):H p=some (.lst ((Ao H p).map V.int)):=by
 obtain⟨r,_,e⟩:=h.mem l;rw[Jc e];exact e
def qL.of_fn{H:Hp}{ps:Δ}(h:∀p∈ps,H p=some (.lst ((Ao H p).map V.int))):qL H ps (ps.map (Ao H)):=by
 unfold qL;rw[mPq];exact mCq h
def qL.perm{H:Hp}{ps l:Δ}{rs:Λ}(h:qL H ps rs)(s:l.Perm ps):∃n,qL H l n/\n.Perm rs/\n=l.map (Ao H):=
 ⟨_,qL.of_fn λp m=>h.fn_row (s.mem_iff.mp m),by rw[h.fn];exact s.map _,rfl⟩
def qL.free{H l:Hp}{ps:Δ}{rs:Λ}(h:qL l ps rs){q:Addr}(n:l q=none):q∉ps:=λm=>by
 obtain⟨r,_,e⟩:=h.mem m;rw[n]at e;cases e
theorem Fz:∀{ps:Δ}{vs:Ξ},qc (ps.map V.ref) vs->vs=ps.map cA
 | [],vs,r=>by cases r;rfl
 |p::ps,vs,r=>by
  rw[au]at r;cases r with
  |cons l n=>
   have e:_=cA p:=l;rw[e,Fz n];rfl
theorem Fx:∀(ps:Δ),qc (ps.map V.ref) (ps.map cA)
 | []=>.nil
 |p::ps=>.cons rfl (Fx ps)
def B3:Value->Addr
 | .ref p=>p
 |_=>0
def intOf:Value->Int
 | .int i _=>i
 |_=>0
def Ge{vs:Ξ}{ns:Ϝ}(h:kK vs ns):ns=vs.map intOf/\∀v∈vs,∃a t,v = .int a t:=by
 induction h with
 |nil=>exact⟨rfl,λv l=>by cases l⟩
 |cons a t _ n=>
  refine⟨by rw[au,←n.1];rfl,λv l=>?_⟩
  rcases ae.mp l with rfl|l
  .exact⟨a,t,rfl⟩
  .exact n.2 v l
theorem vals_ints:∀{vs:Ξ},(∀v∈vs,∃a t,v = .int a t)->qc ((vs.map intOf).map V.int) vs
 | [],_=>.nil
 |v::vs,h=>by
  obtain⟨a,t,rfl⟩:=h _ (ai ..);exact .cons ⟨t,rfl⟩ (vals_ints λv l=>h v (mCo _ l))
def Vf{M:Model}{A:Around}{E:Ψ}{s:Shared}{vs:Ξ}{T:String}{Q:kR->Shared->Prop}(t:2<=vs.length)(u:∀v∈vs,W.Looks M s.heap (typeOf v) (.type T))(l:(eF T != eF "tuple")=true)(n:(eF T == eF T)=true)(h:Q mi s) :
  ki M A (oh vs.toArray) Q E s:=W.kas_kind t u l n h
def ltI(x y:ke):Bool:=match x.1,y.1 with
 | .int a _,.int b _=>decide (a<b)
 |_,_=>false
def XO(prog:ku)(w:ky)(A:Around)(s:Shared):MrS.zY prog w A s mi (λx=>∃a t,x.1 = .int a t) ltI where
 ask:=by
  rintro⟨_,x⟩ ⟨_,y⟩ ⟨a,t,l⟩ ⟨b,u,n⟩ E Q q;dsimp only at l n;subst l n;rw[keyLt'_oneType];exact oneLt_int q
 asym:=by
  rintro⟨_,x⟩ ⟨_,y⟩ ⟨a,t,l⟩ ⟨b,u,n⟩ h;dsimp only at l n;subst l n;have h':a<b:=of_decide_eq_true h;exact d4 (by lia)
 trans:=by
  rintro⟨_,x⟩ ⟨_,y⟩ ⟨_,z⟩ ⟨a,t,l⟩ ⟨b,u,n⟩ ⟨c,v,B⟩ G H;dsimp only at l n B;subst l n B;have I:¬ b<a:=of_decide_eq_false G;have J:¬ c<b:=of_decide_eq_false H;exact d4 (by lia)
def ltR(r:Addr->Ϝ)(x y:ke):Bool:=match x.1,y.1 with
 | .ref p,.ref q=>HT.sY (r p) (r q)
 |_,_=>false
def aaZ{prog:ku}{w:ky}{A:Around}{s:Shared}{ps:Δ}{r:Addr->Ϝ}(R:A.units<lB)
  (h:∀p∈ps,∃vs:Ξ,PlainL s.heap p vs.toArray/\kK vs (r p)):MrS.zY prog w A s mi (λx=>∃p,x.1 = .ref p/\p∈ps) (ltR r) where
 ask:=by
  rintro⟨_,x⟩ ⟨_,y⟩ ⟨p,l,S⟩ ⟨q,t,U⟩ E Q k;dsimp only at l t;subst l t;obtain⟨vs,⟨o,n,I,M,B,hd⟩,hi⟩:=h p S;obtain⟨ws,⟨X,Y,J,G,u,H⟩,hj⟩:=h q U;obtain⟨cls,dd,data,sl⟩:=o;obtain⟨O,dd2,data2,L⟩:=X;simp only at M B hd G u H;subst M B hd G u H;rw[keyLt'_oneType,oneLt'_eq];simp only[if_true];refine jZ (wpAny_cRoomFor R ?_);refine jZ (wpAny_callSpecialIfBound?_slot ⟨_,I,rfl⟩ F.slot_list_lt (mW F.slot_list_lt ⟨_,I,rfl⟩ F.entry_list_lt (F.args_list_lt_2 _ _)
   (HT.GN p q vs.toArray ws.toArray n Y none none sl L (r p) (r q) (by simpa using hi) (by simpa using hj)) ⟨I,J,?_⟩))
  exact kF k
 asym:=by
  rintro⟨_,x⟩ ⟨_,y⟩ ⟨a,l,_⟩ ⟨b,t,_⟩ h;dsimp only at l t;subst l t;exact Ez _ _ h
 trans:=by
  rintro⟨_,x⟩ ⟨_,y⟩ ⟨_,z⟩ ⟨a,l,_⟩ ⟨b,t,_⟩ ⟨c,P,_⟩ h1 h2;dsimp only at l t P;subst l t P;exact Ck _ _ _ h1 h2
section
variable {X:Cx}
def GD:uf X (.builtin "sorted") (λxs H Q=>∃(a:Addr) (ns:Ϝ),xs=[.ref a]/\rJ X.K H a (ns.map V.int)/\∀p,H p=none->Q (.ref p) (qw H p (.lst ((qQ ns).map V.int)))):=by
 intro oH s σ H xs us Q I r h;obtain⟨a,ns,rfl,J,q⟩:=h;obtain⟨u,rfl,L⟩:=wG r;cases L;obtain⟨M,hl,hi,O⟩:=BD I J;obtain⟨P,z⟩:=Ge hi;have B:=hi.length;refine MrS.DT (Pk:=λx=>∃a t,x.1 = .int a t) (lt:=ltI) hl (by lia) (λs' _=>⟨λl Q q=>?_,XO _ _ _ _⟩) (λv m=>z v m) λout E R G S U Y=>?_
 .match M,hi,l with
  | [],_,l=>simp at l
  | [_],_,l=>simp at l
  |v₁::v₂::sU,hi,_=>
   rw[ou hi];exact kf q
 .have n:∀v∈out,∃a t,v = .int a t:=λv m=>z v (G.mem_iff.mp m)
  have e:out.map intOf=qQ ns:=by
   refine G9 (by rw[P];exact G.map _) ?_
   rw[aV];refine S.imp_of_mem λ{x y} mx my h=>?_
   obtain⟨a,t,rfl⟩:=n x mx;obtain⟨b,u,rfl⟩:=n y my;have E:¬ b<a:=of_decide_eq_false h;show a<=b;lia
  have hp:H (s.heap.objs.size+1)=none:=I.hok.fresh (cg _);refine⟨.ref (s.heap.objs.size+1),_,I.laid (t':=s.toks) U (cg _) (show qR X.prog X.w _ E _ (.lst ((qQ ns).map V.int))from ⟨?_,out,R,?_,Y⟩),rfl,q _ hp⟩
  .rw[lMq,(qT ns).length_eq];exact O
  .rw[←e];exact vals_ints n
def Gm(hu:X.A.units+64<lB):uf X (.builtin "sorted") (λxs H Q=>∃(a:Addr) (ps:Δ) (rs:Λ),xs=[.ref a]/\rJ X.K H a (ps.map V.ref)/\qL H ps rs /\
  ∀p B,H p=none->B.Perm ps->qL (qw H p (.lst (B.map V.ref))) B (xS rs)->Q (.ref p) (qw H p (.lst (B.map V.ref)))):=by
 intro oH s σ H xs us Q I r h;obtain⟨a,ps,rs,rfl,hS,Y,q⟩:=h;obtain⟨u,rfl,ru⟩:=wG r;cases ru;obtain⟨L,R,hl,hz⟩:=I.list hS;have ei:=Fz R;subst ei;have M:∀p∈ps,∃G:Ξ,PlainL s.heap p G.toArray/\kK G (Ao H p):=λp t=>by
  obtain⟨L,R,pl,_⟩:=I.list (rJ.of (Y.fn_row t));exact⟨L,pl,AI R⟩
 have z:∀(J:Shared),(∀b o,s.heap.get? b=some o->J.heap.get? b=some o)->∀p∈ps,∃G:Ξ,PlainL J.heap p G.toArray/\kK G (Ao H p):=λJ k p t=>by
  obtain⟨G,⟨o,n,O,sU⟩,hi⟩:=M p t;exact⟨G,⟨o,n,k _ _ O,sU⟩,hi⟩
 refine MrS.DT (Pk:=λx=>∃p,x.1 = .ref p/\p∈ps) (lt:=ltR (Ao H)) hl.isList (by simpa using hz) (λJ k=>⟨λh2 Q q=>?_,aaZ (by show X.A.units+1+1<lB;lia) (z J k)⟩) (λv m=>?_) λout h' n' o1 o2 o3 o4=>?_
 .refine Vf (T:= "list") h2 (λv S=>?_) (by rfl) (by rfl) q
  obtain⟨p,t,rfl⟩:=mMq.mp S;obtain⟨G,pl,_⟩:=z J k p t;intro A Q E s2 k2 q2;obtain⟨o,O,hc,_⟩:=pl.isList;exact oq (T:= "list") ⟨o,k2 _ _ O,hc⟩ q2
 .obtain⟨p,t,rfl⟩:=mMq.mp m;exact⟨p,rfl,t⟩
 .have O:∀v∈out,∃p∈ps,v = .ref p:=λv m=>by
   obtain⟨p,t,rfl⟩:=mMq.mp (o1.mem_iff.mp m);exact⟨p,t,rfl⟩
  have U:out=(out.map B3).map cA:=by
   rw[mPq];have e:=mCq (l:=out) (f:=id) (g:=cA∘B3) λv S=>by
    obtain⟨p,_,rfl⟩:=O v S;rfl
   rw[←e,ij]
  have P:(out.map B3).Perm ps:=by
   have:=o1.map B3;rw[mPq,show B3∘cA=id from rfl,ij]at this
   exact this
  have t:H (s.heap.objs.size+1)=none:=I.hok.fresh (cg _);generalize out.map B3=B at U P;obtain⟨ts,e1,e2,e3⟩:=Y.perm P;have es:ts=xS rs:=by
   refine V8 e2 ?_;rw[e3,aV];rw[U,aV]at o2;exact o2
  refine⟨.ref (s.heap.objs.size+1),_,I.laid (t':=s.toks) o3 (cg _) (show qR X.prog X.w _ h' _ (.lst (B.map V.ref))from ⟨?_,out,n',?_,o4⟩),rfl,q _ B t P (by rw[←es];exact e1.same (uD t))⟩
  .rw[lMq,P.length_eq];simpa using hz
  .rw[U];exact Fx B
def xr(r:Ϝ):PyData:=.list (r.map PyData.int)
def BU(rs:Λ):PyData:=.list (rs.map xr)
theorem CM:∀rs:Λ,PyData.canLayAll0 (rs.map xr)=true
 | []=>by simp[PyData.canLayAll0]
 |r::rs=>by simp[PyData.canLayAll0,xr,PyData.canLay0,W.canLayAll0_ints r,CM rs]
theorem Eh:∀rs:Λ,PyData.depthAll (rs.map xr)<=3
 | []=>by simp[PyData.depthAll]
 |r::rs=>by
  have l:=Eh rs;have n:=W.depthAll_ints r;simp only[au,PyData.depthAll,xr,PyData.depth];lia
def CQ(rs:Λ):SeqAt.shaped (BU rs)=true:=by
 have n:=Eh rs;have l:PyData.depth (BU rs)<=64:=by simp only[BU,PyData.depth];lia
 show(PyData.canLay0 (BU rs) && decide (PyData.depth (BU rs)<=64))=true;rw[fD];exact⟨by simp only[BU,PyData.canLay0];exact CM rs,d0 l⟩
theorem D3:∀rs l:Λ,SeqAt.noMixAll (rs.map xr) (l.map xr)=true
 | [],[]=>by simp[SeqAt.noMixAll]
 | [],_::_=>by simp[SeqAt.noMixAll]
 |_::_,[]=>by simp[SeqAt.noMixAll]
 |r::rs,t::l=>by simp[SeqAt.noMixAll,xr,SeqAt.noMix,W.noMix_ints r t,D3 rs l]
theorem EY:∀rs l:Λ,PySem.Spec.sameAll (rs.map xr) (l.map xr)=decide (rs=l)
 | [],[]=>by simp[PySem.Spec.sameAll]
 | [],_::_=>by simp[PySem.Spec.sameAll]
 |_::_,[]=>by simp[PySem.Spec.sameAll]
 |r::rs,t::l=>by
  simp only[au,PySem.Spec.sameAll,xr,PySem.Spec.same,W.same_ints r t];rw[EY rs l]
  by_cases h:r=t <;> simp[h]
end
end Mr
namespace Mr
open PySem L2
structure Bt (mg:Str->Υ):Prop where
 len:mg "len" = none
 min:mg "min" = none
 max:mg "max" = none
 abs:mg "abs" = none
 all:mg "all" = none
 sorted:mg "sorted" = none
 isi:mg "isinstance" = none
 list:mg "list" = none
 int:mg "int" = none
 bool:mg "bool" = none
 str:mg "str" = none
 dict:mg "dict" = none
 zip:mg "zip" = none
 enum:mg "enumerate" = none
 range:mg "range" = none
 reversed:mg "reversed" = none
structure Fn (P:ku)(w:ky)(K:Ζ)(mg:Str->Υ)(base:Heap)(k:Nat)(x:Str)(st:Stmt)(ps:List Str)(sp:Sp)(f:Addr)(fd:kH):Prop where
 D:xX K mg x st ps f fd
 ok:CT P w K mg base Tw k f fd ps sp
def uW.units65{k:Nat}{A:Around}(r:uW k A):A.units+65<lB:=by have:=r.un;lia
section
variable {X:Cx}{k:Nat}{f:Addr}{fd:kH}{ps:List Str}{sp:Sp}{x:Str}{p pos:Pos}{e:Expr}{es:List Expr}{t:TA}{st:Stmt}
def Z0(G:Fn X.prog X.w X.K X.mg X.base k x st ps sp f fd)(hr:uW k X.A)(ha:PA X (e::es) t)(s:Gl X x:=by rfl)(l:(x == ("__debug__" : Str))=false:=by decide)
  (u:kA (e::es) X.env=(false,eval e X.env)::kA es X.env:=by rfl) (n:(mK pos (kA es X.env)).any (·.1)=false:=by rfl) :
  PE X (.Call (.Name x p) (e::es) [] pos) (FR sp [] E0 t):=Vl G.ok hr s G.D.m G.D.F.kp G.D.b .nil ZQ ha l u n
end
section
variable (K:Ζ)
def LD:Sp:=λvs H Q _=>∃(a:Addr) (ns:Ϝ),vs=[.ref a]/\rJ K H a (ns.map V.int)/\ns.length<=63/\∀l,Q (.bl true) l
end
def qf{α:Type}{l:List α}{i:Nat}{x:α}(h:l[i]?=some x):l.take (i+1)=l.take i++[x]:=by
 rw[bF,h];rfl
end Mr
namespace Xe
open PySem PySem.Spec PySem.W PyProof.Rows L2 Mr
abbrev St:=L2.St
abbrev lk0(K:Frag)(C:Addr):Bool:=findIn K (.ref C) "__setattr__" == some (some (.builtin "object.__setattr__")) && findIn K (.ref C) "__getattribute__" == some (some (.builtin "BaseException.__getattribute__")) &&
 findIn K (.ref C) "__getattr__" == some none && findIn K (.ref C) "__class__" == some (some (.builtin "object.__class__"))
def Xx(K:Frag)(c:Str)(C:Addr)(s:Ξ):Bool:=match K.lookup C with
 |some ⟨.type "type", _,.cls l,sl⟩=>(match sl.toList with
  | [_,_,_,_,some (.builtin n),_]=>l.name == c && l.mro == .ref C::s && n == "ValueError.__new__" && !l.hasDel && l.hasDict && tailIn K VEm s
  |_=>false)
 |_=>false
structure Ref (K:Frag)(c:Str)(C M:Addr):Prop where
 nm:nsIn K kx c=some (some (.ref C))
 nmM:nsIn K kx "MapError" = some (some (.ref M))
 xc:Xx K c C (.ref M::VEm)=true
 xm:Xx K "MapError" M VEm=true
 lk:lk0 K C=true
def IsC(K:Frag)(c:Str)(C:Addr):Prop:=nsIn K kx c=some (some (.ref C))/\((∃M,Ref K c C M)∨(c = "MapError" /\ Xx K "MapError" C VEm=true))
def ExA(e C:Addr)(l:Option Addr):HO:=.ext λh=>∃o vs,h.get? e=some o/\o.cls = .ref C/\o.dict=l/\o.data = .fields vs
section
variable {X:Cx}
def Xt{kvs:List (pI×V)}{vs:List (pI×Value)}(r:KV kvs vs):∀{i:Nat}{p:pI×V},kvs[i]?=some p->∃u,vs[i]?=some (p.1,u)/\qr p.2 u:=by
 induction r with
 |nil=>intro i p h;simp at h
 | @cons a b _ _ r t l=>
  intro i p h;cases i with
  |zero=>simp at h;subst h;exact⟨b.2,by simp[r.1],r.2⟩
  |succ i=>obtain⟨u,n,g2⟩:=l (by simpa using h);exact⟨u,by simpa using n,g2⟩
end
end Xe
namespace Mr
open PySem PyProof.Rows L2
section
variable {X:Cx}
def Qy(_ j:Int):Prop:=0<j/\j.natAbs.log2<9000
def OB:BZ X (mJ .FloorDiv) (rI Qy λi j=>.int (i / j)):=opI λi j _ _ _ _ _ l q=>by
 have n:(0:Int)<j:=l.1;exact floordiv_int (by lia) (by rw[hZ i (by lia)];exact q) (.inl (PyProof.noPylong_of_log2 l.2))
end
end Mr
namespace Mr
open PySem PySem.Calls PySem.Spec PyProof.Rows L2
section
variable {X:Cx}
def WU(K:Ζ)(x:V)(H:Hp)(T:String):Prop:=match x with
 | .int _=>T = "list" ∨ T = "tuple" ∨ T = "str"
 | .str _=>T = "list" ∨ T = "tuple"
 | .non=>T = "list" ∨ T = "tuple"
 | .ref p=>(T = "tuple" /\ ∃xs,rJ K H p xs)∨(T = "list" /\ ∃xs,C5 K H p xs)
 |_=>False
def Qt:uf X (.builtin "isinstance") (λxs H Q=>∃x T,xs=[x,.ty T]/\WU X.K x H T/\Q (.bl false) H):=by
 intro l s σ H xs O Q I r h;obtain⟨x,T,rfl,e,q⟩:=h;obtain⟨u,v,rfl,n,E⟩:=QJ r;cases E;cases x with
 |int i=>
  obtain⟨t,rfl⟩:=n;rcases e with rfl|rfl|rfl
  .exact kB (mq (by trivial) F.isi_meta_list F.sub_int_list) (show EP X l σ Q (.bool false) { s with toks:=s.toks+1 } from ⟨.bl false,H,I.tok _,rfl,q⟩)
  .exact kB (mq (by trivial) F.isi_meta_tuple F.sub_int_tuple) (show EP X l σ Q (.bool false) { s with toks:=s.toks+1 } from ⟨.bl false,H,I.tok _,rfl,q⟩)
  .exact kB (mq (by trivial) F.isi_meta_str F.sub_int_str) (show EP X l σ Q (.bool false) { s with toks:=s.toks+1 } from ⟨.bl false,H,I.tok _,rfl,q⟩)
 |str i=>
  obtain⟨t,rfl⟩:=n;rcases e with rfl|rfl
  .exact kB (nY (by trivial) F.isi_meta_list F.sub_str_list) (show EP X l σ Q (.bool false) { s with toks:=s.toks+1 } from ⟨.bl false,H,I.tok _,rfl,q⟩)
  .exact kB (nY (by trivial) F.isi_meta_tuple F.sub_str_tuple) (show EP X l σ Q (.bool false) { s with toks:=s.toks+1 } from ⟨.bl false,H,I.tok _,rfl,q⟩)
 |non=>
  cases n;rcases e with rfl|rfl
  .exact kB (nJ (by trivial) F.isi_meta_list F.sub_NoneType_list) (show EP X l σ Q (.bool false) { s with toks:=s.toks+1 } from ⟨.bl false,H,I.tok _,rfl,q⟩)
  .exact kB (nJ (by trivial) F.isi_meta_tuple F.sub_NoneType_tuple) (show EP X l σ Q (.bool false) { s with toks:=s.toks+1 } from ⟨.bl false,H,I.tok _,rfl,q⟩)
 |ref p=>
  cases n;rcases e with⟨rfl,xs,z⟩|⟨rfl,xs,z⟩
  .obtain⟨B,G,pl,J⟩:=I.list z;exact kB (isinstance_false_list (by trivial) F.isi_meta_tuple F.sub_list_tuple) ⟨pl.isList.typeIs,⟨.bl false,H,I.tok _,rfl,q⟩⟩
  .obtain⟨B,G,⟨o,L,M,_⟩,J⟩:=I.tuple z;exact kB (isinstance_false_tuple (by trivial) F.isi_meta_list F.sub_tuple_list) ⟨⟨o,L,M⟩,⟨.bl false,H,I.tok _,rfl,q⟩⟩
 |_=>exact(show False from e).elim
end
end Mr
namespace MrS
open PySem PySem.W PyProof.Rows
section
variable {prog:ku}{w:ky}{A:Around}{E:Ψ}{s:Shared}{Pk:ke->Prop}{lt:ke->ke->Bool}{T:String}{r d:Addr}{n:Nat}{P:Nat->Value->Prop}{OK:Heap->Prop}
def Ie{Q:Ξ->Shared->Prop}(K:KdlSrc prog w T r d n P OK)(hh:A.handled=none)(hok:OK s.heap)(hn:n<=kr)
  (h:∀h' u (l:Ω),(∀b o,s.heap.get? b=some o->h'.get? b=some o)->s.heap.objs.size<h'.objs.size->ItemsOf P l n->Q l.toList { s with heap:=h',toks:=u }) :
  ki (kj prog w) A (collect (.ref r)) Q E s:=by
 unfold collect;refine jZ (nP (kL nZ ?_));show ki _ _ (do again (.builtin "list.__iadd__" ⟨[←nq [],.ref r],[]⟩)) _ _ s
 refine jZ (mw (kf ⟨Code.quiet_builtin _ (by trivial),kL entry_list_iadd' ?_⟩))
 show ki _ _ (Builtin.List.listExtendWith (.ref s.heap.objs.size) (.ref r) (.ref s.heap.objs.size)) _ _ { s with heap:=s.heap.push (kC "list" #[] 0) }
 have t:=K.there _ hok;have x:(s.heap.push (kC "list" #[] 0)).get? s.heap.objs.size=some (kC "list" #[] 0):=aH _ rfl;refine kdl_extend (A:=A) (R:=λr B=>match r with
   | .ok (.ret v)=>ki (kj prog w) A (match v with
    | .ref a=>do
     let o ←load a
     match o.data with
     | .seq z _=>pure z.toList
     |_=>lC "internal:collect"
    |_=>lC "internal:collect") Q E B
   | .ok _=>False
   | .error e=>E e B) (s:={ s with heap:=s.heap.push (kC "list" #[] 0) }) K hh (K.keep _ _ hok λb _ o e=>ah _ e) s.heap.objs.size (eI t.1) (eI t.2) (.ref s.heap.objs.size) 0 x (λh' u l c hk G hi=>?_) hn
 show ki (kj prog w) A (do
   let o ←load s.heap.objs.size
   match o.data with
   | .seq z _=>pure z.toList
   |_=>lC "internal:collect") Q E { s with heap:=h',toks:=u }
 refine jZ (wpAny_load G ?_);exact kf (h h' u l (λb o e=>hk b o (aD (ao e)) (ah _ e)) (ao G) hi)
def KN{Q:Ψ}(K:KdlSrc prog w T r d n P OK)(hh:A.handled=none)(hok:OK s.heap)(hn:n<=kr)
  (U:∀(vs:Ξ),vs.length=n->(∀j v,vs[j]?=some v->P j v)->∀M:Shared,(2<=vs.length->∀Q:kR->Shared->Prop,Q mi M->ki (kj prog w) A.in1.in1 (oh vs.toArray) Q E M)/\zY prog w A.in1.in1 M mi Pk lt/\∀v∈vs,Pk (v,v))
  (h:∀(vs out:Ξ) (h':Heap) (p:Addr) (H X:Nat),vs.length=n->(∀j v,vs[j]?=some v->P j v)->out.Perm vs->out.Pairwise (λx y=>lt (y,y) (x,x)=false)->(∀b o,s.heap.get? b=some o->h'.get? b=some o)->s.heap.objs.size<=p ->
   h'.get? p=some (kC "list" out.toArray X)->Q (.ref p) { s with heap:=h',toks:=H }) :
  ki (kj prog w) A (call (.builtin "sorted") [.ref r]) Q E s:=by
 refine Calls.call_function_entry oC ot ox (oy _) ?_;unfold Builtin.«sorted»;refine jZ (m:=checkCount "sorted" 1 1 _) (kf ?_);refine jZ (Ie K hh hok hn λu H t I z hi=>?_)
 have hl:t.toList.length=n:=by rw[aq];exact hi.1
 have O:∀j v,t.toList[j]?=some v->P j v:=λj v e=>hi.2 j v (by rw[←aw];exact e)
 have hs:t.toList.length<=kr:=by rw[hl];exact hn
 generalize t.toList=vs at hl O hs;refine jZ (mw ?_ hs);have l:(u.push (kC "list" vs.toArray 0)).get? u.objs.size=some (kC "list" vs.toArray 0):=aH _ rfl;show ki _ _ _ _ _ { s with heap:=u.push (kC "list" vs.toArray 0),toks:=H }
 have J:s.heap.objs.size<=u.objs.size:=cC z;have S:∀b o,s.heap.get? b=some o->(u.push (kC "list" vs.toArray 0)).get? b=some o:=λb o e=>ah _ (I b o e)
 have B:∀b o,s.heap.get? b=some o->b≠u.objs.size:=λb o e=>aD (ao (I b o e))
 generalize u.push (kC "list" vs.toArray 0)=G at l S ⊢
 clear z
 generalize u.objs.size=p at l J B ⊢;have Y:∀b o,s.heap.get? b=some o->(tE G p vs).get? b=some o:=λb o e=>by
  refine ah _ (ah _ ?_);rw[de _ _ _ _ (B b o e)];exact S b o e
 obtain⟨q1,q2,q3⟩:=U vs hl O { s with heap:=tE G p vs,toks:=H }
 refine jZ (lu (kN nQ ⟨_,l,rfl⟩ nB (xl (s:={ s with heap:=G,toks:=H }) (Pk:=Pk) (lt:=lt) l hs q1 q2 (λx hx=>?_) λL a1 a2=>⟨_,rfl,?_⟩) (nT _)))
 .obtain⟨m1,m2⟩:=uZ hx;have:x=(x.1,x.1):=jd rfl m2;rw[this];exact q3 _ m1
 .obtain⟨v1,v2⟩:=zI a1 a2;obtain⟨e1,R⟩:=Gw vs l;obtain⟨n1,g1⟩:=Gj (L.map (·.2)) R;refine kf ⟨_,rfl,h vs _ (mL G p vs (L.map (·.2))) p H n1 hl O v1 v2 (λb o e=>?_) J ?_⟩
  .unfold mL;rw[de _ _ _ _ (B b o e)];exact Y b o e
  .rw[show(L.map (·.2)).toList.toArray=L.map (·.2)from gK]
   exact g1
end
end MrS
namespace Mr
open PySem PySem.W PySem.Spec PyProof.Rows L2
section
variable {X:Cx}
theorem C3:∀{l:Ξ}{ns:Ϝ},l.length=ns.length->(∀(j:Nat) (v:Value) (n:Int),l[j]?=some v->ns[j]?=some n->∃t,v=fY n t)->kK l ns
 | [],[],_,_=>.nil
 | [],_::_,h,_=>by simp at h
 |_::_,[],h,_=>by simp at h
 |u::l,n::ns,h,g=>by
  obtain⟨t,rfl⟩:=g 0 u n rfl rfl;exact .cons n t (C3 (by simpa using h) λj v m s x=>g (j+1) v m (by simpa using s) (by simpa using x))
def Td:∀{kvs:List (pI×V)}{ws:List (pI×Value)},KV kvs ws->kvs.map (·.1)=ws.map (·.1):=λ{kvs ws} r=>by
 induction r with
 |nil=>rfl
 |cons a b l=>rw[au,au,l,a.1]
def G4(hc:X.calm=true):uf X (.builtin "sorted") (λxs H Q=>∃(a:Addr) (kvs:List (pI×V)) (ns:Ϝ),xs=[.ref a]/\H a=some (.dK kvs)/\kvs.map (·.1)=ns.map aA/\∀p,H p=none->Q (.ref p) (qw H p (.lst ((qQ ns).map V.int)))):=by
 intro oH s σ H xs l Q I r h;obtain⟨a,kvs,ns,rfl,ha,hk,q⟩:=h;obtain⟨u,rfl,ru⟩:=wG r;cases ru;obtain⟨R,sa,B,kv,d⟩:=(show qR X.prog X.w H s.heap a (.dK kvs)from I.hok a _ ha)
 obtain⟨ep,da⟩:=d.dictAt;have hl:=Paired.length kv;have n:ns.length=B.length:=by
  have:=congrArg bV hk;rw[lMq,lMq]at this;rw[←this,hl]
 have L:B.map (·.1)=ns.map aA:=by rw[←Td kv,hk]
 have M:∀l:Ξ,l.length=B.length->(∀(j:Nat) (v:Value),l[j]?=some v->∃k x,B[j]?=some (k,x)/\(qE X.prog X.w).is k v=true)->kK l ns:=λl E G=>C3 (by rw[E,n]) λj v m e1 e2=>by
  obtain⟨k,x,g1,g2⟩:=G j v e1;have S:(B.map (·.1))[j]?=some k:=by rw[gMq,g1];rfl
  rw[L,gMq,e2]at S;have e4:(aA m:pI)=k:=by simpa using S
  subst e4;rcases qA (k:=aA m) (v:=v) g2 with⟨i,t,O,e6⟩|⟨z,t,O,_⟩
  .cases O;exact⟨t,e6⟩
  .cases O
 refine MrS.KN (kdl_dict (knd:=qE X.prog X.w) (d:=a) (kvs:=B) (ep:=ep) sa) (I.ok.hd hc) da (by rw[←hl];exact R) (Pk:=λx:ke=>∃a t,x.1=fY a t) (lt:=ltI) (λl E G s'=>⟨λJ Q q=>?_,XO _ _ _ _,λv m=>(Ge (M l E G)).2 v m⟩) λl out U p tk n' E G Y o2 o3 op o4=>?_
 .have hi:=M l E G
  match l,hi,J with
  | [],_,J=>simp at J
  | [_],_,J=>simp at J
  |v₁::v₂::sU,hi,_=>
   rw[ou hi];exact kf q
 .obtain⟨en,hv⟩:=Ge (M l E G);have P:∀v∈out,∃a t,v = .int a t:=λv m=>hv v (Y.mem_iff.mp m)
  have e:out.map intOf=qQ ns:=by
   refine G9 (by rw[en];exact Y.map _) ?_
   rw[aV];refine o2.imp_of_mem λ{x y} mx my h=>?_
   obtain⟨a,t,rfl⟩:=P x mx;obtain⟨b,u,rfl⟩:=P y my;have U:¬ b<a:=of_decide_eq_false h;show a<=b;lia
  have hp:H p=none:=I.hok.fresh op;refine⟨.ref p,_,I.laid (t':=tk) o3 op (show qR X.prog X.w _ U _ (.lst ((qQ ns).map V.int))from ⟨?_,out,n',?_,o4⟩),rfl,q _ hp⟩
  .rw[lMq,(qT ns).length_eq,n,←hl];exact R
  .rw[←e];exact vals_ints P
end
end Mr
namespace Z
open PySem L2 Mr
abbrev St:=L2.St
inductive D where
 |non|bl (b:Bool)|int (i:Int)|str (x:Str)|ty (n:String)|list (xs:List D)|tup (xs:List D)|dict (kvs:List (pI×D))|scr (ns:Ϝ)|exc (c:Str) (fs:List (Str×Int))|cls (c:Str)|fd (kvs:List (pI×D))|ins (c:Str) (fs:List (Str×D))
inductive rp (K:Ζ)(H:Hp):D->V->Prop
 |non:rp K H .non .non
 |bl {b:Bool}:rp K H (.bl b) (.bl b)
 |int {i:Int}:rp K H (.int i) (.int i)
 |str {x:Str}:rp K H (.str x) (.str x)
 |ty {n:String}:rp K H (.ty n) (.ty n)
 |list {p:Addr}{vs:List V}{ds:List D}(h:H p=some (.lst vs)) (l:ds.length=vs.length) (e:∀(i:Nat) (d:D) (v:V),ds[i]?=some d->vs[i]?=some v->rp K H d v):rp K H (.list ds) (.ref p)
 |tup {p:Addr}{vs:List V}{ds:List D}(h:H p=some (.tup vs)) (l:ds.length=vs.length) (e:∀(i:Nat) (d:D) (v:V),ds[i]?=some d->vs[i]?=some v->rp K H d v):rp K H (.tup ds) (.ref p)
 |dict {p:Addr}{kvs:List (pI×V)}{ds:List (pI×D)}(h:H p=some (.dK kvs)) (l:ds.map (·.1)=kvs.map (·.1)) (e:∀(i:Nat) (d:pI×D) (v:pI×V),ds[i]?=some d->kvs[i]?=some v->rp K H d.2 v.2):rp K H (.dict ds) (.ref p)
 |scr {p:Addr}{ns:Ϝ}(h:rJ K H p (ns.map V.int)):rp K H (.scr ns) (.ref p)
 |exc {c:Str}{fs:List (Str×Int)}{e C M dx:Addr}(rf:Xe.Ref K c C M) (nf:∀p∈fs,W.findIn K (.ref C) p.1=some none) (h:H e=some (Xe.ExA e C (some dx))) (hx:H dx=some (.xd (fs.map λp=>(p.1,V.int p.2)))):rp K H (.exc c fs) (.ref e)
 |exc0 {c:Str}{e C M:Addr}(rf:Xe.Ref K c C M) (h:H e=some (Xe.ExA e C none)):rp K H (.exc c []) (.ref e)
 |cls {c:Str}{C:Addr}(h:Xe.IsC K c C):rp K H (.cls c) (.ref C)
 |fd {p:Addr}{o:Obj}{kvs:List (pI×V)}{ds:List (pI×D)}(h:H p=some (.frz o (.dK kvs))) (l:ds.map (·.1)=kvs.map (·.1)) (e:∀(i:Nat) (d:pI×D) (v:pI×V),ds[i]?=some d->kvs[i]?=some v->rp K H d.2 v.2):rp K H (.fd ds) (.ref p)
 |ins {c:Str}{a C dx:Addr}{gs:List (Str×V)}{fs:List (Str×D)}(rf:W.nsIn K kx c=some (some (.ref C))) (h:H a=some (.ins C dx gs)) (l:fs.map (·.1)=gs.map (·.1)) (e:∀(i:Nat) (d:Str×D) (v:Str×V),fs[i]?=some d->gs[i]?=some v->rp K H d.2 v.2):rp K H (.ins c fs) (.ref a)
def qk(K:Ζ)(H:Hp)(ds:List D)(vs:List V):Prop:=ds.length=vs.length/\∀(i:Nat) (d:D) (v:V),ds[i]?=some d->vs[i]?=some v->rp K H d v
def uF(K:Ζ)(H:Hp)(ds:List (pI×D))(kvs:List (pI×V)):Prop:=ds.map (·.1)=kvs.map (·.1)/\∀(i:Nat) (d:pI×D) (v:pI×V),ds[i]?=some d->kvs[i]?=some v->rp K H d.2 v.2
section
variable {K:Ζ}{H H':Hp}
def rp.mono{d:D}{v:V}(h:rp K H d v)(s:pX H H'):rp K H' d v:=by
 induction h with
 |non=>exact .non
 |bl=>exact .bl
 |int=>exact .int
 |str=>exact .str
 |ty=>exact .ty
 |list h l _ n=>exact .list (s _ _ h) l n
 |tup h l _ n=>exact .tup (s _ _ h) l n
 |dict h l _ n=>exact .dict (s _ _ h) l n
 |scr h=>exact .scr (s.seq h)
 |exc t u h x=>exact .exc t u (s _ _ h) (s _ _ x)
 |exc0 t h=>exact .exc0 t (s _ _ h)
 |cls h=>exact .cls h
 |fd h l _ n=>exact .fd (s _ _ h) l n
 |ins t h l _ n=>exact .ins t (s _ _ h) l n
theorem qk.mono{ds:List D}{vs:List V}(h:qk K H ds vs)(s:pX H H'):qk K H' ds vs:=⟨h.1,λi d v a b=>(h.2 i d v a b).mono s⟩
theorem uF.mono{ds:List (pI×D)}{vs:List (pI×V)}(h:uF K H ds vs)(s:pX H H'):uF K H' ds vs:=⟨h.1,λi d v a b=>(h.2 i d v a b).mono s⟩
def qk.nil:qk K H [] []:=⟨rfl,λi d v a=>by simp at a⟩
def qk.cons{d:D}{v:V}{ds:List D}{vs:List V}(h:rp K H d v)(t:qk K H ds vs):qk K H (d::ds) (v::vs):=⟨by simp[t.1],λi e w a b=>by
 cases i with
 |zero=>
  simp at a b;subst a b;exact h
 |succ i=>exact t.2 i e w (by simpa using a) (by simpa using b)⟩
def qk.cons_iff{d:D}{v:V}{ds:List D}{vs:List V}:qk K H (d::ds) (v::vs)↔rp K H d v/\qk K H ds vs:=
 ⟨λh=>⟨h.2 0 d v rfl rfl,by have:=h.1;simpa using this,λi e w a b=>h.2 (i+1) e w (by simpa using a) (by simpa using b)⟩,λh=>.cons h.1 h.2⟩
def qk.nil_inv{vs:List V}(h:qk K H [] vs):vs=[]:=by
 have:=h.1;cases vs with
 |nil=>rfl
 |cons _ _=>simp at this
def qk.cons_inv{d:D}{ds:List D}{vs:List V}(h:qk K H (d::ds) vs):∃v ws,vs=v::ws/\rp K H d v/\qk K H ds ws:=by
 cases vs with
 |nil=>have:=h.1;simp at this
 |cons v ws=>exact⟨v,ws,rfl,qk.cons_iff.mp h⟩
theorem qk.append:∀{ds es:List D}{vs ws:List V},qk K H ds vs->qk K H es ws->qk K H (ds++es) (vs++ws)
 | [],es,vs,ws,h,g=>by rw[h.nil_inv];exact g
 |d::ds,es,vs,ws,h,g=>by
  obtain⟨v,s,rfl,l,n⟩:=h.cons_inv;exact .cons l (qk.append n g)
theorem qk.take{ds:List D}{vs:List V}(h:qk K H ds vs)(n:Nat):qk K H (ds.take n) (vs.take n):=⟨by rw[lTq,lTq,h.1],λi d v a b=>by
 rw[hV]at a b;split at a
 .rename_i hi;rw[pH hi]at b;exact h.2 i d v a b
 .cases a⟩
theorem qk.drop{ds:List D}{vs:List V}(h:qk K H ds vs)(n:Nat):qk K H (ds.drop n) (vs.drop n):=⟨by rw[aQ,aQ,h.1],λi d v a b=>by
 rw[cf]at a b;exact h.2 _ d v a b⟩
def qk.get{ds:List D}{vs:List V}(h:qk K H ds vs){i:Nat}{d:D}(e:ds[i]?=some d):∃v,vs[i]?=some v/\rp K H d v:=by
 have hi:i<ds.length:=(gSq.mp e).1;have l:i<vs.length:=h.1 ▸ hi;exact⟨vs[i],gEg l,h.2 i d _ e (gEg l)⟩
def qk.get'{ds:List D}{vs:List V}(h:qk K H ds vs){i:Nat}{v:V}(e:vs[i]?=some v):∃d,ds[i]?=some d/\rp K H d v:=by
 have hi:i<vs.length:=(gSq.mp e).1;have l:i<ds.length:=h.1.symm ▸ hi;exact⟨ds[i],gEg l,h.2 i _ v (gEg l) e⟩
def rp.list_inv{ds:List D}{v:V}(h:rp K H (.list ds) v):∃p vs,v = .ref p/\H p=some (.lst vs)/\qk K H ds vs:=by
 cases h with
 |list h l e=>exact⟨_,_,rfl,h,l,e⟩
def rp.tup_inv{ds:List D}{v:V}(h:rp K H (.tup ds) v):∃p vs,v = .ref p/\H p=some (.tup vs)/\qk K H ds vs:=by
 cases h with
 |tup h l e=>exact⟨_,_,rfl,h,l,e⟩
def rp.dict_inv{ds:List (pI×D)}{v:V}(h:rp K H (.dict ds) v):∃p kvs,v = .ref p/\H p=some (.dK kvs)/\uF K H ds kvs:=by
 cases h with
 |dict h l e=>exact⟨_,_,rfl,h,l,e⟩
def rp.mk_list{ds:List D}{p:Addr}{vs:List V}(h:H p=some (.lst vs))(r:qk K H ds vs):rp K H (.list ds) (.ref p):=.list h r.1 r.2
def rp.mk_tup{ds:List D}{p:Addr}{vs:List V}(h:H p=some (.tup vs))(r:qk K H ds vs):rp K H (.tup ds) (.ref p):=.tup h r.1 r.2
def rp.mk_dict{ds:List (pI×D)}{p:Addr}{vs:List (pI×V)}(h:H p=some (.dK vs))(r:uF K H ds vs):rp K H (.dict ds) (.ref p):=.dict h r.1 r.2
end
def D.scal:D->Bool
 | .non=>true
 | .bl _=>true
 | .int _=>true
 | .str _=>true
 | .ty _=>true
 |_=>false
theorem rp.scal{K:Ζ}{H l:Hp}{d:D}{v:V}(h:rp K H d v)(s:d.scal=true):rp K l d v:=by
 cases h with
 |non=>exact .non
 |bl=>exact .bl
 |int=>exact .int
 |str=>exact .str
 |ty=>exact .ty
 |_=>cases s
inductive AV where
 |sh (d:D)|ow (avs:List AV)|owd (kvs:List (pI×D))|owl (kvs:List (pI×Ϝ))
abbrev i3(x:Int):Option AV:=some (.sh (.int x))
abbrev i4(x:List D):Option AV:=some (.sh (.list x))
abbrev i5(x:Bool):Option AV:=some (.sh (.bl x))
mutual
def oP:AV->D
 | .sh d=>d
 | .ow l=>.list (D4 l)
 | .owd kvs=>.dict kvs
 | .owl kvs=>.dict (kvs.map λx=>(x.1,.list (x.2.map .int)))
def D4:List AV->List D
 | []=>[]
 |a::as=>oP a::D4 as
end
theorem E6:∀l:List AV,D4 l=l.map oP
 | []=>by simp[D4]
 |a::as=>by simp[D4,E6 as]
@[simp] theorem pW (d:D):oP (.sh d)=d:=by simp[oP]
@[simp] theorem qX (l:List AV):oP (.ow l) = .list (l.map oP):=by simp[oP,E6]
@[simp] theorem zK (kvs:List (pI×D)):oP (.owd kvs) = .dict kvs:=by simp[oP]
def Fh(kvs:List (pI×Ϝ)):oP (.owl kvs) = .dict (kvs.map λx=>(x.1,.list (x.2.map .int))):=by simp[oP]
inductive pV (K:Ζ)(Hf H:Hp):AV->V->Δ->Prop
 |sh {d:D}{v:V}(r:rp K Hf d v):pV K Hf H (.sh d) v []
 |ow {p:Addr}{vs:List V}{avs:List AV}{Fs:List Δ}(h:H p=some (.lst vs)) (n:Hf p=none) (l:avs.length=vs.length) (lf:avs.length=Fs.length)
   (e:∀(i:Nat) (a:AV) (v:V) (F:Δ),avs[i]?=some a->vs[i]?=some v->Fs[i]?=some F->pV K Hf H a v F):pV K Hf H (.ow avs) (.ref p) (p::Fs.flatten)
 |owd {p:Addr}{kvs:List (pI×V)}{ds:List (pI×D)}(h:H p=some (.dK kvs)) (n:Hf p=none) (r:uF K Hf ds kvs):pV K Hf H (.owd ds) (.ref p) [p]
 |owl {p:Addr}{kvs:List (pI×Ϝ)}{qs:Δ}(h:H p=some (.dK (gS (λx q=>(x.1,V.ref q)) kvs qs))) (n:Hf p=none) (l:kvs.length=qs.length) (e:∀(i:Nat) (q:Addr) (x:pI×Ϝ),qs[i]?=some q->kvs[i]?=some x->H q=some (.lst (x.2.map V.int))/\Hf q=none):pV K Hf H (.owl kvs) (.ref p) (p::qs)
def Lz{K:Ζ}{H:Hp}{p:Addr}{kvs:List (pI×Ϝ)}{u:Δ}(h:H p=some (.dK (gS (λx q=>(x.1,V.ref q)) kvs u)))(l:kvs.length=u.length)(e:∀(i:Nat) (q:Addr) (x:pI×Ϝ),u[i]?=some q->kvs[i]?=some x->H q=some (.lst (x.2.map V.int))):rp K H (.dict (kvs.map λx=>(x.1,.list (x.2.map .int)))) (.ref p):=by
 refine .dict h ?_ λi d v s n=>?_
 .refine cV λi=>?_
  rw[gMq,gMq,gMq,gD]
  by_cases c:i<kvs.length
  .rw[gEg c,gEg (l ▸ c)];rfl
  .rw[bo (iB c)];rfl
 .rw[gMq]at s;rw[gD]at n;cases hk:kvs[i]? with
  |none=>rw[hk]at s;cases s
  |some x=>
   cases z:u[i]? with
   |none=>rw[hk,z]at n;cases n
   |some q=>
    rw[hk]at s n;rw[z]at n;cases s;cases n;refine .list (e i q x z hk) (by rw[lMq,lMq]) λj d v t B=>?_
    rw[gMq]at t B;cases E:x.2[j]? with
    |none=>rw[E]at t;cases t
    |some m=>
     rw[E]at t B;cases t;cases B;exact .int
def Xy{kvs:List (pI×Ϝ)}{n:Δ}(l:kvs.length=n.length){q:Addr}(s:q∈n):∃(i:Nat) (x:pI×Ϝ),n[i]?=some q/\kvs[i]?=some x:=by
 obtain⟨i,hi⟩:=ay.mp s;have hl:=(gSq.mp hi).1;exact⟨i,_,hi,gEg (l ▸ hl)⟩
section
variable {K:Ζ}{Hf Hf' H H':Hp}{av:AV}{v:V}{F:Δ}
def pV.owned(h:pV K Hf H av v F):∀q∈F,H q≠none/\Hf q=none:=by
 induction h with
 |sh _=>intro q s;cases s
 | @ow p u t B h n l lf e E=>
  intro q s;rcases ae.mp s with rfl|s
  .exact⟨by rw[h];simp,n⟩
  .obtain⟨F,G,s⟩:=mFq.mp s;obtain⟨i,hi,rfl⟩:=cP.mp G;exact E i t[i] u[i] B[i] (by simp) (by simp) (by simp) q s
 |owd h n r=>
  intro q s;have:=mSq.mp s;subst this;exact⟨by rw[h];simp,n⟩
 |owl h n l e=>
  intro q s;rcases ae.mp s with z|z
  .rw[z];exact⟨by rw[h];simp,n⟩
  .obtain⟨i,x,I,J⟩:=Xy l z;obtain⟨L,M⟩:=e i q x I J;exact⟨by rw[L];simp,M⟩
def pV.keep(h:pV K Hf H av v F)(s:pX Hf Hf')(hk:∀q∈F,H' q=H q)(hn:∀q∈F,Hf' q=none):pV K Hf' H' av v F:=by
 induction h with
 |sh r=>exact .sh (r.mono s)
 | @ow p L E M h n l lf e G=>
  refine .ow (by rw[hk p (by simp)];exact h) (hn p (by simp)) l lf λi a v F t u z=>G i a v F t u z (λq B=>hk q ?_) λq B=>hn q ?_
  all_goals exact mCo _ (mFq.mpr ⟨F,mGq z,B⟩)
 |owd h n r=>exact .owd (by rw[hk _ (by simp)];exact h) (hn _ (by simp)) (r.mono s)
 | @owl p I J h n l e=>
  refine .owl (by rw[hk _ (ai ..)];exact h) (hn _ (ai ..)) l λi q x t u=>?_
  have m:q∈p::J:=mCo _ (mGq t);exact⟨by rw[hk q m];exact(e i q x t u).1,hn q m⟩
def pV.rep(h:pV K Hf H av v F)(s:pX Hf H):rp K H (oP av) v:=by
 induction h with
 |sh r=>rw[pW];exact r.mono s
 | @ow p I z E h n l lf e G=>
  rw[qX];refine .list h (by simp[l]) λi d v t B=>?_
  rw[gMq]at t;cases u:z[i]? with
  |none=>rw[u]at t;cases t
  |some a=>
   rw[u]at t;cases t;have hi:i<E.length:=lf ▸ (gSq.mp u).1;exact G i a v E[i] u B (gEg hi)
 |owd h n r=>rw[zK];exact .mk_dict h (r.mono s)
 |owl h n l e=>rw[Fh];exact Lz h l λi q x t B=>(e i q x t B).1
def frz(Hf H:Hp)(F:Δ):Hp:=λb=>if b∈F then H b else Hf b
def B9{b:Addr}(h:b∈F):frz Hf H F b=H b:=pH h
def uS{b:Addr}(h:b∉F):frz Hf H F b=Hf b:=pE h
def sS(h:∀q∈F,Hf q=none):pX Hf (frz Hf H F):=λb o e=>by
 rw[uS λm=>by rw[h b m]at e;cases e]
 exact e
def Tc(s:pX Hf H):pX (frz Hf H F) H:=λb o e=>by
 by_cases m:b∈F
 .rw[B9 m]at e;exact e
 .rw[uS m]at e;exact s b o e
def pV.frozen(h:pV K Hf H av v F)(s:pX Hf Hf')(hk:∀q∈F,Hf' q=H q):rp K Hf' (oP av) v:=by
 induction h with
 |sh r=>rw[pW];exact r.mono s
 | @ow p J z B h n l lf e G=>
  rw[qX];refine .list (by rw[hk p (by simp)];exact h) (by simp[l]) λi d v t E=>?_
  rw[gMq]at t;cases u:z[i]? with
  |none=>rw[u]at t;cases t
  |some a=>
   rw[u]at t;cases t;have hi:i<B.length:=lf ▸ (gSq.mp u).1;exact G i a v B[i] u E (gEg hi) λq I=>hk q (mCo _ (mFq.mpr ⟨B[i],gRq hi,I⟩))
 |owd h n r=>rw[zK];exact .mk_dict (by rw[hk _ (by simp)];exact h) (r.mono s)
 |owl h n l e=>rw[Fh];exact Lz (by rw[hk _ (ai ..)];exact h) l λi q x t E=>by rw[hk q (mCo _ (mGq t))];exact(e i q x t E).1
end
abbrev AS:=List (Option AV)
structure pZ (K:Ζ)(H₀ Hf₀ Hf:Hp)(S:AS)(σ:St)(H:Hp)(Fs:List Δ):Prop where
 len:S.length=σ.length
 lenF:Fs.length=S.length
 rep:∀(i:Nat) (av:AV),S[i]?=some (some av)->∃v F,σ[i]?=some (some v)/\Fs[i]?=some F/\pV K Hf H av v F
 emp:∀i:Nat,S[i]?=some none->Fs[i]?=some []
 nd:Fs.flatten.Nodup
 fresh:∀p∈Fs.flatten,H₀ p=none
 sub:pX Hf H
 fr:pX H₀ H
 lim:∀b,Hf₀ b=none->H₀ b≠none->Hf b=none
 sf:pX Hf₀ Hf
structure yR (Hf H:Hp)(Fs:List Δ)(Hf' H':Hp)(Fs':List Δ):Prop where
 sf:pX Hf Hf'
 sh:pX H H'
 own:∀p∈Fs'.flatten,p∈Fs.flatten
 gr:∀b,Hf b=none->Hf' b≠none->H b=none∨b∈Fs.flatten
theorem yR.refl{Hf H:Hp}{l:List Δ}:yR Hf H l Hf H l:=⟨.refl _,.refl _,λ_ h=>h,λb h g=>absurd h g⟩
def Lq{H l:Hp}(s:pX H l){b:Addr}(h:H b≠none):l b≠none:=by
 cases e:H b with
 |none=>exact absurd e h
 |some o=>rw[s b o e];simp
theorem yR.trans{Hf H Hf1 n l s:Hp}{t Fs1 Fs2:List Δ}(a:yR Hf H t Hf1 n Fs1)(b:yR Hf1 n Fs1 l s Fs2):yR Hf H t l s Fs2:=
 ⟨a.sf.trans b.sf,a.sh.trans b.sh,λp h=>a.own p (b.own p h),λc h g=>by
  by_cases e:Hf1 c=none
  .rcases b.gr c e g with q|q
   .exact .inl (a.sh.free q)
   .exact .inr (a.own c q)
  .exact a.gr c h e⟩
section
variable {K:Ζ}{H₀ Hf₀ Hf Hf' H H':Hp}{S:AS}{σ:St}{Fs Fs':List Δ}
def K7{b:Addr}(s:pX H H')(h:H b≠none):H' b=H b:=by
 cases e:H b with
 |none=>exact absurd e h
 |some o=>exact s b o e
def pZ.mem(R:pZ K H₀ Hf₀ Hf S σ H Fs){q:Addr}(h:q∈Fs.flatten):H q≠none/\Hf q=none:=by
 obtain⟨F,t,n⟩:=mFq.mp h;obtain⟨i,hi,rfl⟩:=cP.mp t;have l:i<S.length:=R.lenF ▸ hi;cases e:S[i]with
 |none=>
  have:=R.emp i (by rw[gEg l,e])
  rw[gEg hi]at this;rw[aO.inj this]at n;cases n
 |some u=>
  obtain⟨v,F,_,s,r⟩:=R.rep i u (by rw[gEg l,e])
  rw[gEg hi]at s;rw[aO.inj s]at n;exact r.owned q n
def pZ.more(R:pZ K H₀ Hf₀ Hf S σ H Fs)(s:pX H H')(sf:pX Hf Hf')(sub:pX Hf' H')(hn:∀q∈Fs.flatten,Hf' q=none)(lim:∀b,Hf₀ b=none->H₀ b≠none->Hf' b=none):pZ K H₀ Hf₀ Hf' S σ H' Fs where
 len:=R.len
 lenF:=R.lenF
 rep:=λi t e=>by
  obtain⟨v,F,u,n,r⟩:=R.rep i t e;refine⟨v,F,u,n,r.keep sf (λq l=>K7 s (r.owned q l).1) λq l=>hn q (mFq.mpr ⟨F,mGq n,l⟩)⟩
 emp:=R.emp
 nd:=R.nd
 fresh:=R.fresh
 sub:=sub
 fr:=R.fr.trans s
 lim:=lim
 sf:=R.sf.trans sf
def pZ.laid(R:pZ K H₀ Hf₀ Hf S σ H Fs)(s:pX H H'):pZ K H₀ Hf₀ Hf S σ H' Fs:=R.more s (.refl _) (R.sub.trans s) (λq h=>(R.mem h).2) R.lim
def rV{F:Δ}{i:Nat}{p:Addr}(h:p∈(Fs.set i F).flatten):p∈F∨p∈Fs.flatten:=by
 obtain⟨G,n,l⟩:=mFq.mp h;rcases eO n with q|q
 .exact .inr (mFq.mpr ⟨G,q,l⟩)
 .subst q;exact .inl l
theorem rN:∀{Fs:List Δ}{F:Δ}(i:Nat),Fs.flatten.Nodup->F.Nodup->(∀p∈F,p∉Fs.flatten)->(Fs.set i F).flatten.Nodup
 | [],F,i,h,_,_=>by simp
 |G::Gs,F,0,h,hF,hd=>by
  rw[cJ,fCq,nAq];rw[fCq,nAq]at h;refine⟨hF,h.2.1,λa ha b hb e=>hd a ha ?_⟩
  rw[fCq];exact aj _ (e ▸ hb)
 |G::Gs,F,i+1,h,hF,hd=>by
  rw[dY,fCq,nAq];rw[fCq,nAq]at h;refine⟨h.1,rN i h.2.1 hF λp l m=>hd p l (by rw[fCq];exact aj _ m),λa ha b hb e=>?_⟩
  rcases rV hb with q|q
  .exact hd b q (by rw[fCq];exact ak _ (e ▸ ha))
  .exact h.2.2 a ha b q e
theorem pZ.set(R:pZ K H₀ Hf₀ Hf S σ H Fs){s:AV}{v:V}{F:Δ}(i:Nat)(r:pV K Hf H s v F)(nd:F.Nodup)(t:∀q∈F,H₀ q=none/\q∉Fs.flatten) :
  pZ K H₀ Hf₀ Hf (S.set i (some s)) (σ.set i (some v)) H (Fs.set i F) where
 len:=by simp[R.len]
 lenF:=by simp[R.lenF]
 rep:=λj a e=>by
  rw[bG]at e
  by_cases l:i=j
  .subst l;rw[pH rfl]at e;split at e
   .rename_i hi;cases e;exact⟨v,F,by rw[aN (R.len ▸ hi)],by rw[aN (R.lenF.symm ▸ hi)],r⟩
   .cases e
  .rw[pE l]at e;obtain⟨w,G,u,x,q⟩:=R.rep j a e;exact⟨w,G,by rw[aG l];exact u,by rw[aG l];exact x,q⟩
 emp:=λj e=>by
  rw[bG]at e
  by_cases l:i=j
  .subst l;rw[pH rfl]at e;split at e <;> cases e
  .rw[pE l]at e;rw[aG l];exact R.emp j e
 nd:=rN i R.nd nd λp n=>(t p n).2
 fresh:=λp n=>by
  rcases rV n with q|q
  .exact(t p q).1
  .exact R.fresh p q
 sub:=R.sub
 fr:=R.fr
 lim:=R.lim
 sf:=R.sf
def qI{i:Nat}{p:Addr}(h:p∈(Fs.set i []).flatten):p∈Fs.flatten:=by
 rcases rV h with q|q
 .cases q
 .exact q
theorem um:∀{Fs:List Δ}{F:Δ}{i:Nat}{p:Addr},Fs.flatten.Nodup->Fs[i]?=some F->p∈F->p∉(Fs.set i []).flatten
 | [],F,i,p,_,e,_,_=>by simp at e
 |G::Gs,F,0,p,h,e,l,m=>by
  simp at e;subst e;rw[cJ,fCq,cX]at m;rw[fCq,nAq]at h;exact h.2.2 p l p m rfl
 |G::Gs,F,i+1,p,h,e,l,m=>by
  rw[dY,fCq]at m;rw[fCq,nAq]at h;have n:Gs[i]?=some F:=by simpa using e
  rcases mAq.mp m with q|q
  .exact h.2.2 p q p (mFq.mpr ⟨F,mGq n,l⟩) rfl
  .exact um h.2.1 n l q
def pZ.move(R:pZ K H₀ Hf₀ Hf S σ H Fs){i:Nat}{u:AV}(e:S[i]?=some (some u)):∃v F,σ[i]?=some (some v)/\Fs[i]?=some F/\pV K Hf H u v F/\F.Nodup/\(∀q∈F,H₀ q=none/\q∉(Fs.set i []).flatten) /\
  pZ K H₀ Hf₀ Hf (S.set i none) σ H (Fs.set i []):=by
 obtain⟨v,F,B,s,r⟩:=R.rep i u e;have x:∀q∈F,q∈Fs.flatten:=λq t=>mFq.mpr ⟨F,mGq s,t⟩
 refine⟨v,F,B,s,r,bq.sublist (bh (mGq s)) R.nd,λq t=>⟨R.fresh q (x q t),um R.nd s t⟩,?_⟩
 refine⟨by simp[R.len],by simp[R.lenF],λj a n=>?_,λj n=>?_,rN i R.nd bw (λp z=>by cases z),λp z=>R.fresh p (qI z),R.sub,R.fr,R.lim,R.sf⟩
 .rw[bG]at n
  by_cases l:i=j
  .subst l;rw[pH rfl]at n;split at n <;> cases n
  .rw[pE l]at n;obtain⟨w,G,E,I,q⟩:=R.rep j a n;exact⟨w,G,E,by rw[aG l];exact I,q⟩
 .rw[bG]at n
  by_cases l:i=j
  .subst l;rw[pH rfl]at n;split at n
   .rename_i hi;rw[aN (R.lenF.symm ▸ hi)]
   .cases n
  .rw[pE l]at n;rw[aG l];exact R.emp j n
theorem pZ.frz(R:pZ K H₀ Hf₀ Hf S σ H Fs){F:Δ}(l:∀q∈F,H₀ q=none/\q∉Fs.flatten)(hn:∀q∈F,Hf q=none):pZ K H₀ Hf₀ (frz Hf H F) S σ H Fs:=by
 refine R.more (.refl _) (sS hn) (Tc R.sub) (λq n=>?_) λb t s=>?_
 .rw[uS λm=>(l q m).2 n]
  exact(R.mem n).2
 .rw[uS λm=>s (l b m).1]
  exact R.lim b t s
end
abbrev ME:=AS->Option (D×AS)
abbrev MK:=AS->Option (AV×AS)
abbrev ML:=AS->Option (List D×AS)
abbrev MT:=AS->Option (Bool×AS)
abbrev MA:=AS->Option (List AV×AS)
def pR(K:Ζ)(Hf H:Hp)(l:List AV)(vs:List V)(n:List Δ):Prop:=
 l.length=vs.length/\l.length=n.length/\∀(i:Nat) (a:AV) (v:V) (F:Δ),l[i]?=some a->vs[i]?=some v->n[i]?=some F->pV K Hf H a v F
structure xB (H₀ H:Hp)(Fs Fs':List Δ)(F:Δ):Prop where
 nd:F.Nodup
 fr:∀q∈F,H₀ q=none
 out:∀q∈F,q∉Fs'.flatten
 new:∀q∈F,H q=none∨q∈Fs.flatten
def xB.nil{H₀ H:Hp}{n l:List Δ}:xB H₀ H n l []:=⟨bw,λq h=>(by cases h),λq h=>(by cases h),λq h=>(by cases h)⟩
section
variable (K:Ζ)
def SR(te:TE)(m:ME):Prop:=∀{H₀ l Hf:Hp}{S:AS}{σ:St}{H:Hp}{u:List Δ}{d:D}{S':AS},pZ K H₀ l Hf S σ H u->m S=some (d,S')->∀Q:VK,
 (∀n t s v,yR Hf H u n t s->pZ K H₀ l n S' σ t s->rp K t d v->Q v t)->te σ H Q
def SK(te:TE)(m:MK):Prop:=∀{H₀ l Hf:Hp}{S:AS}{σ:St}{H:Hp}{u:List Δ}{a:AV}{S':AS},pZ K H₀ l Hf S σ H u->m S=some (a,S')->∀Q:VK,
 (∀n t s v F,yR Hf H u n t s->pZ K H₀ l n S' σ t s->pV K n t a v F->xB H₀ H u s F->Q v t)->te σ H Q
def SL(te:TE)(m:ML):Prop:=∀{H₀ l Hf:Hp}{S:AS}{σ:St}{H:Hp}{u:List Δ}{ds:List D}{S':AS},pZ K H₀ l Hf S σ H u->m S=some (ds,S')->∀Q:VK,
 (∀n t s p vs,yR Hf H u n t s->pZ K H₀ l n S' σ t s->t p=some (.lst vs)->qk K n ds vs->Q (.ref p) t)->te σ H Q
def ED(x:TT)(m:MT):Prop:=∀{H₀ l Hf:Hp}{S:AS}{σ:St}{H:Hp}{u:List Δ}{b:Bool}{S':AS},pZ K H₀ l Hf S σ H u->m S=some (b,S')->∀Q:Bool->Hp->Prop,
 (∀n t s,yR Hf H u n t s->pZ K H₀ l n S' σ t s->Q b t)->x σ H Q
def SA(z:TA)(m:MA):Prop:=∀{H₀ l Hf:Hp}{S:AS}{σ:St}{H:Hp}{u:List Δ}{as:List AV}{S':AS},pZ K H₀ l Hf S σ H u->m S=some (as,S')->∀Q:List V->Hp->Prop,
 (∀n t s vs x,yR Hf H u n t s->pZ K H₀ l n S' σ t s->pR K n t as vs x->xB H₀ H u s x.flatten->Q vs t)->z σ H Q
def SN(x:TA)(m:ML):Prop:=∀{H₀ l Hf:Hp}{S:AS}{σ:St}{H:Hp}{u:List Δ}{ds:List D}{S':AS},pZ K H₀ l Hf S σ H u->m S=some (ds,S')->∀Q:List V->Hp->Prop,
 (∀n t s vs,yR Hf H u n t s->pZ K H₀ l n S' σ t s->qk K t ds vs->Q vs t)->x σ H Q
end
section
variable {K:Ζ}{H₀ Hf₀ Hf Hf' H H':Hp}{S S':AS}{σ:St}{Fs Fs':List Δ}
def pV.stp{n:AV}{v:V}{F:Δ}(r:pV K Hf H n v F)(s:∀q∈F,q∉Fs.flatten)(t:yR Hf H Fs Hf' H' Fs'):pV K Hf' H' n v F:=
 r.keep t.sf (λq l=>K7 t.sh (r.owned q l).1) λq l=>by
  by_cases e:Hf' q=none
  .exact e
  .rcases t.gr q (r.owned q l).2 e with z|z
   .exact absurd z (r.owned q l).1
   .exact absurd z (s q l)
def pZ.new(R:pZ K H₀ Hf₀ Hf S σ H Fs){p:Addr}{o:HO}(l:H p=none):yR Hf H Fs Hf (qw H p o) Fs/\pZ K H₀ Hf₀ Hf S σ (qw H p o) Fs/\Hf p=none/\H₀ p=none/\p∉Fs.flatten:=
 ⟨⟨.refl _,uD l,λ_ h=>h,λb h g=>absurd h g⟩,R.laid (uD l),R.sub.free l,R.fr.free l,λm=>(R.mem m).1 l⟩
def tx(n:Nat):(bu n ([]:Δ)).flatten=[]:=by
 induction n with
 |zero=>rfl
 |succ n l=>rw[List.replicate_succ,fCq,l];rfl
def pV.new{p:Addr}{vs:List V}{ds:List D}(h:H p=some (.lst vs))(n:Hf p=none)(r:qk K Hf ds vs):pV K Hf H (.ow (ds.map .sh)) (.ref p) [p]:=by
 have e:[p]=p::(bu ds.length ([]:Δ)).flatten:=by rw[tx]
 rw[e];refine .ow h n (by simp[r.1]) (by simp) λi a v F l s t=>?_
 rw[gMq]at l;cases q:ds[i]? with
 |none=>rw[q]at l;cases l
 |some d=>
  rw[q]at l;cases l;have:F=[]:=dD (mGq t);subst this;exact .sh (r.2 i d v q s)
def pV.news{p:Addr}{vs:List V}{l:List AV}{s:List Δ}(h:H p=some (.lst vs))(n:Hf p=none)(r:pR K Hf H l vs s):pV K Hf H (.ow l) (.ref p) (p::s.flatten):=.ow h n r.1 r.2.1 r.2.2
def pV.ow_inv{s:List AV}{v:V}{F:Δ}(h:pV K Hf H (.ow s) v F):∃p vs t,v = .ref p/\F=p::t.flatten/\H p=some (.lst vs)/\Hf p=none/\pR K Hf H s vs t:=by
 cases h with
 |ow h n l lf e=>exact⟨_,_,_,rfl,rfl,h,n,l,lf,e⟩
def pV.owd_inv{ds:List (pI×D)}{v:V}{F:Δ}(h:pV K Hf H (.owd ds) v F):∃p kvs,v = .ref p/\F=[p]/\H p=some (.dK kvs)/\Hf p=none/\uF K Hf ds kvs:=by
 cases h with
 |owd h n r=>exact⟨_,_,rfl,rfl,h,n,r⟩
def pV.sh_inv{d:D}{v:V}{F:Δ}(h:pV K Hf H (.sh d) v F):F=[]/\rp K Hf d v:=by
 cases h with
 |sh r=>exact⟨rfl,r⟩
def pZ.give{l:Hp}{Fs1:List Δ}(R:pZ K H₀ Hf₀ Hf' S σ l Fs1)(t:yR Hf H Fs Hf' l Fs1){u:AV}{v:V}{F:Δ}(r:pV K Hf' l u v F)(o:xB H₀ H Fs Fs1 F) :
  pZ K H₀ Hf₀ (Z.frz Hf' l F) S σ l Fs1/\rp K (Z.frz Hf' l F) (oP u) v/\yR Hf H Fs (Z.frz Hf' l F) l Fs1:=by
 have n:∀q∈F,Hf' q=none:=λq s=>(r.owned q s).2
 refine⟨R.frz (λq s=>⟨o.fr q s,o.out q s⟩) n,r.frozen (sS n) λq s=>B9 s,t.sf.trans (sS n),t.sh,t.own,λb h g=>?_⟩
 by_cases m:b∈F
 .exact o.new b m
 .rw[uS m]at g;exact t.gr b h g
def pR.nil:pR K Hf H [] [] []:=⟨rfl,rfl,λi a v F h=>by simp at h⟩
def pR.cons{a:AV}{v:V}{F:Δ}{as:List AV}{vs:List V}{u:List Δ}(h:pV K Hf H a v F)(t:pR K Hf H as vs u):pR K Hf H (a::as) (v::vs) (F::u):=
 ⟨by simp[t.1],by simp[t.2.1],λi b w G l n s=>by
  cases i with
  |zero=>
   simp at l n s;subst l n s;exact h
  |succ i=>exact t.2.2 i b w G (by simpa using l) (by simpa using n) (by simpa using s)⟩
def pR.nil_inv{vs:List V}{l:List Δ}(h:pR K Hf H [] vs l):vs=[]/\l=[]:=by
 obtain⟨a,b,_⟩:=h;exact⟨bU.mp a.symm,bU.mp b.symm⟩
def pR.cons_inv{a:AV}{as:List AV}{vs:List V}{n:List Δ}(h:pR K Hf H (a::as) vs n):∃v ws F l,vs=v::ws/\n=F::l/\pV K Hf H a v F/\pR K Hf H as ws l:=by
 obtain⟨s,t,u⟩:=h;cases vs with
 |nil=>simp at s
 |cons v ws=>
  cases n with
  |nil=>simp at t
  |cons F l=>exact⟨v,ws,F,l,rfl,rfl,u 0 a v F rfl rfl rfl,by simpa using s,by simpa using t,λi b w G x z B=>u (i+1) b w G (by simpa using x) (by simpa using z) (by simpa using B)⟩
theorem pR.frozen(h:pR K Hf H as vs Gs)(s:pX Hf Hf')(hk:∀q∈Gs.flatten,Hf' q=H q):qk K Hf' (as.map oP) vs:=
 ⟨by simp[h.1],λi d v l t=>by
  rw[gMq]at l;cases n:as[i]? with
  |none=>rw[n]at l;cases l
  |some a=>
   rw[n]at l;cases l;have hi:i<Gs.length:=h.2.1 ▸ (gSq.mp n).1;exact(h.2.2 i a v Gs[i] n t (gEg hi)).frozen s λq u=>hk q (mFq.mpr ⟨Gs[i],gRq hi,u⟩)⟩
theorem pR.owned(h:pR K Hf H as vs Gs):∀q∈Gs.flatten,H q≠none/\Hf q=none:=λq l=>by
 obtain⟨F,s,l⟩:=mFq.mp l;obtain⟨i,hi,rfl⟩:=cP.mp s;have n:i<as.length:=h.2.1.symm ▸ hi;have t:i<vs.length:=h.1 ▸ n;exact(h.2.2 i as[i] vs[i] Gs[i] (gEg n) (gEg t) (gEg hi)).owned q l
def pZ.gives{l:Hp}{Fs1:List Δ}(R:pZ K H₀ Hf₀ Hf' S σ l Fs1)(t:yR Hf H Fs Hf' l Fs1){as:List AV}{vs:List V}{s:List Δ}(r:pR K Hf' l as vs s)(o:xB H₀ H Fs Fs1 s.flatten) :
  pZ K H₀ Hf₀ (Z.frz Hf' l s.flatten) S σ l Fs1/\qk K (Z.frz Hf' l s.flatten) (as.map oP) vs/\yR Hf H Fs (Z.frz Hf' l s.flatten) l Fs1:=by
 have n:∀q∈s.flatten,Hf' q=none:=λq u=>(r.owned q u).2
 refine⟨R.frz (λq u=>⟨o.fr q u,o.out q u⟩) n,r.frozen (sS n) λq u=>B9 u,t.sf.trans (sS n),t.sh,t.own,λb h g=>?_⟩
 by_cases m:b∈s.flatten
 .exact o.new b m
 .rw[uS m]at g;exact t.gr b h g
def xB.stp{Hf1 n l s:Hp}{Fs1 Fs2:List Δ}{F:Δ}(o:xB H₀ H Fs Fs1 F)(t:yR Hf1 n Fs1 l s Fs2):xB H₀ H Fs Fs2 F:=⟨o.nd,o.fr,λq h m=>o.out q h (t.own q m),o.new⟩
def xB.back{Hf1 l:Hp}{Fs1 Fs2:List Δ}{F:Δ}(t:yR Hf H Fs Hf1 l Fs1)(o:xB H₀ l Fs1 Fs2 F):xB H₀ H Fs Fs2 F:=⟨o.nd,o.fr,o.out,λq h=>(o.new q h).elim (λe=>.inl (t.sh.free e)) λm=>.inr (t.own q m)⟩
def xB.app{F G:Δ}(a:xB H₀ H Fs Fs' F)(b:xB H₀ H Fs Fs' G)(d:∀q∈F,q∉G):xB H₀ H Fs Fs' (F++G):=
 ⟨nAq.mpr ⟨a.nd,b.nd,λx l y n e=>d x l (e ▸ n)⟩,λq h=>(mAq.mp h).elim (a.fr q) (b.fr q),λq h=>(mAq.mp h).elim (a.out q) (b.out q),λq h=>(mAq.mp h).elim (a.new q) (b.new q)⟩
def xB.apart{Hf1 l:Hp}{Fs1 Fs2:List Δ}{F G:Δ}(a:xB H₀ H Fs Fs1 F)(ha:∀q∈F,l q≠none)(b:xB H₀ l Fs1 Fs2 G):∀q∈F,q∉G:=λq h m=>by
 rcases b.new q m with e|e
 .exact ha q h e
 .exact a.out q h e
def xB.one(R:pZ K H₀ Hf₀ Hf S σ H Fs){p:Addr}(l:H p=none):xB H₀ H Fs Fs [p]:=
 ⟨by simp,λq h=>by rw[mSq.mp h];exact R.fr.free l,λq h m=>by rw[mSq.mp h]at m;exact(R.mem m).1 l,λq h=>by rw[mSq.mp h];exact .inl l⟩
end
def oI(i:Nat):ME:=λS=>(S[i]?.join).map λa=>(oP a,S)
def oX(i:Nat):MK:=λS=>(S[i]?.join).map λa=>(.sh (oP a),S.set i (some (.sh (oP a))))
def zE(i:Nat):MK:=λS=>(S[i]?.join).map λa=>(a,S.set i none)
def HC(i:Nat):ML:=λS=>match S[i]?.join with
 |some (.sh (.list ds))=>some (ds,S)
 |some (.ow l)=>some (l.map oP,S.set i (some (.ow ((l.map oP).map .sh))))
 |_=>none
def rOf(k:MK):ME:=λS=>(k S).map λx=>(oP x.1,x.2)
def kSc(m:ME):MK:=λS=>(m S).bind λx=>if x.1.scal then some (.sh x.1,x.2)else none
def lOf(k:MK):ML:=λS=>(k S).bind λx=>match x.1 with
 | .sh (.list ds)=>some (ds,x.2)
 | .ow l=>some (l.map oP,x.2)
 |_=>none
def sQ(k:MK):MK:=λS=>(k S).map λx=>(.sh (oP x.1),x.2)
def rC(d:D):ME:=λS=>if d.scal then some (d,S)else none
section
variable {K:Ζ}
def qd{S:AS}{i:Nat}{a:AV}(h:S[i]?.join=some a):S[i]?=some (some a):=by
 cases e:S[i]? with
 |none=>rw[e]at h;cases h
 |some z=>rw[e]at h;exact congrArg some h
def qB(i:Nat):SR K (yS i) (oI i):=by
 intro H₀ l Hf S σ H t d u R e Q q;obtain⟨a,n,e⟩:=oMq.mp e;cases e;obtain⟨v,F,s,x,r⟩:=R.rep i a (qd n);exact⟨v,s,q _ _ _ v .refl R (r.rep R.sub)⟩
def YQ(i:Nat):SK K (yS i) (zE i):=by
 intro H₀ n Hf S σ H B a E R e Q q;obtain⟨b,s,e⟩:=oMq.mp e;cases e;obtain⟨v,F,t,u,r,nd,o,x⟩:=R.move (qd s);exact⟨v,t,q _ _ _ v F ⟨.refl _,.refl _,λp z=>qI z,λb h g=>absurd h g⟩ x r ⟨nd,λq l=>(o q l).1,λq l=>(o q l).2,λq l=>.inr (mFq.mpr ⟨F,mGq u,l⟩)⟩⟩
def pZ.again{H₀ l Hf H:Hp}{S:AS}{σ:St}{n:List Δ}{i:Nat}{s:AV}{v:V}{F G:Δ}(R:pZ K H₀ l Hf (S.set i none) σ H (n.set i []))(s1:σ[i]?=some (some v))(r:pV K Hf H s v G)(nd:G.Nodup)(t:∀q∈G,H₀ q=none/\q∉(n.set i []).flatten) :
  pZ K H₀ l Hf (S.set i (some s)) σ H (n.set i G):=by
 have R2:=R.set i r nd t;rw[gT,gT]at R2;have e:σ.set i (some v)=σ:=by
  obtain⟨hk,u⟩:=gSq.mp s1;rw[←u];exact gE hk
 rw[e]at R2;exact R2
def wt(i:Nat):SK K (yS i) (oX i):=by
 intro H₀ l Hf S σ H J a L R e Q q;obtain⟨b,x,e⟩:=oMq.mp e;cases e;obtain⟨v,F,t,z,r,nd,o,B⟩:=R.move (qd x);have n:∀q∈F,Hf q=none:=λq s=>(r.owned q s).2
 have R2:=B.frz o n;have u:=r.frozen (sS (H:=H) n) λq s=>B9 s
 have E:=R2.again (F:=F) (G:=[]) t (.sh u) bw λq h=>(by cases h)
 refine⟨v,t,q _ _ _ v [] ⟨sS n,.refl _,λp I=>qI I,λb h g=>?_⟩ E (.sh u) .nil⟩
 by_cases m:b∈F
 .exact .inr (mFq.mpr ⟨F,mGq z,m⟩)
 .rw[uS m]at g;exact absurd h g
def JJ(i:Nat):SL K (yS i) (HC i):=by
 intro H₀ x Hf S σ H Fs ds S' R e Q q;unfold HC at e;split at e
 .rename_i P B;cases e;obtain⟨v,F,t,E,r⟩:=R.rep i _ (qd B);obtain⟨p,I,rfl,u,J⟩:=r.sh_inv.2.list_inv;exact⟨_,t,q _ _ _ p I .refl R (R.sub _ _ u) J⟩
 .rename_i L B;cases e;obtain⟨v,F,t,E,r,nd,o,U⟩:=R.move (qd B);obtain⟨p,I,s,rfl,rfl,u,J,M⟩:=r.ow_inv;have n:∀q∈s.flatten,Hf q=none:=λq l=>(M.owned q l).2
  have R2:=U.frz (F:=s.flatten) (λq l=>o q (mCo _ l)) n
  have O:=M.frozen (sS (H:=H) n) λq l=>B9 l
  have X:p∉s.flatten:=(ar.mp nd).1;have Y:pV K (Z.frz Hf H s.flatten) H (.ow ((L.map oP).map .sh)) (.ref p) [p]:=pV.new u (by rw[uS X];exact J) O
  have R3:=R2.again (F:=p::s.flatten) (G:=[p]) t Y (by simp) λq l=>by rw[mSq.mp l];exact o p (by simp)
  refine⟨_,t,q _ _ _ p I ⟨sS n,.refl _,λb hb=>?_,λb h g=>?_⟩ R3 u O⟩
  .rcases rV hb with z|z
   .rw[mSq.mp z];exact mFq.mpr ⟨_,mGq E,by simp⟩
   .exact z
  .by_cases m:b∈s.flatten
   .exact .inr (mFq.mpr ⟨_,mGq E,mCo _ m⟩)
   .rw[uS m]at g;exact absurd h g
 .cases e
theorem SK.rOf{te:TE}{k:MK}(h:SK K te k):SR K te (rOf k):=by
 intro H₀ l Hf S σ H B d E R e Q q;obtain⟨x,s,e⟩:=oMq.mp e;cases e;exact h R (a:=x.1) (S':=x.2) s Q λu G z v F t n r o=>q _ _ _ v t n (r.rep n.sub)
theorem SR.kSc{te:TE}{m:ME}(h:SR K te m):SK K te (kSc m):=by
 intro H₀ l Hf S σ H B a E R e Q q;obtain⟨x,n,e⟩:=oBq.mp e;split at e
 .rename_i hs;cases e;exact h R (d:=x.1) (S':=x.2) n Q λs G u v t z r=>q _ _ _ v [] t z (.sh (r.scal hs)) .nil
 .cases e
def SK.frz{te:TE}{k:MK}(h:SK K te k):SK K te (sQ k):=by
 intro H₀ l Hf S σ H G a I R e Q q;obtain⟨x,n,e⟩:=oMq.mp e;cases e;refine h R (a:=x.1) (S':=x.2) n Q λs J u v F t z r o=>?_
 obtain⟨R2,B,E⟩:=z.give t r o;exact q _ _ _ v [] E R2 (.sh B) .nil
theorem SK.lOf{te:TE}{k:MK}(h:SK K te k):SL K te (lOf k):=by
 intro H₀ l Hf S σ H P U X R e Q q;obtain⟨x,G,e⟩:=oBq.mp e;refine h R (a:=x.1) (S':=x.2) G Q λI Y J v F t n r o=>?_
 split at e
 .rename_i L s;cases e;rw[s]at r;obtain⟨p,u,rfl,z,B⟩:=r.sh_inv.2.list_inv;exact q _ _ _ p u t n (n.sub _ _ z) B
 .rename_i M s;cases e;obtain⟨R2,E,O⟩:=n.give t r o;rw[s,qX]at E;obtain⟨p,u,rfl,z,B⟩:=E.list_inv;exact q _ _ _ p u O R2 (R2.sub _ _ z) B
 .cases e
def R9{v:V}{d:D}(h:∀H,rp K H d v):SR K (tC v) (rC d):=by
 intro H₀ l Hf S σ H n s t R e Q q;unfold rC at e;split at e
 .cases e;exact q _ _ _ v .refl R (h _)
 .cases e
def qu{i:Int}:SR K (tC (.int i)) (rC (.int i)):=R9 λ_=>.int
def Xs{i:Str}:SR K (tC (.str i)) (rC (.str i)):=R9 λ_=>.str
def VB{i:Bool}:SR K (tC (.bl i)) (rC (.bl i)):=R9 λ_=>.bl
def YI:SR K (tC .non) (rC .non):=R9 λ_=>.non
def ZK{T:String}:SR K (tC (.ty T)) (rC (.ty T)):=R9 λ_=>.ty
end
def vi{α:Type}(p:Prop)(x:Option α):Option α:=@ite (Option α) p (fh p) x none
def uR{α:Type}{p:Prop}(h:p)(x:Option α):vi p x=x:=pH h
def vU{α:Type}(x:Option α):vi True x=x:=pH trivial
def pK{α:Type}{p:Prop}{x y:Option α}(h:vi p x=y):(p/\x=y)∨none=y:=by
 by_cases c:p
 .rw[uR c]at h;exact .inl ⟨c,h⟩
 .exact .inr ((@if_neg p (fh p) c _ x none).symm.trans h)
def pO(f:D->D->Option D)(a b:ME):ME:=λS=>(a S).bind λx=>(b x.2).bind λy=>(f x.1 y.1).map λd=>(d,y.2)
def Jq(f:D->Option D)(a:ME):ME:=λS=>(a S).bind λx=>(f x.1).map λd=>(d,x.2)
def CY(K:Ζ)(r:R2)(f:D->D->Option D):Prop:=∀{x y:V}{H:Hp}{Q:VK}{l n d:D},rp K H l x->rp K H n y->f l n=some d->(∀v,rp K H d v->Q v H)->r x y H Q
def UnD(K:Ζ)(r:V->Hp->VK->Prop)(f:D->Option D):Prop:=∀{x:V}{H:Hp}{Q:VK}{l d:D},rp K H l x->f l=some d->(∀v,rp K H d v->Q v H)->r x H Q
section
variable {K:Ζ}{r:R2}{f:D->D->Option D}{ta tb:TE}{a b:ME}
def tP(hr:CY K r f)(ha:SR K ta a)(hb:SR K tb b):SR K (Tz r ta tb) (pO f a b):=by
 intro H₀ l Hf S σ H O d P R e Q q;obtain⟨x,s,e⟩:=oBq.mp e;obtain⟨y,t,e⟩:=oBq.mp e;obtain⟨z,u,e⟩:=oMq.mp e;cases e;refine ha R (d:=x.1) (S':=x.2) s _ λB U Fs1 X E G I=>hb G (d:=y.1) (S':=y.2) t _ λJ Y Fs2 v2 n R2 L=>?_
 exact hr (I.mono n.sh) L u λv M=>q _ _ _ v (E.trans n) R2 M
def Md{r:V->Hp->VK->Prop}{f:D->Option D}(hr:UnD K r f)(ha:SR K ta a):SR K (tUn r ta) (Jq f a):=by
 intro H₀ l Hf S σ H I d J R e Q q;obtain⟨x,n,e⟩:=oBq.mp e;obtain⟨z,s,e⟩:=oMq.mp e;cases e;exact ha R (d:=x.1) (S':=x.2) n _ λt L Fs1 M u B E=>hr E s λv G=>q _ _ _ v u B G
end
def JL(c:Int->Int->Prop)(g:Int->Int->D):D->D->Option D
 | .int i,.int j=>vi (c i j) (some (g i j))
 |_,_=>none
def dI1(g:Int->D):D->Option D
 | .int i=>some (g i)
 |_=>none
abbrev uX:=JL (λ_ _=>True) λi j=>.int (i+j)
abbrev Ci:=JL (λ_ _=>True) λi j=>.int (i-j)
abbrev xD:=JL Rb λi j=>.int (i*j)
abbrev uo:=JL (λ_ j=>0<j) λi j=>.int (i % j)
abbrev Bc:=JL Xk λi j=>.int (i / j)
abbrev Jo:=JL X8 λi j=>.int (i ^ j.toNat)
abbrev A8:=JL (λ_ _=>True) λi j=>.bl (decide (i<j))
abbrev dLe:=JL (λ_ _=>True) λi j=>.bl (decide (i<=j))
abbrev Oq:=JL (λ_ _=>True) λi j=>.bl (decide (j<i))
abbrev dGe:=JL (λ_ _=>True) λi j=>.bl (decide (j<=i))
abbrev yT:=dI1 λi=>.int (-i)
def Ou(b:Bool):Option D:=some (.bl b)
def B0(x y:D):Option D:=match x with
 | .int i=>(match y with|.int j=>Ou (decide (i=j))|.non=>Ou false|.str _=>Ou false|_=>none)
 | .str i=>(match y with|.str j=>Ou (decide (i=j))|.non=>Ou false|.int _=>Ou false|_=>none)
 | .bl i=>(match y with|.bl j=>Ou (decide (i=j))|.non=>Ou false|_=>none)
 | .non=>(match y with|.non=>Ou true|.int _=>Ou false|.str _=>Ou false|.bl _=>Ou false|_=>none)
 |_=>none
def Na:D->Option D
 | .bl b=>some (.bl (!b))
 |_=>none
def Y0(x y:D):Option D:=(B0 x y).bind Na
section
variable {K:Ζ}
def Je{C:Int->Int->Prop}{g:Int->Int->V}{g':Int->Int->D}(l:∀H i j,rp K H (g' i j) (g i j)):CY K (rI C g) (JL C g'):=by
 intro x y H Q t u d n s e q;unfold JL at e;split at e
 .rename_i i j;cases n;cases s;rcases pK e with⟨h,e⟩|e
  .cases e;exact⟨i,j,rfl,rfl,h,q _ (l H i j)⟩
  .cases e
 .cases e
def Hh{g:Int->Int->V}{g':Int->Int->D}(l:∀H i j,rp K H (g' i j) (g i j)):CY K (Qa g) (JL (λ_ _=>True) g'):=by
 intro x y H Q t u d n s e q;unfold JL at e;split at e
 .rename_i i j;cases n;cases s;rw[vU]at e;cases e;exact⟨i,j,rfl,rfl,q _ (l H i j)⟩
 .cases e
def Xd:CY K (Qa λi j=>.int (i+j)) uX:=Hh λ_ _ _=>.int
def J1:CY K (Qa λi j=>.int (i-j)) Ci:=Hh λ_ _ _=>.int
def Gp:CY K (rI Rb λi j=>.int (i*j)) xD:=Je λ_ _ _=>.int
def AJ:CY K (rI (λ_ j=>0<j) λi j=>.int (i % j)) uo:=Je λ_ _ _=>.int
def Gx:CY K (rI Xk λi j=>.int (i / j)) Bc:=Je λ_ _ _=>.int
def WI:CY K (rI X8 λi j=>.int (i ^ j.toNat)) Jo:=Je λ_ _ _=>.int
def IH:CY K (Qa λi j=>.bl (decide (i<j))) A8:=Hh λ_ _ _=>.bl
def RF:CY K (Qa λi j=>.bl (decide (j<i))) Oq:=Hh λ_ _ _=>.bl
def Cj:UnD K (rU λi=>.int (-i)) yT:=by
 intro x H Q n d l e q;cases l <;> simp only[dI1]at e
 all_goals first|(exfalso;simp at e;done)|skip
 rename_i i;cases e;exact⟨i,rfl,q _ .int⟩
def Hy:CY K rEq B0:=by
 intro x y H Q s t d l n e q;unfold B0 at e;cases l <;> first|(cases e;done)|(cases n <;> first|(cases e;done)|skip)
 all_goals (cases e;refine⟨rfl,q _ ?_⟩;simp only[reduceCtorEq,decide_false,decide_true,V.int.injEq,V.str.injEq,V.bl.injEq];exact .bl)
def ZP:CY K rNe Y0:=by
 intro x y H Q B E d l n e q;obtain⟨b,s,t⟩:=oBq.mp e;obtain⟨u,z⟩:=Hy l n s (Q:=λv _=>rp K H b v) λv h=>h
 cases z;cases t;exact⟨u,q _ .bl⟩
end
def Yi(a b:ME):ME:=λS=>(a S).bind λx=>match x.1 with
 | .bl true=>b x.2
 | .bl false=>some (.bl false,x.2)
 |_=>none
def rOr(a b:ME):ME:=λS=>(a S).bind λx=>match x.1 with
 | .bl true=>some (.bl true,x.2)
 | .bl false=>b x.2
 |_=>none
def WQ(a:ME):ME:=Jq Na a
def ug(a:ME):MT:=λS=>(a S).bind λx=>match x.1 with
 | .bl b=>some (b,x.2)
 |_=>none
def Dv(a b:MT):MT:=λS=>(a S).bind λx=>if x.1=true then b x.2 else some (false,x.2)
def NH(a b:MT):MT:=λS=>(a S).bind λx=>if x.1=true then some (true,x.2)else b x.2
def yP(a:MT):MT:=λS=>(a S).map λx=>(!x.1,x.2)
def rIf(c:MT)(a b:ME):ME:=λS=>(c S).bind λx=>if x.1=true then a x.2 else b x.2
def kIf(c:MT)(a b:MK):MK:=λS=>(c S).bind λx=>if x.1=true then a x.2 else b x.2
section
variable {K:Ζ}{ta tb:TE}{a b:ME}{ca cb:TT}{ma mb:MT}
def XT(ha:SR K ta a)(hb:SR K tb b):SR K (VF ta tb) (Yi a b):=by
 intro H₀ n Hf S σ H L d M R e Q q;obtain⟨x,z,e⟩:=oBq.mp e;refine ha R (d:=x.1) (S':=x.2) z _ λB O Fs1 P t u l=>?_
 split at e
 .rename_i s;rw[s]at l;cases l;exact⟨true,rfl,By (hb u e Q λE U Fs2 G I R2 J=>q _ _ _ G (t.trans I) R2 J)⟩
 .rename_i s;rw[s]at l;cases l;cases e;exact⟨false,rfl,BM (q _ _ _ _ t u .bl)⟩
 .cases e
def Z3(ha:SR K ta a)(hb:SR K tb b):SR K (Zq ta tb) (rOr a b):=by
 intro H₀ n Hf S σ H L d M R e Q q;obtain⟨x,z,e⟩:=oBq.mp e;refine ha R (d:=x.1) (S':=x.2) z _ λB O Fs1 P t u l=>?_
 split at e
 .rename_i s;rw[s]at l;cases l;cases e;exact⟨true,rfl,By (q _ _ _ _ t u .bl)⟩
 .rename_i s;rw[s]at l;cases l;exact⟨false,rfl,BM (hb u e Q λE U Fs2 G I R2 J=>q _ _ _ G (t.trans I) R2 J)⟩
 .cases e
def W5(ha:SR K ta a):SR K (VG ta) (WQ a):=by
 intro H₀ n Hf S σ H I d J R e Q q;obtain⟨x,t,e⟩:=oBq.mp e;obtain⟨z,l,e⟩:=oMq.mp e;cases e;refine ha R (d:=x.1) (S':=x.2) t _ λu L Fs1 M B E s=>?_
 cases G:x.1 <;> rw[G]at l s <;> simp only[Na]at l
 all_goals first|(exfalso;simp at l;done)|skip
 cases s;cases l;exact⟨_,rfl,q _ _ _ _ B E .bl⟩
def Ij(ha:SR K ta a):ED K (tB ta) (ug a):=by
 intro H₀ l Hf S σ H E d G R e Q q;obtain⟨x,s,e⟩:=oBq.mp e;refine ha R (d:=x.1) (S':=x.2) s _ λt I Fs1 J u z n=>?_
 split at e
 .rename_i b B;rw[B]at n;cases n;cases e;exact⟨_,rfl,q _ _ _ u z⟩
 .cases e
def BO(ha:SR K ta a):ED K (Rq ta) (ug a):=Ij ha
def KR(ha:ED K ca ma)(hb:ED K cb mb):ED K (aaa ca cb) (Dv ma mb):=by
 intro H₀ n Hf S σ H G d I R e Q q;obtain⟨x,u,e⟩:=oBq.mp e;refine ha R (b:=x.1) (S':=x.2) u _ λz J Fs1 s t=>?_
 split at e
 .rename_i l;rw[l];exact By (hb t e Q λB L Fs2 E R2=>q _ _ _ (s.trans E) R2)
 .rename_i l;cases e;rw[cO]at l;rw[l];exact BM (q _ _ _ s t)
def V5(ha:ED K ca ma)(hb:ED K cb mb):ED K (tOr ca cb) (NH ma mb):=by
 intro H₀ n Hf S σ H G d I R e Q q;obtain⟨x,u,e⟩:=oBq.mp e;refine ha R (b:=x.1) (S':=x.2) u _ λz J Fs1 s t=>?_
 split at e
 .rename_i l;cases e;rw[l];exact By (q _ _ _ s t)
 .rename_i l;rw[cO]at l;rw[l];exact BM (hb t e Q λB L Fs2 E R2=>q _ _ _ (s.trans E) R2)
def KF(ha:ED K ca ma):ED K (aao ca) (yP ma):=by
 intro H₀ l Hf S σ H z d B R e Q q;obtain⟨x,n,e⟩:=oMq.mp e;cases e;exact ha R (b:=x.1) (S':=x.2) n _ λs E Fs1 t u=>q _ _ _ t u
end
noncomputable abbrev qF:Nat:=16777216
def uq:kr=qF:=kJ
def SQ(K:Ζ)(te:TE)(m:ML):Prop:=∀{H₀ l Hf:Hp}{S:AS}{σ:St}{H:Hp}{u:List Δ}{ds:List D}{S':AS},pZ K H₀ l Hf S σ H u->m S=some (ds,S')->∀Q:VK,
 (∀n t s p vs,yR Hf H u n t s->pZ K H₀ l n S' σ t s->rJ K t p vs->qk K n ds vs->Q (.ref p) t)->te σ H Q
theorem SL.q{K:Ζ}{te:TE}{m:ML}(h:SL K te m):SQ K te m:=by
 intro H₀ l Hf S σ H B E G R e Q q;exact h R e Q λn I s p u t x z r=>q _ _ _ p u t x (rJ.of z) r
def vh(i:Nat):ML:=λS=>match S[i]?.join with
 |some (.sh (.scr ns))=>some (ns.map .int,S)
 |some (.sh (.list ds))=>some (ds,S)
 |some (.ow l)=>some (l.map oP,S.set i (some (.ow ((l.map oP).map .sh))))
 |_=>none
theorem tq{K:Ζ}{H:Hp}:∀ns:Ϝ,qk K H (ns.map .int) (ns.map V.int)
 | []=>.nil
 |n::ns=>.cons .int (tq ns)
def JW{K:Ζ}(i:Nat):SQ K (yS i) (vh i):=by
 intro H₀ n Hf S σ H P E G R e Q q;unfold vh at e;split at e
 .rename_i I l;cases e;obtain⟨v,F,J,U,r⟩:=R.rep i _ (qd l);cases r.sh_inv.2 with
  |scr h=>exact⟨_,J,q _ _ _ _ _ .refl R (R.sub.seq h) (tq I)⟩
 .rename_i L l;cases e;refine JJ i R (ds:=E) (S':=S) ?_ Q λs M u p x t z B r=>q _ _ _ p x t z (rJ.of B) r
  unfold HC;rw[l]
 .rename_i O l;refine JJ i R (ds:=E) (S':=G) ?_ Q λs M u p x t z B r=>q _ _ _ p x t z (rJ.of B) r
  unfold HC;rw[l];exact e
 .cases e
section
variable {K:Ζ}{H₀ Hf₀ Hf Hf' H H':Hp}{S S':AS}{σ:St}{Fs Fs':List Δ}
theorem pR.stp{as:List AV}{vs:List V}{l:List Δ}(r:pR K Hf H as vs l)(s:∀q∈l.flatten,q∉Fs.flatten)(t:yR Hf H Fs Hf' H' Fs'):pR K Hf' H' as vs l:=
 ⟨r.1,r.2.1,λi a v F u x n=>(r.2.2 i a v F u x n).stp (λq z=>s q (mFq.mpr ⟨F,mGq n,z⟩)) t⟩
def pZ.layF(R:pZ K H₀ Hf₀ Hf S σ H Fs){p:Addr}{o:HO}(l:H p=none):yR Hf H Fs (qw Hf p o) (qw H p o) Fs/\pZ K H₀ Hf₀ (qw Hf p o) S σ (qw H p o) Fs:=by
 have n:Hf p=none:=R.sub.free l;refine⟨⟨uD n,uD l,λ_ h=>h,λb h g=>?_⟩,R.more (uD l) (uD n) (λb u e=>?_) (λq s=>?_) λb x t=>?_⟩
 .by_cases m:b=p
  .subst m;exact .inl l
  .rw[pd m]at g;exact absurd h g
 .by_cases m:b=p
  .subst m;rw[pB]at e ⊢;exact e
  .rw[pd m]at e ⊢;exact R.sub b u e
 .rw[pd λe=>(R.mem s).1 (by rw[e];exact l)]
  exact(R.mem s).2
 .rw[pd λe=>t (by rw[e];exact R.fr.free l)]
  exact R.lim b x t
end
def pP:MA:=λS=>some ([],S)
def oW(k:MK)(r:MA):MA:=λS=>(k S).bind λx=>(r x.2).map λy=>(x.1::y.1,y.2)
def oS:ML:=λS=>some ([],S)
def oJ(k:ME)(r:ML):ML:=λS=>(k S).bind λx=>(r x.2).map λy=>(x.1::y.1,y.2)
section
variable {K:Ζ}{te ta tb:TE}{tr:TA}
def tI:SA K xE pP:=by
 intro H₀ l Hf S σ H n s t R e Q q;cases e;exact q _ _ _ [] [] .refl R .nil .nil
def qY{k:MK}{r:MA}(hk:SK K te k)(hr:SA K tr r):SA K (tL te tr) (oW k r):=by
 intro H₀ l Hf S σ H U X Y R e Q q;obtain⟨x,E,e⟩:=oBq.mp e;obtain⟨y,G,e⟩:=oMq.mp e;cases e;refine hk R (a:=x.1) (S':=x.2) E _ λn H1 Fs1 v F u I z s=>hr I (as:=y.1) (S':=y.2) G _ λJ H2 Fs2 L M t R2 O B=>?_
 refine q _ _ _ (v::L) (F::M) (u.trans t) R2 (.cons (z.stp s.out t) O) ?_;rw[fCq];exact(s.stp t).app (B.back u) (s.apart (Hf1:=n) (λq P=>(z.owned q P).1) B)
def sH:SN K xE oS:=by
 intro H₀ l Hf S σ H n s t R e Q q;cases e;exact q _ _ _ [] .refl R .nil
def qC{k:ME}{r:ML}(hk:SR K te k)(hr:SN K tr r):SN K (tL te tr) (oJ k r):=by
 intro H₀ l Hf S σ H L M O R e Q q;obtain⟨x,s,e⟩:=oBq.mp e;obtain⟨y,t,e⟩:=oMq.mp e;cases e;refine hk R (d:=x.1) (S':=x.2) s _ λu P Fs1 v z B E=>hr B (ds:=y.1) (S':=y.2) t _ λG U Fs2 I n R2 J=>?_
 exact q _ _ _ (v::I) (z.trans n) R2 (.cons (E.mono n.sh) J)
end
def rY(a:MA):MK:=λS=>(a S).bind λx=>vi (x.1.length<=qF) (some (.ow x.1,x.2))
def JD(a:MA):MK:=λS=>(a S).bind λx=>vi (x.1.length<=qF) (some (.sh (.tup (x.1.map oP)),x.2))
section
variable {K:Ζ}{ta:TA}{a:MA}
def AD(ha:SA K ta a):SK K (aap ta) (rY a):=by
 intro H₀ l Hf S σ H P U X R e Q q;obtain⟨x,G,e⟩:=oBq.mp e;rcases pK e with⟨hl,e⟩|e
 .skip
  cases e;refine ha R (as:=x.1) (S':=x.2) G _ λI Y Fs1 J t u z n B=>⟨by rw[uq,←n.1];exact hl,λp s=>?_⟩
  obtain⟨E,R2,L,n2,n3⟩:=z.new (o:=.lst J) s;refine q _ _ _ (.ref p) (p::t.flatten) (u.trans E) R2 (pV.news pB L (n.stp B.out E)) ?_;have M:=(xB.one z s).back u;refine(show xB _ _ _ _ ([p]++t.flatten)from M.app B λq O m=>?_)
  rw[mSq.mp O]at m;exact(n.owned p m).1 s
 .cases e
def XH(ha:SA K ta a):SK K (aax ta) (JD a):=by
 intro H₀ l Hf S σ H O P U R e Q q;obtain⟨x,t,e⟩:=oBq.mp e;rcases pK e with⟨hl,e⟩|e
 .skip
  cases e;refine ha R (as:=x.1) (S':=x.2) t _ λu X Fs1 z Y B E n G=>⟨by rw[uq,←n.1];exact hl,λp I=>?_⟩
  obtain⟨R2,J,L⟩:=E.gives B n G;obtain⟨s,M⟩:=R2.layF (o:=.tup z) I;exact q _ _ _ (.ref p) [] (L.trans s) M (.sh (.mk_tup pB (J.mono s.sf))) .nil
 .cases e
end
def QQ(a b:ML):MK:=λS=>(a S).bind λx=>(b x.2).bind λy=>vi (x.1.length+y.1.length<=qF) (some (.ow ((x.1++y.1).map .sh),y.2))
section
variable {K:Ζ}{ta tb:TE}{a b:ML}
def WT(ha:SL K ta a)(hb:SL K tb b):SK K (Tz Zn ta tb) (QQ a b):=by
 intro H₀ t Hf S σ H Fs av S' R e Q q;obtain⟨x,G,e⟩:=oBq.mp e;obtain⟨y,I,e⟩:=oBq.mp e;rcases pK e with⟨hl,e⟩|e
 .skip
  cases e;refine ha R (ds:=x.1) (S':=x.2) G _ λJ H1 Fs1 L l u M O z=>hb M (ds:=y.1) (S':=y.2) I _ λP H2 Fs2 U n s R2 X B=>?_
  refine⟨L,U,l,n,rfl,rfl,s.sh _ _ O,X,by rw[uq,←z.1,←B.1];exact hl,λp E=>?_⟩
  obtain⟨Y,R3,n1,n2,n3⟩:=R2.new (o:=.lst (l++n)) E;exact q _ _ _ (.ref p) [p] ((u.trans s).trans Y) R3 (pV.new pB n1 ((z.mono s.sf).append B)) ((xB.one R2 E).back (u.trans s))
 .cases e
end
abbrev MO:=AS->Option (Option Int×AS)
def SO(K:Ζ)(to:TO)(m:MO):Prop:=∀{H₀ l Hf:Hp}{S:AS}{σ:St}{H:Hp}{u:List Δ}{o:Option Int}{S':AS},pZ K H₀ l Hf S σ H u->m S=some (o,S')->∀Q:Option Int->Hp->Prop,
 (∀n t s,yR Hf H u n t s->pZ K H₀ l n S' σ t s->Q o t)->to σ H Q
def Cs:MO:=λS=>some (none,S)
def yQ(m:ME):MO:=λS=>(m S).bind λx=>match x.1 with
 | .int i=>some (some i,x.2)
 |_=>none
def Al{α:Type}(xs:List α)(lo hi:Option Int):List α:=(xs.drop (HT.E1 xs.length 0 lo)).take (HT.E1 xs.length xs.length hi-HT.E1 xs.length 0 lo)
def SC(l:ML)(lo hi:MO):MK:=λS=>(l S).bind λx=>(lo x.2).bind λy=>(hi y.2).map λz=>(.ow ((Al x.1 y.1 z.1).map .sh),z.2)
section
variable {K:Ζ}{te:TE}{tl th:TO}{l:ML}{lo hi:MO}{m:ME}
def TB:SO K Lr Cs:=by
 intro H₀ n Hf S σ H s o t R e Q q;cases e;exact q _ _ _ .refl R
def G6(h:SR K te m):SO K (VN te) (yQ m):=by
 intro H₀ n Hf S σ H G o I R e Q q;obtain⟨x,t,e⟩:=oBq.mp e;refine h R (d:=x.1) (S':=x.2) t _ λu J Fs1 v z B s=>?_
 split at e
 .rename_i i E;rw[E]at s;cases s;cases e;exact⟨i,rfl,q _ _ _ z B⟩
 .cases e
def qk.cut{H:Hp}{ds:List D}{vs:List V}(r:qk K H ds vs)(lo hi:Option Int):qk K H (Al ds lo hi) (JI vs lo hi):=by
 unfold Al JI;rw[r.1];exact(r.drop _).take _
def VE(hl:SQ K te l)(u:SO K tl lo)(B:SO K th hi):SK K (tSl (Zx K) te tl th) (SC l lo hi):=by
 intro H₀ E Hf S σ H Fs av S' R e Q q;obtain⟨x,L,e⟩:=oBq.mp e;obtain⟨y,M,e⟩:=oBq.mp e;obtain⟨z,O,e⟩:=oMq.mp e;cases e;refine hl R (ds:=x.1) (S':=x.2) L _ λP H1 Fs1 U n G X Y r1=>u X (o:=y.1) (S':=y.2) M _ λHf2 H2 Fs2 s R2=>B R2 (o:=z.1) (S':=z.2) O _ λHf3 H3 Fs3 t I=>?_
 refine⟨U,n,rfl,(s.sh.trans t.sh).seq Y,λp J=>?_⟩
 obtain⟨t4,R4,n1,n2,n3⟩:=I.new (o:=.lst (JI n y.1 z.1)) J;exact q _ _ _ (.ref p) [p] (((G.trans s).trans t).trans t4) R4 (pV.new pB n1 ((r1.mono (s.sf.trans t.sf)).cut _ _)) ((xB.one I J).back ((G.trans s).trans t))
end
def E7:D->D->Option D
 | .list ds,.int i=>atI ds i
 | .scr ns,.int i=>(atI ns i).map .int
 |_,_=>none
def tO:D->D->Option D
 | .tup ds,.int i=>atI ds i
 |_,_=>none
def VW(l:ML)(b:ME):MK:=λS=>(l S).bind λx=>(b x.2).bind λy=>match y.1 with
 | .int i=>(atI x.1 i).map λd=>(.sh d,y.2)
 |_=>none
section
variable {K:Ζ}{ta tb:TE}
theorem qk.atI{H:Hp}{ds:List D}{vs:List V}{i:Int}{d:D}(r:qk K H ds vs)(h:L2.atI ds i=some d):∃v,L2.atI vs i=some v/\rp K H d v:=by
 unfold L2.atI at h ⊢;rw[r.1]at h;obtain⟨j,l,n⟩:=oBq.mp h;rw[l];exact r.get n
def Lj:CY K (Su K) E7:=by
 intro x y H Q O P d u z e q;unfold E7 at e;split at e
 .rename_i G i;cases z;obtain⟨p,B,rfl,h,r⟩:=u.list_inv;obtain⟨l,I⟩:=r;obtain⟨v,s,t⟩:=qk.atI (K:=K) (H:=H) (ds:=G) (vs:=B) ⟨l,I⟩ e;exact⟨p,B,i,v,rfl,rfl,rJ.of h,s,q v t⟩
 .rename_i E i;cases z;cases u;rename_i p h;obtain⟨n,s,t⟩:=oMq.mp e;subst t;obtain⟨v,J,L⟩:=qk.atI (K:=K) (H:=H) (tq E) (i:=i) (d:=.int n) (by
   unfold L2.atI at s ⊢;rw[lMq];obtain⟨j,M,g2⟩:=oBq.mp s;rw[M];show(E.map D.int)[j]?=_;rw[gMq,g2];rfl)
  exact⟨p,_,i,v,rfl,rfl,h,J,q v L⟩
 .cases e
def QV:CY K (XJ K) tO:=by
 intro x y H Q B E d n s e q;unfold tO at e;split at e
 .rename_i t i;cases s;obtain⟨p,l,rfl,h,r⟩:=n.tup_inv;obtain⟨v,u,z⟩:=qk.atI (K:=K) (H:=H) (ds:=t) (vs:=l) r e;exact⟨p,l,i,v,rfl,rfl,C5.of h,u,q v z⟩
 .cases e
def Vw{l:ML}{b:ME}(hl:SQ K ta l)(hb:SR K tb b):SK K (Tz (Su K) ta tb) (VW l b):=by
 intro H₀ n Hf S σ H Y av S' R e Q q;obtain⟨x,z,e⟩:=oBq.mp e;obtain⟨y,B,e⟩:=oBq.mp e;refine hl R (ds:=x.1) (S':=x.2) z _ λE H1 Fs1 G s I J L M=>hb J (d:=y.1) (S':=y.2) B _ λO H2 Fs2 v2 t R2 u=>?_
 split at e
 .rename_i i P;rw[P]at u;cases u;obtain⟨d,U,e⟩:=oMq.mp e;cases e;obtain⟨v,X,g2⟩:=(M.mono t.sf).atI U;exact⟨G,s,i,v,rfl,rfl,t.sh.seq L,X,q _ _ _ v [] (I.trans t) R2 (.sh g2) .nil⟩
 .cases e
end
def Oy(K:Ζ)(r:List V->Hp->VK->Prop)(f:List D->Option D):Prop:=∀{vs:List V}{H:Hp}{Q:VK}{ds:List D}{d:D},qk K H ds vs->f ds=some d->(∀v,rp K H d v->Q v H)->r vs H Q
def uY(f:List D->Option D)(a:ML):ME:=λS=>(a S).bind λx=>(f x.1).map λd=>(d,x.2)
def FT{K:Ζ}{r:List V->Hp->VK->Prop}{f:List D->Option D}{n:TA}{a:ML}(hr:Oy K r f)(ha:SN K n a):SR K (Ot r n) (uY f a):=by
 intro H₀ l Hf S σ H J d L R e Q q;obtain⟨x,s,e⟩:=oBq.mp e;obtain⟨z,t,e⟩:=oMq.mp e;cases e;exact ha R (ds:=x.1) (S':=x.2) s _ λu M Fs1 O B E G=>hr G t λv I=>q _ _ _ v B E I
def rH:List D->Option D
 | [.list ds]=>some (.int ds.length)
 | [.tup ds]=>some (.int ds.length)
 | [.scr ns]=>some (.int ns.length)
 | [.str x]=>vi (x.length<=qF) (some (.int x.length))
 |_=>none
def IE:List D->Option D
 | [.dict ds]=>some (.int ds.length)
 |_=>none
def Vk:List D->Option D
 | [.int i]=>some (.int (if i<0 then -i else i))
 |_=>none
def acb:List D->Option D
 | [.int i,.int j]=>some (.int (if j>i then j else i))
 |_=>none
def abP:List D->Option D
 | [.int i,.int j]=>some (.int (if j<i then j else i))
 |_=>none
def abV:List D->Option D
 | [.int i]=>some (.int i)
 | [.bl k]=>some (.int (if k then 1 else 0))
 |_=>none
def Xo:D->String->Option D
 | .int _,T=>if T = "int" then some (.bl true)else if T = "bool" then some (.bl false)else none
 | .bl _,T=>if T = "bool" ∨ T = "int" then some (.bl true)else none
 | .str _,T=>if T = "str" then some (.bl true)else none
 | .list _,T=>if T = "list" then some (.bl true)else none
 | .tup _,T=>if T = "tuple" then some (.bl true)else none
 | .dict _,T=>if T = "dict" then some (.bl true)else none
 |_,_=>none
def Iw:List D->Option D
 | [x,.ty T]=>Xo x T
 |_=>none
def qJ:List D->Option Ϝ
 | []=>some []
 | .int i::ds=>(qJ ds).map (i :: ·)
 |_=>none
theorem uN:∀{ds:List D}{ns:Ϝ},qJ ds=some ns->ds=ns.map .int
 | [],ns,h=>by cases h;rfl
 |d::ds,ns,h=>by
  cases d with
  |int i=>
   obtain⟨s,l,n⟩:=oMq.mp (show(qJ ds).map (i :: ·)=some ns from h)
   subst n;rw[uN l];rfl
  |_=>cases h
@[simp] theorem rB (ns:Ϝ):qJ (ns.map .int)=some ns:=by
 induction ns with
 |nil=>rfl
 |cons n ns l=>show(qJ (ns.map .int)).map (n :: ·)=_;rw[l];rfl
theorem rn{K:Ζ}{H:Hp}:∀{ns:Ϝ}{vs:List V},qk K H (ns.map .int) vs->vs=ns.map V.int
 | [],vs,h=>h.nil_inv
 |n::ns,vs,h=>by
  obtain⟨v,t,rfl,l,s⟩:=qk.cons_inv (d:=.int n) (ds:=ns.map .int) h;cases l;rw[rn s];rfl
def Hj:Ϝ->Option Int
 | []=>none
 |n::ns=>some (ns.foldl min n)
theorem xu:∀(ns:Ϝ) (n:Int),ns.foldl min n∈n::ns
 | [],n=>by simp
 |m::ns,n=>by
  have h:=xu ns (min n m);rw[cZ];rcases ae.mp h with e|e
  .rw[e]
   by_cases c:n<=m
   .rw[Int.min_eq_left c];simp
   .rw[Int.min_eq_right (by lia)];simp
  .exact mCo _ (mCo _ e)
theorem vD:∀(ns:Ϝ) (n:Int),(ns.foldl min n<=n)/\∀x∈ns,ns.foldl min n<=x
 | [],n=>⟨iQ _,λx h=>by cases h⟩
 |m::ns,n=>by
  obtain⟨t,l⟩:=vD ns (min n m);rw[cZ];refine⟨by lia,λx s=>?_⟩
  rcases ae.mp s with e|e
  .subst e;lia
  .exact l x e
def N7:List D->Option D
 | [.list ds]=>(qJ ds).bind λns=>(Hj ns).map .int
 |_=>none
section
variable {K:Ζ}
def BW:Oy K (λxs H Q=>∃x n,xs=[x]/\aaj K x H n/\Q (.int n) H) rH:=by
 intro E H Q G d r e q;unfold rH at e;split at e
 .obtain⟨v,t,rfl,l,s⟩:=r.cons_inv;rw[s.nil_inv];obtain⟨p,u,rfl,z,B⟩:=l.list_inv;cases e;exact⟨_,_,rfl,.inl ⟨u,rJ.of z,B.1⟩,q _ .int⟩
 .obtain⟨v,t,rfl,l,s⟩:=r.cons_inv;rw[s.nil_inv];obtain⟨p,u,rfl,z,B⟩:=l.tup_inv;cases e;exact⟨_,_,rfl,.inr ⟨u,C5.of z,B.1⟩,q _ .int⟩
 .obtain⟨v,t,rfl,l,s⟩:=r.cons_inv;rw[s.nil_inv];cases e;cases l with
  |scr h=>exact⟨_,_,rfl,.inl ⟨_,h,(lMq _).symm⟩,q _ .int⟩
 .rcases pK e with⟨hl,e⟩|e
  .skip
   obtain⟨v,t,rfl,l,s⟩:=r.cons_inv;rw[s.nil_inv];cases e;cases l;exact⟨_,_,rfl,⟨by rw[uq];exact hl,rfl⟩,q _ .int⟩
  .cases e
 .cases e
def S7:Oy K (λxs H Q=>∃a kvs,xs=[V.ref a]/\H a=some (.dK kvs)/\Q (.int kvs.length) H) IE:=by
 intro u H Q x d r e q;unfold IE at e;split at e
 .obtain⟨v,z,rfl,l,n⟩:=r.cons_inv;rw[n.nil_inv];obtain⟨p,B,rfl,s,t⟩:=l.dict_inv;cases e;have hl:=congrArg bV t.1;rw[lMq,lMq]at hl;rw[hl]at q;exact⟨_,_,rfl,s,q _ .int⟩
 .cases e
def Wn:Oy K (λxs H Q=>∃i,xs=[.int i]/\Q (.int (if i<0 then -i else i)) H) Vk:=by
 intro s H Q t d r e q;unfold Vk at e;split at e
 .obtain⟨v,u,rfl,l,n⟩:=r.cons_inv;rw[n.nil_inv];cases l;cases e;exact⟨_,rfl,q _ .int⟩
 .cases e
def Wb:Oy K (λxs H Q=>∃(a:Addr) (ns:Ϝ),xs=[.ref a]/\rJ K H a (ns.map V.int)/\0<ns.length/\∀M,M∈ns->(∀x,x∈ns->M<=x)->Q (.int M) H) N7:=by
 intro O H Q P d r e q;unfold N7 at e;split at e
 .obtain⟨v,R,rfl,l,B⟩:=r.cons_inv;rw[B.nil_inv];obtain⟨ns,E,e⟩:=oBq.mp e;obtain⟨m,s,e⟩:=oMq.mp e;cases e;rw[uN E]at l;obtain⟨p,S,rfl,t,G⟩:=l.list_inv;rw[rn G]at t;cases ns with
  |nil=>cases s
  |cons n ns=>
   cases s;refine⟨p,_,rfl,rJ.of t,by simp,λM I J=>?_⟩
   have L:M=ns.foldl min n:=by
    have U:=J _ (xu ns n);have u:=vD ns n;have X:ns.foldl min n<=M:=by
     rcases ae.mp I with z|z
     .subst z;exact u.1
     .exact u.2 M z
    lia
   rw[L];exact q _ .int
 .cases e
def Xj:Oy K (λxs H Q=>∃x T b,xs=[x,.ty T]/\XZ K x H T b/\Q (.bl b) H) Iw:=by
 intro I H Q J d r e q;unfold Iw at e;split at e
 rotate_left
 .cases e
 rename_i x T;obtain⟨v,L,rfl,n,B⟩:=r.cons_inv;obtain⟨u,M,rfl,E,G⟩:=B.cons_inv;rw[G.nil_inv];cases E;unfold Xo at e;cases x <;> first|(cases e;done)|dsimp only at e
 case int=>
  cases n;split at e
  .rename_i l;cases e;exact⟨_,_,_,rfl,.inl ⟨l,rfl⟩,q _ .bl⟩
  .split at e
   .rename_i l;cases e;exact⟨_,_,_,rfl,.inr ⟨l,rfl⟩,q _ .bl⟩
   .cases e
 case bl=>
  cases n;split at e
  .rename_i l;cases e;rcases l with l|l
   .exact⟨_,_,_,rfl,.inl ⟨l,rfl⟩,q _ .bl⟩
   .exact⟨_,_,_,rfl,.inr ⟨l,rfl⟩,q _ .bl⟩
  .cases e
 case str=>
  cases n;split at e
  .rename_i l;cases e;exact⟨_,_,_,rfl,⟨l,rfl⟩,q _ .bl⟩
  .cases e
 case list=>
  obtain⟨p,s,rfl,t,z⟩:=n.list_inv;split at e
  .rename_i l;cases e;exact⟨_,_,_,rfl,.inl ⟨l,rfl,s,rJ.of t⟩,q _ .bl⟩
  .cases e
 case tup=>
  obtain⟨p,s,rfl,t,z⟩:=n.tup_inv;split at e
  .rename_i l;cases e;exact⟨_,_,_,rfl,.inr (.inr ⟨l,rfl,s,C5.of t⟩),q _ .bl⟩
  .cases e
 case dict=>
  obtain⟨p,s,rfl,t,z⟩:=n.dict_inv;split at e
  .rename_i l;cases e;exact⟨_,_,_,rfl,.inr (.inl ⟨l,rfl,s,t⟩),q _ .bl⟩
  .cases e
end
abbrev MF:=List D->Option AV
def rO(K:Ζ)(f:MF):Sp:=λvs H Q _=>∃(Hf:Hp) (ds:List D) (a:AV),pX Hf H/\qk K Hf ds vs/\f ds=some a /\
 ∀l n v F,pX Hf l->pX H n->pX l n->(∀b,Hf b=none->H b≠none->l b=none)->pV K l n a v F->F.Nodup->(∀q∈F,H q=none)->Q v n
def ql(f:MF)(a:MA):MK:=λS=>(a S).bind λx=>(f (x.1.map oP)).map λr=>(r,x.2)
def vq{K:Ζ}{f:MF}{E:TA}{a:MA}(ha:SA K E a):SK K (FR (rO K f) [] E0 E) (ql f a):=by
 intro H₀ s Hf S σ H Fs O S' R e Q q;obtain⟨x,P,e⟩:=oBq.mp e;obtain⟨z,U,e⟩:=oMq.mp e;cases e;refine ha R (as:=x.1) (S':=x.2) P _ λu B Fs1 vs X G Y r1 o1=>?_
 obtain⟨R2,r2,t2⟩:=Y.gives G r1 o1;rw[aNq];refine⟨_,_,O,R2.sub,r2,U,λt I v F J L s3 l r nd fr=>?_⟩
 have t3:yR (Z.frz u B X.flatten) B Fs1 t I Fs1:=⟨J,L,λ_ h=>h,λb h g=>.inl (by
  by_cases e:B b=none
  .exact e
  .exact absurd (l b h e) g)⟩
 have hn:∀q∈Fs1.flatten,t q=none:=λq n=>l q (R2.mem n).2 (R2.mem n).1
 have R3:pZ K H₀ s t x.2 σ I Fs1:=R2.more L J s3 hn λb h1 M=>l b (R2.lim b h1 M) (Lq R2.fr M)
 refine q _ _ _ v F (t2.trans t3) R3 r ⟨nd,λq n=>R2.fr.free (fr q n),λq n m=>(R2.mem m).1 (fr q n),λq n=>.inl (G.sh.free (fr q n))⟩
inductive Lv where
 |nx (S:AS)|rt (a:AV)|bk (S:AS)|ct (S:AS)
abbrev MS:=AS->Option Lv
def EU(K:Ζ)(H₀ n Hf:Hp)(D:An):Lv->Prop
 | .nx S=>∀l s t u,pX Hf l->pZ K H₀ n l S s t u->D.nx s t
 | .bk S=>∀l s t u,pX Hf l->pZ K H₀ n l S s t u->D.bk s t
 | .ct S=>∀l s t u,pX Hf l->pZ K H₀ n l S s t u->D.ct s t
 | .rt a=>∀l t v F,pX n l->pX H₀ t->pX l t->(∀b,n b=none->H₀ b≠none->l b=none)->pV K l t a v F->F.Nodup->(∀q∈F,H₀ q=none)->D.rt v t
def SS(K:Ζ)(t:TS)(m:MS):Prop:=∀{H₀ l Hf:Hp}{S:AS}{σ:St}{H:Hp}{n:List Δ}{o:Lv},pZ K H₀ l Hf S σ H n->m S=some o->∀D:An,EU K H₀ l Hf D o->t D σ H
def EU.mono{K:Ζ}{H₀ l Hf x:Hp}{D:An}{o:Lv}(s:pX Hf x)(h:EU K H₀ l Hf D o):EU K H₀ l x D o:=by
 cases o with
 |nx S=>exact λn t z u B R=>h n t z u (s.trans B) R
 |bk S=>exact λn t z u B R=>h n t z u (s.trans B) R
 |ct S=>exact λn t z u B R=>h n t z u (s.trans B) R
 |rt a=>exact h
def rG:MS:=λS=>some (.nx S)
def abt:MS:=λS=>some (.bk S)
def acf:MS:=λS=>some (.ct S)
def JG:MS:=λ_=>none
def oQ(a b:MS):MS:=λS=>(a S).bind λo=>match o with
 | .nx S'=>b S'
 |o=>some o
def oY(i:Nat)(k:MK):MS:=λS=>(k S).map λx=>.nx (x.2.set i (some x.1))
def PD(k:MK):MS:=λS=>(k S).map λx=>.nx x.2
def rm(k:MK):MS:=λS=>(k S).map λx=>.rt x.1
def A5(c:MT)(a b:MS):MS:=λS=>(c S).bind λx=>if x.1=true then a x.2 else b x.2
section
variable {K:Ζ}{t u:TS}{a b:MS}{te:TE}{k:MK}
def C9:SS K VJ rG:=by
 intro H₀ l Hf S σ H n o R e D h;cases e;exact h _ _ _ _ (.refl _) R
def Rx:SS K RH JG:=by
 intro H₀ l Hf S σ H n o R e D h;cases e
def tW(ha:SS K t a)(hb:SS K u b):SS K (Se t u) (oQ a b):=by
 intro H₀ l Hf S σ H I o R e D h;obtain⟨x,n,e⟩:=oBq.mp e;refine ha R n _ ?_;cases x with
 |nx J=>exact λz B L E s G=>hb G e D (h.mono s)
 |rt a=>cases e;exact h
 |bk a=>cases e;exact h
 |ct a=>cases e;exact h
def yJ{i:Nat}(hk:SK K te k):SS K (EG te (rE i)) (oY i k):=by
 intro H₀ l Hf S σ H J o R e D h;obtain⟨x,z,e⟩:=oMq.mp e;cases e;refine hk R (a:=x.1) (S':=x.2) z _ λB L Fs1 v F E G I n=>?_
 exact h _ _ _ _ E.sf (G.set i I n.nd λq s=>⟨n.fr q s,n.out q s⟩)
def S4(hk:SK K te k):SS K (Be te) (PD k):=by
 intro H₀ l Hf S σ H E o R e D h;obtain⟨x,n,e⟩:=oMq.mp e;cases e;exact hk R (a:=x.1) (S':=x.2) n _ λs G Fs1 v F z B I J=>h _ _ _ _ z.sf B
def DD(hk:SK K te k):SS K (aai te) (rm k):=by
 intro H₀ n Hf S σ H G o R e D h;obtain⟨x,z,e⟩:=oMq.mp e;cases e;exact hk R (a:=x.1) (S':=x.2) z _ λB I Fs1 v F J l E s=>h _ _ v F l.sf l.fr l.sub l.lim E s.nd s.fr
def Hz{c:TT}{m:MT}(B:ED K c m)(ha:SS K t a)(hb:SS K u b):SS K (Tf c t u) (A5 m a b):=by
 intro H₀ n Hf S σ H I o R e D h;obtain⟨x,E,e⟩:=oBq.mp e;refine B R (b:=x.1) (S':=x.2) E _ λG J Fs1 s z=>?_
 split at e
 .rename_i l;rw[l];exact By (ha z e D (h.mono s.sf))
 .rename_i l;rw[cO]at l;rw[l];exact BM (hb z e D (h.mono s.sf))
end
def qM(S:AS)(i:Nat):Option (List AV):=match S[i]?.join with
 |some (.ow l)=>some l
 |_=>none
def wO(S:AS)(i:Nat):Option (List (pI×D)):=match S[i]?.join with
 |some (.owd kvs)=>some kvs
 |_=>none
def vC(i:Nat)(k:MK):MS:=λS=>(qM S i).bind λ_=>(k S).bind λx=>(qM x.2 i).bind λl=>
 vi (l.length<qF) (some (.nx (x.2.set i (some (.ow (l++[x.1]))))))
def Qd(i:Nat)(l:ML):MS:=λS=>(qM S i).bind λ_=>(l S).bind λx=>(qM x.2 i).bind λn=>
 vi (n.length+x.1.length<=qF) (some (.nx (x.2.set i (some (.ow (n++x.1.map .sh))))))
def intOf:D->Option Int
 | .int i=>some i
 |_=>none
def acK(i:Nat)(b:ME)(k:MK):MS:=λS=>(sQ k S).bind λx=>(qM x.2 i).bind λ_=>(b x.2).bind λy=>(qM y.2 i).bind λl=>(intOf y.1).bind λj=>(Ih l.length j).map λn=>
 .nx (y.2.set i (some (.ow (((l.map oP).set n (oP x.1)).map .sh))))
def uG:D->Option pI
 | .int i=>some (.inl i)
 | .str x=>some (.inr x)
 |_=>none
def xn(kvs:List (pI×D))(k:pI)(d:D):List (pI×D):=if kvs.any (λkv=>decide (kv.1=k))then kvs.map (λkv=>if kv.1=k then (kv.1,d)else kv)else kvs++[(k,d)]
def getD(kvs:List (pI×D))(k:pI):Option D:=(kvs.find? λkv=>decide (kv.1=k)).map (·.2)
def xW(i:Nat)(b:ME)(k:MK):MS:=λS=>(sQ k S).bind λx=>(wO x.2 i).bind λ_=>(b x.2).bind λy=>(wO y.2 i).bind λkvs=>(uG y.1).bind λkey=>
 vi (kvs.length<qF) (some (.nx (y.2.set i (some (.owd (xn kvs key (oP x.1)))))))
section
variable {K:Ζ}{H₀ Hf₀ Hf H:Hp}{S:AS}{σ:St}{Fs:List Δ}
def pZ.turn(R:pZ K H₀ Hf₀ Hf S σ H Fs){i:Nat}{B:AV}{p:Addr}{o:HO}{F F':Δ}(s1:σ[i]?=some (some (.ref p)))(s2:Fs[i]?=some F)(s:p∈F)(r:pV K Hf (qw H p o) B (.ref p) F')(nd:F'.Nodup)
  (I:∀q∈F',H₀ q=none/\q∉(Fs.set i []).flatten):pZ K H₀ Hf₀ Hf (S.set i (some B)) σ (qw H p o) (Fs.set i F'):=by
 have t:p∈Fs.flatten:=mFq.mpr ⟨F,mGq s2,s⟩;have pn:Hf p=none:=(R.mem t).2;have J:H₀ p=none:=R.fresh p t;have out:=um R.nd s2 s;have L:pZ K H₀ Hf₀ Hf (S.set i none) σ (qw H p o) (Fs.set i []):=by
  refine⟨by simp[R.len],by simp[R.lenF],λj a n=>?_,λj n=>?_,rN i R.nd bw (λp s=>by cases s),λp s=>R.fresh p (qI s),λb u e=>?_,λb u e=>?_,R.lim,R.sf⟩
  .rw[bG]at n
   by_cases l:i=j
   .subst l;rw[pH rfl]at n;split at n <;> cases n
   .rw[pE l]at n;obtain⟨w,G,M,E,q⟩:=R.rep j a n;refine⟨w,G,M,by rw[aG l];exact E,q.keep (.refl _) (λc x=>pd λe=>out ?_) λc x=>(q.owned c x).2⟩
    subst e;exact mFq.mpr ⟨G,mGq (i:=j) (by rw[aG l];exact E),x⟩
  .rw[bG]at n
   by_cases l:i=j
   .subst l;rw[pH rfl]at n;split at n
    .rename_i hi;rw[aN (R.lenF.symm ▸ hi)]
    .cases n
   .rw[pE l]at n;rw[aG l];exact R.emp j n
  .rw[pd λz=>by rw[z,pn]at e;cases e]
   exact R.sub b u e
  .rw[pd λz=>by rw[z,J]at e;cases e]
   exact R.fr b u e
 exact L.again (F:=F) s1 r nd I
def qb{i:Nat}{F:Δ}{q:Addr}(s2:Fs[i]?=some F)(h:q∈F):q∈Fs.flatten:=mFq.mpr ⟨F,mGq s2,h⟩
def pR.snoc{as:List AV}{vs:List V}{B:List Δ}{a:AV}{v:V}{F:Δ}(r:pR K Hf H as vs B)(s:pV K Hf H a v F):pR K Hf H (as++[a]) (vs++[v]) (B++[F]):=by
 obtain⟨u,x,E⟩:=r;refine⟨by simp[u],by simp[x],λi b w G l n t=>?_⟩
 by_cases hi:i<as.length
 .rw[gZq hi]at l;rw[gZq (u ▸ hi)]at n;rw[gZq (x ▸ hi)]at t;exact E i b w G l n t
 .have z:i=as.length:=by
   have:=(gSq.mp l).1;rw[lAq,lSq]at this;lia
  subst z;rw[gYq (af _),cR]at l;rw[u,gYq (af _),cR]at n;rw[x,gYq (af _),cR]at t;cases l;cases n;cases t;exact s
def pR.keepUpd{as:List AV}{vs:List V}{l:List Δ}{p:Addr}{o:HO}(r:pR K Hf H as vs l)(t:p∉l.flatten):pR K Hf (qw H p o) as vs l:=
 ⟨r.1,r.2.1,λi a v F u x s=>by
  have q:=r.2.2 i a v F u x s;refine q.keep (.refl _) (λc n=>pd λe=>t ?_) λc n=>(q.owned c n).2
  subst e;exact mFq.mpr ⟨F,mGq s,n⟩⟩
def pV.keepUpd{a:AV}{v:V}{F:Δ}{p:Addr}{o:HO}(q:pV K Hf H a v F)(n:p∉F):pV K Hf (qw H p o) a v F:=
 q.keep (.refl _) (λc l=>pd λe=>n (e ▸ l)) λc l=>(q.owned c l).2
def UN{ds:List D}{vs:List V}(r:qk K Hf ds vs):pR K Hf H (ds.map .sh) vs (bu ds.length []):=
 ⟨by simp[r.1],by simp,λi a v F l n s=>by
  rw[gMq]at l;cases q:ds[i]? with
  |none=>rw[q]at l;cases l
  |some d=>
   rw[q]at l;cases l;have:F=[]:=dD (mGq s);subst this;exact .sh (r.2 i d v q n)⟩
def pR.append{as bs:List AV}{vs ws:List V}{z B:List Δ}(r:pR K Hf H as vs z)(s:pR K Hf H bs ws B):pR K Hf H (as++bs) (vs++ws) (z++B):=by
 obtain⟨u,x,E⟩:=r;refine⟨by simp[u,s.1],by simp[x,s.2.1],λi b w G l n t=>?_⟩
 by_cases hi:i<as.length
 .rw[gZq hi]at l;rw[gZq (u ▸ hi)]at n;rw[gZq (x ▸ hi)]at t;exact E i b w G l n t
 .rw[gYq (by lia)]at l
  rw[gYq (by lia),←u]at n
  rw[gYq (by lia),←x]at t
  exact s.2.2 _ b w G l n t
end
section
variable {K:Ζ}{te ta tb:TE}{k:MK}{b:ME}{l:ML}
def qh{S:AS}{i:Nat}{n:List AV}(h:qM S i=some n):S[i]?=some (some (.ow n)):=by
 unfold qM at h;split at h
 .rename_i z e;cases h;exact qd e
 .cases h
def AK{S:AS}{i:Nat}{kvs:List (pI×D)}(h:wO S i=some kvs):S[i]?=some (some (.owd kvs)):=by
 unfold wO at h;split at h
 .rename_i z e;cases h;exact qd e
 .cases h
theorem pZ.ow{H₀ n Hf H:Hp}{S:AS}{σ:St}{u:List Δ}(R:pZ K H₀ n Hf S σ H u){i:Nat}{t:List AV}(h:S[i]?=some (some (.ow t))):∃p vs s,σ[i]?=some (some (.ref p))/\u[i]?=some (p::s.flatten)/\H p=some (.lst vs)/\Hf p=none/\pR K Hf H t vs s /\
  p∉s.flatten/\s.flatten.Nodup/\∀q∈p::s.flatten,H₀ q=none/\q∉(u.set i []).flatten:=by
 obtain⟨v,F,x,z,r,nd,o,_⟩:=R.move h;obtain⟨p,vs,s,rfl,rfl,B,E,G⟩:=r.ow_inv;exact⟨p,vs,s,x,z,B,E,G,(ar.mp nd).1,(ar.mp nd).2,o⟩
def GH{i:Nat}(hk:SK K te k):SS K (Be (SB K "list" zM (yS i) (tL te xE))) (vC i k):=by
 intro H₀ G Hf S σ H Fs o R e D h;obtain⟨a0,Y,e⟩:=oBq.mp e;obtain⟨x,e1,e⟩:=oBq.mp e;obtain⟨avs,e2,e⟩:=oBq.mp e;rcases pK e with⟨hl,e⟩|e
 .skip
  cases e;obtain⟨p,vs,Gs,I,_,h1,_⟩:=R.ow (qh Y);refine⟨.ref p,I,.inl ⟨rfl,vs,rJ.of h1⟩,hk R (a:=x.1) (S':=x.2) e1 _ λHf1 H1 Fs1 v F t1 Q r1 s=>?_⟩
  obtain⟨p',J,L,t,n,M,O,u,B,P,E⟩:=Q.ow (qh e2);rw[I]at t;cases t;have U:p∉F:=λm=>s.out p m (qb n (by simp))
  refine⟨p,J,v,rfl,rfl,M,by rw[uq,←u.1];exact hl,h _ _ _ _ t1.sf (Q.turn I n (by simp) (F':=p::(L++[F]).flatten) (pV.news pB O ((u.keepUpd B).snoc (r1.keepUpd U))) ?_ λq X=>?_)⟩
  .rw[fAq,bB];refine ar.mpr ⟨λm=>(mAq.mp m).elim B U,nAq.mpr ⟨P,s.nd,λa ha b hb e=>s.out b hb (qb n (mCo _ (e ▸ ha)))⟩⟩
  .rw[fAq,bB]at X;rcases ae.mp X with z|z
   .exact E q (by rw[z];simp)
   .rcases mAq.mp z with z|z
    .exact E q (mCo _ z)
    .exact⟨s.fr q z,λm=>s.out q z (qI m)⟩
 .cases e
def Yq{i:Nat}(hl:SL K te l):SS K (Be (SB K "list" LJ (yS i) (tL te xE))) (Qd i l):=by
 intro H₀ u Hf S σ H Fs o R e D h;obtain⟨a0,X,e⟩:=oBq.mp e;obtain⟨x,Y,e⟩:=oBq.mp e;obtain⟨avs,e2,e⟩:=oBq.mp e;rcases pK e with⟨z,e⟩|e
 .skip
  cases e;obtain⟨p,vs,Gs,B,_,h1,_⟩:=R.ow (qh X);refine⟨.ref p,B,.inl ⟨rfl,vs,rJ.of h1⟩,hl R (ds:=x.1) (S':=x.2) Y _ λHf1 H1 Fs1 b ws t1 P hb Q=>?_⟩
  obtain⟨p',E,G,n,I,J,L,s,t,M,O⟩:=P.ow (qh e2);rw[B]at n;cases n;refine⟨p,b,E,ws,rfl,rfl,J,hb,by rw[uq,←s.1,←Q.1];exact z,h _ _ _ _ t1.sf (P.turn B I (by simp) (F':=p::(G++bu x.1.length []).flatten) (pV.news pB L ((s.keepUpd t).append (UN Q))) ?_ λq U=>?_)⟩
  .rw[fAq,tx,aNq];exact ar.mpr ⟨t,M⟩
  .rw[fAq,tx,aNq]at U;exact O q U
 .cases e
theorem BC{H:Hp}:∀{ds:List (pI×D)}{kvs:List (pI×V)}{key:pI},uF K H ds kvs->match getD ds key with
  |some d=>∃v,Bq kvs key=some v/\rp K H d v
  |none=>Bq kvs key=none
 | [],kvs,key,h=>by
  have:kvs=[]:=by
   have:=congrArg bV h.1;simpa using this.symm
  subst this;rfl
 |d::ds,[],key,h=>by
  have:=congrArg bV h.1;simp at this
 |d::ds,v::kvs,key,h=>by
  have n:d.1=v.1/\ds.map (·.1)=kvs.map (·.1):=by
   have:=h.1;simpa using this
  have s:rp K H d.2 v.2:=h.2 0 d v rfl rfl;have ht:uF K H ds kvs:=⟨n.2,λi a b t u=>h.2 (i+1) a b (by simpa using t) (by simpa using u)⟩
  unfold getD Bq
  by_cases c:d.1=key
  .rw[fo (by simp[c]),fo (by simp[←n.1,c])]
   exact⟨v.2,rfl,s⟩
  .rw[dX (by simp[c]),dX (by simp[←n.1,c])]
   exact BC ht
def vK{H:Hp}{d:D}{v:V}{key:pI}(h:uG d=some key)(r:rp K H d v):v=kV key:=by
 cases r <;> simp only[uG]at h
 all_goals first|(exfalso;simp at h;done)|skip
 all_goals (cases h;rfl)
def uF.key{H:Hp}{ds:List (pI×D)}{kvs:List (pI×V)}(h:uF K H ds kvs){i:Nat}{d:pI×D}{v:pI×V}(n:ds[i]?=some d)(s:kvs[i]?=some v):d.1=v.1:=by
 have:=congrArg (λl=>l[i]?) h.1
 simp only[gMq,n,s,df]at this;exact aO.inj this
def uF.len{H:Hp}{ds:List (pI×D)}{kvs:List (pI×V)}(h:uF K H ds kvs):ds.length=kvs.length:=by
 have:=congrArg bV h.1;simpa using this
def Sq{H:Hp}{ds:List (pI×D)}{kvs:List (pI×V)}{key:pI}{d:D}{v:V}(h:uF K H ds kvs)(r:rp K H d v):uF K H (xn ds key d) (zd kvs key v):=by
 have ha:(ds.any λkv=>decide (kv.1=key))=kvs.any λkv=>decide (kv.1=key):=by
  have n:(ds.any λkv=>decide (kv.1=key))=(ds.map (·.1)).any λk=>decide (k=key):=by rw[jI];rfl
  have s:(kvs.any λkv=>decide (kv.1=key))=(kvs.map (·.1)).any λk=>decide (k=key):=by rw[jI];rfl
  rw[n,s,h.1]
 unfold xn zd;rw[ha];split
 .refine⟨?_,λi a b n s=>?_⟩
  .rw[mPq,mPq];have n:((λkv:pI×D=>kv.1)∘λkv:pI×D=>if kv.1=key then (kv.1,d)else kv)=λkv=>kv.1:=by
    funext kv;show(if kv.1=key then (kv.1,d)else kv).1=kv.1
    split <;> rfl
   have s:((λkv:pI×V=>kv.1)∘λkv:pI×V=>if kv.1=key then (kv.1,v)else kv)=λkv=>kv.1:=by
    funext kv;show(if kv.1=key then (kv.1,v)else kv).1=kv.1
    split <;> rfl
   rw[n,s];exact h.1
  .rw[gMq]at n s;obtain⟨u,x,rfl⟩:=oMq.mp n;obtain⟨B,z,rfl⟩:=oMq.mp s;have hk:=h.key x z
   by_cases c:u.1=key
   .rw[pH c,pH (hk ▸ c)];exact r
   .rw[pE c,pE (hk ▸ c)];exact h.2 i u B x z
 .refine⟨by rw[mBq,mBq,h.1];rfl,λi a b n s=>?_⟩
  by_cases hi:i<ds.length
  .rw[gZq hi]at n;rw[gZq (h.len ▸ hi)]at s;exact h.2 i a b n s
  .have t:i=ds.length:=by
    have:=(gSq.mp n).1;rw[lAq,lSq]at this;lia
   subst t;rw[gYq (af _),cR]at n;rw[h.len,gYq (af _),cR]at s;cases n;cases s;exact r
def zi:MK:=λS=>some (.owd [],S)
def Tu:SK K R8 zi:=by
 intro H₀ n Hf S σ H x z B R e Q q;cases e;intro p s;obtain⟨t,R2,u,E,G⟩:=R.new (o:=.dK []) s;exact q _ _ _ (.ref p) [p] t R2 (.owd pB u ⟨rfl,λi d v h=>by simp at h⟩) (xB.one R s)
theorem pZ.owd{H₀ n Hf H:Hp}{S:AS}{σ:St}{s:List Δ}(R:pZ K H₀ n Hf S σ H s){i:Nat}{ds:List (pI×D)}(h:S[i]?=some (some (.owd ds))):∃p kvs,σ[i]?=some (some (.ref p))/\s[i]?=some [p]/\H p=some (.dK kvs)/\Hf p=none/\uF K Hf ds kvs /\
  H₀ p=none/\p∉(s.set i []).flatten:=by
 obtain⟨v,F,t,u,r,nd,o,_⟩:=R.move h;obtain⟨p,kvs,rfl,rfl,x,z,B⟩:=r.owd_inv;exact⟨p,kvs,t,u,x,z,B,(o p (by simp)).1,(o p (by simp)).2⟩
def Tn{i:Nat}(hk:SK K te k)(hb:SR K tb b):SS K (VY (yS i) tb te) (xW i b k):=by
 intro H₀ u Hf S σ H Fs o R e D h;obtain⟨x,M,e⟩:=oBq.mp e;obtain⟨a0,X,e⟩:=oBq.mp e;obtain⟨y,Y,e⟩:=oBq.mp e;obtain⟨kvs,e3,e⟩:=oBq.mp e;obtain⟨key,e4,e⟩:=oBq.mp e;rcases pK e with⟨hl,e⟩|e
 .skip
  cases e;have z:SK K te (sQ k):=SK.frz hk;refine z R (a:=x.1) (S':=x.2) M _ λHf1 H1 Fs1 v F t1 O P o1=>?_
  obtain⟨Q,_,B,_⟩:=O.owd (AK X);refine⟨_,B,hb O (d:=y.1) (S':=y.2) Y _ λHf2 H2 Fs2 w U R2 r2=>?_⟩
  obtain⟨q',kv,n,E,G,I,s,J,L⟩:=R2.owd (AK e3);rw[B]at n;cases n;obtain⟨x1,t⟩:∃d,x.1 = .sh d:=by
   obtain⟨w,_,e⟩:=oMq.mp M;rw[←e];exact⟨_,rfl⟩
  rw[t]at P;have rv:=(P.sh_inv.2).mono U.sf;have hw:=vK e4 r2;subst hw;refine⟨Q,_,rfl,OC.k G (by rw[uq,←s.len];exact hl),h _ _ _ _ (t1.sf.trans U.sf) (R2.turn B E (by simp) (F':=[Q]) (.owd pB I ?_) (by simp) λq hq=>by rw[mSq.mp hq];exact⟨J,L⟩)⟩
  rw[t,pW];exact Sq s rv
 .cases e
def XA(a b:ME):ME:=λS=>(a S).bind λx=>(b x.2).bind λy=>match y.1 with
 | .dict kvs=>(uG x.1).map λkey=>(.bl (getD kvs key).isSome,y.2)
 |_=>none
def rR(a b:ME):ME:=λS=>(a S).bind λx=>(b x.2).bind λy=>match y.1 with
 | .dict kvs=>(uG x.1).map λkey=>(.bl (!(getD kvs key).isSome),y.2)
 |_=>none
def xa(a b:ME):ME:=λS=>(a S).bind λx=>(b x.2).bind λy=>match x.1 with
 | .dict kvs=>(uG y.1).bind λkey=>(getD kvs key).map λd=>(d,y.2)
 |_=>none
def Nt{H:Hp}{kvs:List (pI×D)}{x:V}{key:pI}{d:D}(r:rp K H (.dict kvs) x)(e:getD kvs key=some d):∃a v,x = .ref a/\Co H a (kV key) (some v)/\rp K H d v:=by
 obtain⟨p,u,rfl,n,s⟩:=r.dict_inv;have g:=BC (key:=key) s;rw[e]at g;obtain⟨v,t,g2⟩:=g;exact⟨p,v,rfl,by rw[←t];exact Co.k n,g2⟩
def IM{H:Hp}{kvs:List (pI×D)}{x:V}{key:pI}(r:rp K H (.dict kvs) x):∃a o,x = .ref a/\Co H a (kV key) o/\o.isSome=(getD kvs key).isSome:=by
 obtain⟨p,u,rfl,n,s⟩:=r.dict_inv;have g:=BC (key:=key) s;refine⟨p,_,rfl,Co.k n,?_⟩;cases e:getD kvs key with
 |none=>rw[e]at g;rw[g];rfl
 |some d=>rw[e]at g;obtain⟨v,t,_⟩:=g;rw[t];rfl
def Yl{a:ME}(ha:SR K ta a)(hb:SR K tb b):SR K (Z8 ta tb) (XA a b):=by
 intro H₀ n Hf S σ H U d X R e Q q;obtain⟨x,t,e⟩:=oBq.mp e;obtain⟨y,u,e⟩:=oBq.mp e;refine ha R (d:=x.1) (S':=x.2) t _ λz Y Fs1 v1 B E G=>hb E (d:=y.1) (S':=y.2) u _ λI H2 Fs2 v2 J R2 s=>?_
 split at e
 .rename_i L M;rw[M]at s;obtain⟨key,O,e⟩:=oMq.mp e;cases e;obtain⟨p,o,rfl,P,g2⟩:=IM (key:=key) s;refine⟨p,o,rfl,by rw[vK O G];exact P,?_⟩
  rw[g2];exact q _ _ _ _ (B.trans J) R2 .bl
 .cases e
def Oj{a:ME}(ha:SR K ta a)(hb:SR K tb b):SR K (FZ ta tb) (rR a b):=by
 intro H₀ n Hf S σ H U d X R e Q q;obtain⟨x,t,e⟩:=oBq.mp e;obtain⟨y,u,e⟩:=oBq.mp e;refine ha R (d:=x.1) (S':=x.2) t _ λz Y Fs1 v1 B E G=>hb E (d:=y.1) (S':=y.2) u _ λI H2 Fs2 v2 J R2 s=>?_
 split at e
 .rename_i L M;rw[M]at s;obtain⟨key,O,e⟩:=oMq.mp e;cases e;obtain⟨p,o,rfl,P,g2⟩:=IM (key:=key) s;refine⟨p,o,rfl,by rw[vK O G];exact P,?_⟩
  rw[g2];exact q _ _ _ _ (B.trans J) R2 .bl
 .cases e
def UH{a:ME}(ha:SR K ta a)(hb:SR K tb b):SR K (Qg ta tb) (xa a b):=by
 intro H₀ n Hf S σ H X d Y R e Q q;obtain⟨x,u,e⟩:=oBq.mp e;obtain⟨y,z,e⟩:=oBq.mp e;refine ha R (d:=x.1) (S':=x.2) u _ λB H1 Fs1 v1 E G s=>hb G (d:=y.1) (S':=y.2) z _ λI H2 Fs2 v2 t R2 J=>?_
 split at e
 .rename_i L M;rw[M]at s;obtain⟨key,O,e⟩:=oBq.mp e;obtain⟨d',P,e⟩:=oMq.mp e;cases e;obtain⟨p,v,rfl,U,g2⟩:=Nt (s.mono t.sh) P;exact⟨p,v,rfl,by rw[vK O J];exact U,q _ _ _ _ (E.trans t) R2 g2⟩
 .cases e
end
def rF(x:Nat)(body:MS):List D->AS->Option Lv
 | [],S=>some (.nx S)
 |d::ds,S=>(body (S.set x (some (.sh d)))).bind λo=>match o with
  | .nx S'=>rF x body ds S'
  | .ct S'=>rF x body ds S'
  | .bk S'=>some (.nx S')
  | .rt a=>some (.rt a)
def qU:D->Option (List D)
 | .list ds=>some ds
 | .scr ns=>some (ns.map .int)
 |_=>none
def wD(x:Nat)(k:MK)(body:MS):MS:=λS=>(sQ k S).bind λy=>(qU (oP y.1)).bind λds=>rF x body ds y.2
noncomputable def qg(lo:Int)(n:Nat):List D:=(az n).map λi:Nat=>.int (lo+i)
def CV:List D->Option (List D)
 | [.int j]=>vi (-(2 ^ 62)<=j/\j<2 ^ 62) (some (qg 0 j.toNat))
 |_=>none
def abq:List D->Option (List D)
 | [.int i,.int j]=>vi (-(2 ^ 62)<=i/\i<2 ^ 62/\-(2 ^ 62)<=j/\j<2 ^ 62) (some (qg i (j-i).toNat))
 |_=>none
def D8(x:Nat)(a:ML)(body:MS):MS:=λS=>(a S).bind λy=>(CV y.1).bind λds=>rF x body ds y.2
def aa2(x:Nat)(a:ML)(body:MS):MS:=λS=>(a S).bind λy=>(abq y.1).bind λds=>rF x body ds y.2
def AC(x y:Nat)(body:MS):Nat->List D->AS->Option Lv
 |_,[],S=>some (.nx S)
 |i,d::ds,S=>(body ((S.set x (some (.sh (.int i)))).set y (some (.sh d)))).bind λo=>match o with
  | .nx S'=>AC x y body (i+1) ds S'
  | .ct S'=>AC x y body (i+1) ds S'
  | .bk S'=>some (.nx S')
  | .rt a=>some (.rt a)
def HA(x y:Nat)(k:MK)(body:MS):MS:=λS=>(sQ k S).bind λz=>(qU (oP z.1)).bind λds=>AC x y body 0 ds z.2
def AM(x y:Nat)(body:MS):List D->List D->AS->Option Lv
 |d::ds,e::es,S=>(body ((S.set x (some (.sh d))).set y (some (.sh e)))).bind λo=>match o with
  | .nx S'=>AM x y body ds es S'
  | .ct S'=>AM x y body ds es S'
  | .bk S'=>some (.nx S')
  | .rt a=>some (.rt a)
 |_,_,S=>some (.nx S)
def OE(x y:Nat)(k l:MK)(body:MS):MS:=λS=>(sQ k S).bind λz=>(sQ l z.2).bind λw=>(qU (oP z.1)).bind λds=>(qU (oP w.1)).bind λes=>
 if ds.length=es.length then AM x y body ds es w.2 else none
def rz(c:MT)(body:MS):Nat->MS
 |0,_=>none
 |n+1,S=>(c S).bind λx=>if x.1=true then (body x.2).bind λo=>match o with
   | .nx S'=>rz c body n S'
   | .ct S'=>rz c body n S'
   | .bk S'=>some (.nx S')
   | .rt a=>some (.rt a)
  else some (.nx x.2)
section
variable {K:Ζ}{te tf:TE}{k l:MK}{tb:TS}{body:MS}{x y:Nat}
def uO{H:Hp}{d:D}{ds:List D}{v:V}(e:qU d=some ds)(r:rp K H d v):∃a vs,v = .ref a/\rJ K H a vs/\qk K H ds vs:=by
 cases d with
 |list u=>
  cases e;obtain⟨p,vs,rfl,n,s⟩:=r.list_inv;exact⟨p,vs,rfl,rJ.of n,s⟩
 |scr t=>
  cases e;cases r with
  |scr h=>exact⟨_,_,rfl,h,tq t⟩
 |_=>cases e
def wu{te:TE}{S:AS}{z:AV×AS}(e:sQ k S=some z):∃d,z.1 = .sh d:=by
 obtain⟨w,_,e⟩:=oMq.mp e;rw[←e];exact⟨_,rfl⟩
def pZ.setD{H₀ n Hf H:Hp}{S:AS}{σ:St}{s:List Δ}{d:D}{v:V}(R:pZ K H₀ n Hf S σ H s)(i:Nat)(r:rp K Hf d v):pZ K H₀ n Hf (S.set i (some (.sh d))) (σ.set i (some v)) H (s.set i []):=
 R.set i (.sh r) bw λq h=>(by cases h)
def Ks(hk:SK K te k)(hb:SS K tb body):SS K (Mu (RE K te) (rE x) tb) (wD x k body):=by
 intro H₀ E Hf S σ H Fs o R e D h;obtain⟨z,e1,e⟩:=oBq.mp e;obtain⟨ds,e2,e⟩:=oBq.mp e;have hk':SK K te (sQ k):=SK.frz hk;refine hk' R (a:=z.1) (S':=z.2) e1 _ λI H1 Fs1 v F t1 R1 r1 o1=>?_
 obtain⟨d,hd⟩:=wu (te:=te) e1;rw[hd]at r1;rw[hd,pW]at e2;obtain⟨a,vs,rfl,g1,g2⟩:=uO e2 r1.sh_inv.2;refine⟨a,rfl,⟨vs,R1.sub.seq g1⟩,RW (xs:=vs) (λi s U=>∃n J t,pZ K H₀ E n J s U t/\pX I n/\rF x body (ds.drop i) J=some o) ⟨I,z.2,Fs1,R1,.refl _,e⟩
  (λi s U _ ⟨n,J,t,L,B,_⟩=>L.sub.seq (B.seq g1)) ?_ ?_⟩
 .rintro i w s U hw ⟨n,J,t,L,B,G⟩;obtain⟨di,M,rw'⟩:=g2.get' hw;have hlt:i<ds.length:=(gSq.mp M).1;rw[aC hlt]at G;have O:ds[i]=di:=(gSq.mp M).2;rw[O]at G;obtain⟨ob,e3,X⟩:=oBq.mp G;refine hb (L.setD x (rw'.mono B)) e3 _ ?_;cases ob with
  |nx Y=>exact λu P H2 Fs2 Q R2=>⟨u,Y,Fs2,R2,B.trans Q,X⟩
  |ct Y=>exact λu P H2 Fs2 Q R2=>⟨u,Y,Fs2,R2,B.trans Q,X⟩
  |bk Y=>cases X;exact λu P H2 Fs2 Q R2=>h _ _ _ _ ((t1.sf.trans B).trans Q) R2
  |rt a=>cases X;exact h
 .rintro s U ⟨n,J,t,L,B,G⟩;rw[←g2.1,du]at G;cases G;exact h _ _ _ _ (t1.sf.trans B) L
def Oh{H₀ s Hf1 Y:Hp}{R:AS}{σ:St}{Fs1:List Δ}{o:Lv}{D:An}{lo:Int}{n:Nat}(hb:SS K tb body)(R1:pZ K H₀ s Hf1 R σ Y Fs1)(e:rF x body (qg lo n) R=some o)(h:EU K H₀ s Hf1 D o) :
  ∃W:Nat->Nat->St->Hp->Prop,(∃m,W 0 m σ Y)/\∀i m σ H,W i m σ H ->
   ((T6 lo n).stop i H/\D.nx σ H)∨((T6 lo n).go i H/\∃N:St->Hp->Prop,(∀t u,N t u->∃m',m'<m/\W (i+1) m' t u)/\∀v u,(T6 lo n).yld i H v u->rE x v σ u λz M=>tb { D with nx:=N,ct:=N,bk:=D.nx } z M):=by
 refine NJ (λi t u=>∃B O G,pZ K H₀ s B O t u G/\pX Hf1 B/\rF x body ((qg lo n).drop i) O=some o) ⟨Hf1,R,Fs1,R1,.refl _,e⟩ ?_ ?_
 .rintro i t u hi ⟨B,O,G,S,J,I⟩;have U:i<(qg lo n).length:=by unfold qg;rw[lMq,aB];exact hi
  rw[aC U]at I;have X:(qg lo n)[i] = .int (lo+i):=by simp[qg]
  rw[X]at I;obtain⟨ob,e3,P⟩:=oBq.mp I;refine hb (S.setD x .int) e3 _ ?_;cases ob with
  |nx Q=>exact λE z M Fs2 L R2=>⟨E,Q,Fs2,R2,J.trans L,P⟩
  |ct Q=>exact λE z M Fs2 L R2=>⟨E,Q,Fs2,R2,J.trans L,P⟩
  |bk Q=>cases P;exact λE z M Fs2 L R2=>h _ _ _ _ (J.trans L) R2
  |rt a=>cases P;exact h
 .rintro t u ⟨B,O,G,S,J,I⟩;have hl:(qg lo n).length=n:=by unfold qg;rw[lMq,aB]
  rw[dU (fA hl)]at I;cases I;exact h _ _ _ _ J S
def OQ{t:TA}{a:ML}(ha:SN K t a)(hb:SS K tb body):SS K (Mu (RC t) (rE x) tb) (D8 x a body):=by
 intro H₀ s Hf S σ H P o R e D h;obtain⟨z,E,e⟩:=oBq.mp e;obtain⟨Q,n,e⟩:=oBq.mp e;refine ha R (ds:=z.1) (S':=z.2) E _ λG U Fs1 X I J u=>?_
 unfold CV at n;split at n
 .rename_i j L;rcases pK n with⟨B,n⟩|n
  .skip
   cases n;rw[L]at u;obtain⟨v,Y,rfl,M,O⟩:=u.cons_inv;rw[O.nil_inv];cases M;exact⟨j,rfl,B.1,B.2,Oh hb J e (h.mono I.sf)⟩
  .cases n
 .cases n
def SV(hk:SK K te k)(hb:SS K tb body):SS K (Mu (VA K (tL te xE)) (M7 K 2 (yZ (rE x) (yZ (rE y) N6))) tb) (HA x y k body):=by
 intro H₀ E Hf S σ H Fs o R e D h;obtain⟨z,e1,e⟩:=oBq.mp e;obtain⟨ds,e2,e⟩:=oBq.mp e;have hk':SK K te (sQ k):=SK.frz hk;refine hk' R (a:=z.1) (S':=z.2) e1 _ λI H1 Fs1 v F t1 R1 r1 o1=>?_
 obtain⟨d,hd⟩:=wu (te:=te) e1;rw[hd]at r1;rw[hd,pW]at e2;obtain⟨a,vs,rfl,g1,g2⟩:=uO e2 r1.sh_inv.2;refine⟨a,rfl,⟨vs,R1.sub.seq g1⟩,Qv (xs:=vs) (λi s U=>∃n J t,pZ K H₀ E n J s U t/\pX I n/\AC x y body i (ds.drop i) J=some o) ⟨I,z.2,Fs1,R1,.refl _,e⟩
  (λi s U _ ⟨n,J,t,L,B,_⟩=>L.sub.seq (B.seq g1)) ?_ ?_⟩
 .rintro i w s U T hw ⟨n,J,t,L,B,G⟩ hT;obtain⟨di,M,rw'⟩:=g2.get' hw;have hlt:i<ds.length:=(gSq.mp M).1;rw[aC hlt]at G;have O:ds[i]=di:=(gSq.mp M).2;rw[O]at G;obtain⟨ob,e3,X⟩:=oBq.mp G;have R2:=(L.new (o:=.tup [.int i,w]) hT).2.1;refine hb ((R2.setD x .int).setD y (rw'.mono B)) e3 _ ?_;cases ob with
  |nx Y=>exact λu P H2 Fs2 Q R2=>⟨u,Y,Fs2,R2,B.trans Q,X⟩
  |ct Y=>exact λu P H2 Fs2 Q R2=>⟨u,Y,Fs2,R2,B.trans Q,X⟩
  |bk Y=>cases X;exact λu P H2 Fs2 Q R2=>h _ _ _ _ ((t1.sf.trans B).trans Q) R2
  |rt a=>cases X;exact h
 .rintro s U ⟨n,J,t,L,B,G⟩;rw[←g2.1,du]at G;cases G;exact h _ _ _ _ (t1.sf.trans B) L
def US(hk:SK K te k)(hl:SK K tf l)(hb:SS K tb body):SS K (Mu (WB K (tL te (tL tf xE))) (M7 K 2 (yZ (rE x) (yZ (rE y) N6))) tb) (OE x y k l body):=by
 intro H₀ G Hf S σ H Fs o R e D h;obtain⟨z,e1,e⟩:=oBq.mp e;obtain⟨w,M,e⟩:=oBq.mp e;obtain⟨ds,e2,e⟩:=oBq.mp e;obtain⟨es,O,e⟩:=oBq.mp e;split at e
 .rename_i P;have hk':SK K te (sQ k):=SK.frz hk;have hl':SK K tf (sQ l):=SK.frz hl;refine hk' R (a:=z.1) (S':=z.2) e1 _ λHf1 H1 Fs1 v F t1 R1 r1 o1=>hl' R1 (a:=w.1) (S':=w.2) M _ λn H2 Fs2 v2 F2 t2 R2 r2 o2=>?_
  obtain⟨d,hd⟩:=wu (te:=te) e1;obtain⟨d2,Q⟩:=wu (te:=te) M;rw[hd]at r1;rw[hd,pW]at e2;rw[Q]at r2;rw[Q,pW]at O;obtain⟨a,U,rfl,g1,g2⟩:=uO e2 (r1.sh_inv.2.mono t2.sf);obtain⟨b,ws,rfl,g3,g4⟩:=uO O r2.sh_inv.2;refine⟨a,b,rfl,⟨U,R2.sub.seq g1⟩,⟨ws,R2.sub.seq g3⟩,Tq (xs:=U) (ys:=ws) (λi B H'=>∃s I E,pZ K H₀ G s I B H' E/\pX n s/\AM x y body (ds.drop i) (es.drop i) I=some o) ⟨n,w.2,Fs2,R2,.refl _,e⟩ (by rw[←g2.1,←g4.1,P])
   (λi B H' _ ⟨s,I,E,J,t,_⟩=>⟨J.sub.seq (t.seq g1),J.sub.seq (t.seq g3)⟩) ?_ ?_⟩
  .rintro i u u' B H' T hu hu' ⟨s,I,E,J,t,L⟩ hT;obtain⟨di,X,rw'⟩:=g2.get' hu;obtain⟨ei,Y,rw2⟩:=g4.get' hu';have hlt:i<ds.length:=(gSq.mp X).1;have hlt2:i<es.length:=(gSq.mp Y).1;rw[aC hlt,aC hlt2,(gSq.mp X).2,(gSq.mp Y).2]at L;obtain⟨ob,e3,e4⟩:=oBq.mp L;have R3:=(J.new (o:=.tup [u,u']) hT).2.1;refine hb ((R3.setD x (rw'.mono t)).setD y (rw2.mono t)) e3 _ ?_;cases ob with
   |nx S2=>exact λn σ2 H2 Fs2 s2 R2=>⟨n,S2,Fs2,R2,t.trans s2,e4⟩
   |ct S2=>exact λn σ2 H2 Fs2 s2 R2=>⟨n,S2,Fs2,R2,t.trans s2,e4⟩
   |bk S2=>cases e4;exact λn σ2 H2 Fs2 s2 R2=>h _ _ _ _ (((t1.sf.trans t2.sf).trans t).trans s2) R2
   |rt a=>cases e4;exact h
  .rintro B H' ⟨s,I,E,J,t,L⟩;have e0:ds.drop U.length=[]:=by rw[←g2.1,du]
   rw[e0]at L;have e0':AM x y body [] (es.drop U.length) I=some (.nx I):=by
    cases es.drop U.length <;> rfl
   rw[e0']at L;cases L;exact h _ _ _ _ ((t1.sf.trans t2.sf).trans t) J
 .cases e
def IW{c:TT}{m:MT}(n:Nat)(hc:ED K c m)(hb:SS K tb body):SS K (O9 c tb) (rz m body n):=by
 intro H₀ t Hf S σ H Fs o R e D h;refine⟨λn I Y=>∃s G B,pZ K H₀ t s G I Y B/\pX Hf s/\rz m body n G=some o,⟨n,Hf,S,Fs,R,.refl _,e⟩,?_⟩
 rintro n I Y ⟨s,G,B,R',M,e'⟩;cases n with
 |zero=>cases e'
 |succ n=>
  obtain⟨z,e1,X⟩:=oBq.mp e';refine hc R' (b:=z.1) (S':=z.2) e1 _ λHf1 H1 Fs1 O R1=>?_
  split at X
  .rename_i P;rw[P];refine By ⟨λu J=>∃s G B,pZ K H₀ t s G u J B/\pX Hf s/\rz m body n G=some o,λu J w=>⟨n,dS n,w⟩,?_⟩
   obtain⟨ob,e3,Q⟩:=oBq.mp X;refine hb R1 e3 _ ?_;cases ob with
   |nx U=>exact λE u J Fs2 L R2=>⟨E,U,Fs2,R2,(M.trans O.sf).trans L,Q⟩
   |ct U=>exact λE u J Fs2 L R2=>⟨E,U,Fs2,R2,(M.trans O.sf).trans L,Q⟩
   |bk U=>cases Q;exact λE u J Fs2 L R2=>h _ _ _ _ ((M.trans O.sf).trans L) R2
   |rt a=>cases Q;exact h
  .rename_i P;rw[cO]at P;rw[P];cases X;exact BM (h _ _ _ _ (M.trans O.sf) R1)
end
def rQ(l n:Nat)(m:MS):MF:=λds=>if ds.length=l then (m (ds.map (λd=>some (.sh d))++bu (n-ds.length) none)).bind λo=>match o with
  | .rt a=>some a
  | .nx _=>some (.sh .non)
  |_=>none
 else none
def Nd{K:Ζ}{Hf H:Hp}{ds:List D}{vs:List V}(N:List Str)(s:pX Hf H)(r:qk K Hf ds vs) :
  pZ K H Hf Hf (ds.map (λd=>some (.sh d))++bu (N.length-ds.length) none) (L2.vk N vs) H (bu (ds.length+(N.length-ds.length)) []):=by
 have fl:=tx (ds.length+(N.length-ds.length));refine⟨by simp[L2.vk,r.1],by simp,λi B e=>?_,λi e=>?_,by rw[fl];exact bw,λp l=>(by rw[fl]at l;cases l),s,pX.refl _,λb h _=>h,pX.refl _⟩
 .by_cases hi:i<ds.length
  .rw[gZq (by simpa using hi),gMq]at e
   obtain⟨d,n,t⟩:=oMq.mp e;cases t;obtain⟨v,u,x⟩:=r.get n;refine⟨v,[],?_,?_,.sh x⟩
   .unfold L2.vk;rw[gZq (by simpa[←r.1]using hi),gMq,u]
    rfl
   .rw[bM,pH (by lia)]
  .rw[gYq (by simpa using hi)]at e
   have:=mGq e;rw[dD this]at e;have z:=dD this;cases z
 .rw[bM];have hi:=(gSq.mp e).1;rw[lAq,lMq,bT]at hi;rw[pH hi]
def HL{K:Ζ}{t:TS}{m:MS}{G:Nat}(N:List Str)(h:SS K t m){vs:List V}{H:Hp}{Q:VK}{E:XK}(hs:rO K (rQ G N.length m) vs H Q E):t { nx:=λ_ u=>Q .non u,rt:=Q } (L2.vk N vs) H:=by
 obtain⟨Hf,P,a,s,r,e,q⟩:=hs;unfold rQ at e;split at e
 .obtain⟨o,I,x⟩:=oBq.mp e;refine h (Nd N s r) I _ ?_;cases o with
  |rt S=>
   cases x;exact λn u v F z J L l r nd fr=>q n u v F z J L l r nd fr
  |nx B=>
   cases x;exact λn M u O z R=>q n u .non [] R.sf R.fr R.sub R.lim (.sh .non) bw λq h=>(by cases h)
  |bk B=>cases x
  |ct B=>cases x
 .cases e
def Re{K:Ζ}{m:MS}{l n:Nat}{vs:List V}{H:Hp}{Q:VK}{E:XK}(hs:rO K (rQ l n m) vs H Q E):vs.length=l:=by
 obtain⟨Hf,t,a,s,r,e,q⟩:=hs;unfold rQ at e;split at e
 .rename_i h;rw[←r.1,h]
 .cases e
def fzAll:Θ->AS->Option AS
 | [],S=>some S
 |j::js,S=>(S[j]?.join).bind λa=>fzAll js (S.set j (some (.sh (oP a))))
def Ww:Option AV->Option AV
 |some (.sh d)=>some (.sh d)
 |_=>none
def Cd(S:AS):Θ->Option AS
 | []=>some []
 |j::js=>(Ww S[j]?.join).bind λa=>(Cd S js).map (some a :: ·)
def rL(tf:MT)(te:MK)(cap:AS):List D->Option (List AV)
 | []=>some []
 |d::ds=>(tf (some (.sh d)::cap)).bind λb=>if b.1=true then (te b.2).bind λa=>(rL tf te cap ds).map (a.1 :: ·)else rL tf te cap ds
abbrev MI:=AS->Option (List D×AS)
def Dp(k:MK):MI:=λS=>(sQ k S).bind λy=>(qU (oP y.1)).map λds=>(ds,y.2)
def iR1(a:ML):MI:=λS=>(a S).bind λy=>(CV y.1).map λds=>(ds,y.2)
def wU(l:MI)(fr:Θ)(tf:MT)(te:MK):MK:=λS=>(l S).bind λy=>(fzAll fr y.2).bind λs=>(Cd s fr).bind λcap=>vi (y.1.length<=qF) ((rL tf te cap y.1).map λn=>(.ow n,s))
def sJ:MT:=λS=>some (true,S)
section
variable {K:Ζ}{H₀ Hf₀ Hf Hf' H H':Hp}{S S':AS}{σ:St}{Fs Fs':List Δ}
def pZ.fz(R:pZ K H₀ Hf₀ Hf S σ H Fs){j:Nat}{a:AV}(e:S[j]?.join=some a):∃Hf' Fs',yR Hf H Fs Hf' H Fs'/\pZ K H₀ Hf₀ Hf' (S.set j (some (.sh (oP a)))) σ H Fs':=by
 obtain⟨v,F,s,t,r,nd,o,u⟩:=R.move (qd e);have n:∀q∈F,Hf q=none:=λq l=>(r.owned q l).2
 have R2:=u.frz o n;have x:=r.frozen (sS (H:=H) n) λq l=>B9 l
 have z:=R2.again (F:=F) (G:=[]) s (.sh x) bw λq h=>(by cases h)
 refine⟨_,_,⟨sS n,.refl _,λp B=>qI B,λb h g=>?_⟩,z⟩
 by_cases m:b∈F
 .exact .inr (mFq.mpr ⟨F,mGq t,m⟩)
 .rw[uS m]at g;exact absurd h g
theorem pZ.fzAll:∀{fr:Θ}{Hf:Hp}{S S':AS}{Fs:List Δ},pZ K H₀ Hf₀ Hf S σ H Fs->fzAll fr S=some S'->∃Hf' Fs',yR Hf H Fs Hf' H Fs'/\pZ K H₀ Hf₀ Hf' S' σ H Fs'
 | [],Hf,S,S',Fs,R,e=>by
  cases e;exact⟨Hf,Fs,.refl,R⟩
 |j::js,Hf,S,S',Fs,R,e=>by
  obtain⟨a,n,s⟩:=oBq.mp e;obtain⟨t,Fs1,u,x⟩:=R.fz n;obtain⟨l,Fs2,z,R2⟩:=pZ.fzAll x s;exact⟨l,Fs2,u.trans z,R2⟩
theorem DC(R:pZ K H₀ Hf₀ Hf S σ H Fs):∀{fr:Θ}{cap:AS},Cd S fr=some cap->cap.length=fr.length/\∀(k:Nat) (a:AV),cap[k]?=some (some a)->∃d v,a = .sh d/\(slots σ fr)[k]?=some (some v)/\rp K Hf d v
 | [],cap,e=>by
  cases e;exact⟨rfl,λk a h=>by simp at h⟩
 |j::js,cap,e=>by
  obtain⟨a,l,t⟩:=oBq.mp e;obtain⟨s,u,x⟩:=oMq.mp t;subst x;obtain⟨z,B⟩:=DC R u;refine⟨by simp[z],λk b hk=>?_⟩
  cases k with
  |zero=>
   cases hk;cases n:S[j]?.join with
   |none=>rw[n]at l;cases l
   |some c=>
    rw[n]at l;cases c with
    |sh d=>
     cases l;obtain⟨v,F,E,G,r⟩:=R.rep j _ (qd n);refine⟨d,v,rfl,?_,r.sh_inv.2⟩;show some ((σ[j]?).join)=_;rw[E];rfl
    |_=>cases l
  |succ k=>exact B k b (by simpa using hk)
def NQ(R:pZ K H₀ Hf₀ Hf S σ H Fs){fr:Θ}{cap:AS}(e:Cd S fr=some cap){d:D}{x:V}(s:rp K Hf d x) :
  pZ K H₀ Hf₀ Hf (some (.sh d)::cap) (some x::slots σ fr) H (bu (cap.length+1) []):=by
 obtain⟨t,u⟩:=DC R e;have fl:=tx (cap.length+1);refine⟨by simp[slots,t],by simp,λi z l=>?_,λi l=>?_,by rw[fl];exact bw,λp n=>(by rw[fl]at n;cases n),R.sub,R.fr,R.lim,R.sf⟩
 .cases i with
  |zero=>
   cases l;exact⟨x,[],rfl,by simp,.sh s⟩
  |succ k=>
   have hk:k<cap.length:=(gSq.mp (by simpa using l)).1
   obtain⟨E,v,rfl,B,r⟩:=u k z (by simpa using l)
   exact⟨v,[],by simpa using B,by rw[bM,pH (by lia)],.sh r⟩
 .rw[bM];have hi:=(gSq.mp l).1;rw[pH (by simpa using hi)]
def pZ.updOut(R:pZ K H₀ Hf₀ Hf S σ H Fs){p:Addr}{o:HO}(l:p∉Fs.flatten)(n:Hf p=none)(s:H₀ p=none):pZ K H₀ Hf₀ Hf S σ (qw H p o) Fs where
 len:=R.len
 lenF:=R.lenF
 rep:=λi t e=>by
  obtain⟨v,F,s1,s2,r⟩:=R.rep i t e;exact⟨v,F,s1,s2,r.keepUpd λm=>l (qb s2 m)⟩
 emp:=R.emp
 nd:=R.nd
 fresh:=R.fresh
 sub:=λb u e=>by
  rw[pd λz=>by rw[z,n]at e;cases e]
  exact R.sub b u e
 fr:=λb u e=>by
  rw[pd λz=>by rw[z,s]at e;cases e]
  exact R.fr b u e
 lim:=R.lim
 sf:=R.sf
def pZ.outer{u:St}{Fs2 n:List Δ}{l s:Hp}{I:AS}(R:pZ K H₀ Hf₀ Hf S σ H Fs)(E:pZ K H₀ Hf₀ l I u s n)(t:yR Hf H Fs2 l s n)(J:Fs2.flatten=[]):yR Hf H Fs l s Fs/\pZ K H₀ Hf₀ l S σ s Fs:=by
 have g:∀b,Hf b=none->H b≠none->l b=none:=λb x B=>by
  by_cases e:l b=none
  .exact e
  .rcases t.gr b x e with z|z
   .exact absurd z B
   .rw[J]at z;cases z
 exact⟨⟨t.sf,t.sh,λ_ h=>h,λb x B=>.inl (by
  by_cases e:H b=none
  .exact e
  .exact absurd (g b x e) B)⟩,R.more t.sh t.sf E.sub (λq G=>g q (R.mem G).2 (R.mem G).1) E.lim⟩
end
section
variable {K:Ζ}{tf:TT}{te:TE}{mf:MT}{me:MK}{fr:Θ}
def E8{H₀ s Hf1 I:Hp}{S1:AS}{σ:St}{Fs1:List Δ}{cap:AS}{ds:List D}{L:List AV}{J:It}{Q:VK}(hf:ED K tf mf)(he:SK K te me)
  (R1:pZ K H₀ s Hf1 S1 σ I Fs1) (ec:Cd S1 fr=some cap) (hl:ds.length<=qF) (e:rL mf me cap ds=some L)
  (hgo:∀i H,pX Hf1 H->i<ds.length->J.go i H) (hst:∀H,pX Hf1 H->J.stop ds.length H) (hy:∀i H x n,pX Hf1 H->i<ds.length->J.yld i H x n->n=H/\∃d,ds[i]?=some d/\rp K Hf1 d x)
  (q:∀Hf' n v F,yR Hf1 I Fs1 Hf' n Fs1->pZ K H₀ s Hf' S1 σ n Fs1->pV K Hf' n (.ow L) v F->xB H₀ I Fs1 Fs1 F->Q v n) :
  ∀l,I l=none->∃W:Nat->Nat->Hp->Prop,(∃m,W 0 m (qw I l (.lst [])))/\∀i m H,W i m H ->
   (J.stop i H/\Q (.ref l) H) ∨
   (J.go i H/\∃N:Hp->Prop,(∀n,N n->∃m',m'<m/\W (i+1) m' n)/\∀x n,J.yld i H x n->tf (some x::slots σ fr) n λb H2=>
    if b=true then te (some x::slots σ fr) H2 λy H3=>∃ys,H3 l=some (.lst ys)/\ys.length<kr/\N (qw H3 l (.lst (ys++[y])))else N H2):=by
 intro l B;obtain⟨t0,R0,n1,n2,n3⟩:=R1.new (o:=.lst []) B
 let P:Nat->Hp->Prop:=λi H=>∃Hf as S Gs sU,pZ K H₀ s Hf S1 σ H Fs1/\yR Hf1 I Fs1 Hf H Fs1/\H l=some (.lst S)/\Hf l=none/\pR K Hf H as S Gs/\xB H₀ I Fs1 Fs1 (l::Gs.flatten)/\as.length<=i /\
  rL mf me cap (ds.drop i)=some sU/\L=as++sU
 refine⟨λi m H=>m=ds.length-i/\i<=ds.length/\P i H,⟨ds.length,by simp,bx _,Hf1,[],[],[],L,R0,t0,pB,n1,.nil,xB.one R1 B,bx _,e,rfl⟩,?_⟩
 rintro i m H ⟨rfl,hi,Hf,as,S,Gs,sU,R,t,ha,hfa,ra,ow,la,er,ea⟩;have hs:pX Hf1 H:=t.sf.trans R.sub
 by_cases M:i<ds.length
 .refine .inr ⟨hgo i H hs M,P (i+1),λn p=>⟨ds.length-(i+1),by lia,rfl,M,p⟩,λx n y=>?_⟩
  obtain⟨rfl,d,hd,rx⟩:=hy i H x n hs M y;rw[aC M,(gSq.mp hd).2]at er;obtain⟨b,e1,e2⟩:=oBq.mp er;have fl:=tx (cap.length+1);refine hf (NQ R ec (rx.mono t.sf)) (b:=b.1) (S':=b.2) e1 _ λHf2 H2 Fs2 t2 R2=>?_
  obtain⟨O,R2'⟩:=R.outer R2 t2 fl;have E:H2 l=some (.lst S):=t2.sh _ _ ha;have U:Hf2 l=none:=by
   by_cases z:Hf2 l=none
   .exact z
   .rcases t2.gr l hfa z with z|z
    .rw[ha]at z;cases z
    .rw[fl]at z;cases z
  have ra2:=ra.stp (λq G=>ow.out q (mCo _ G)) O
  split at e2
  .rename_i hb;rw[hb];refine By ?_;obtain⟨a,e3,e4⟩:=oBq.mp e2;obtain⟨rest',e5,e6⟩:=oMq.mp e4;subst e6;refine he R2 (a:=a.1) (S':=a.2) e3 _ λHf3 H3 Fs3 v F t3 R3 r3 o3=>?_
   have fl2:Fs2.flatten=[]:=by
    cases hz:Fs2.flatten with
    |nil=>rfl
    |cons z zs=>
     have:=t2.own z (by rw[hz];simp)
     rw[fl]at this;cases this
   obtain⟨t3',R3'⟩:=R2'.outer R3 t3 fl2;have ha3:H3 l=some (.lst S):=t3.sh _ _ E;have X:Hf3 l=none:=by
    by_cases z:Hf3 l=none
    .exact z
    .rcases t3.gr l U z with z|z
     .rw[E]at z;cases z
     .rw[fl2]at z;cases z
   have ra3:=ra2.stp (λq G=>ow.out q (mCo _ G)) t3'
   have u:∀q∈F,H2 q=none:=λq G=>(o3.new q G).elim id λz=>by rw[fl2]at z;cases z
   have Y:l∉F:=λm=>by rw[u l m]at E;cases E
   have accG:l∉Gs.flatten:=(ar.mp ow.nd).1;have tt:=(t.trans O).trans t3';refine⟨S,ha3,?_,?_⟩
   .rw[uq,←ra.1];lia
   .refine⟨Hf3,as++[a.1],S++[v],Gs++[F],rest',R3'.updOut n3 X n2,⟨tt.sf,λb o eb=>?_,λ_ h=>h,tt.gr⟩,pB,X,(ra3.keepUpd accG).snoc (r3.keepUpd Y),?_,by rw[lAq,lSq];lia,e5,by rw[ea];simp⟩
    .rw[pd λz=>by rw[z,B]at eb;cases eb]
     exact tt.sh b o eb
    .rw[fAq,bB];have oF:xB H₀ I Fs1 Fs1 F:=⟨o3.nd,o3.fr,λq G m=>(R2'.mem m).1 (u q G),λq G=>.inl ((t.trans O).sh.free (u q G))⟩
     refine(show xB H₀ I Fs1 Fs1 ((l::Gs.flatten)++F)from ow.app oF λq G m=>?_)
     rcases ae.mp G with z|z
     .rw[z]at m;exact Y m
     .exact(ra2.owned q z).1 (u q m)
  .rename_i hb;rw[cO]at hb;rw[hb];exact BM ⟨Hf2,as,S,Gs,sU,R2',t.trans O,E,U,ra2,ow,by lia,e2,ea⟩
 .have e0:i=ds.length:=by lia
  subst e0;rw[du]at er;cases er;rw[aNq]at ea;subst ea;exact .inl ⟨hst H hs,q Hf H (.ref l) _ t R (pV.news ha hfa ra) ow⟩
def PQ{tl:TE}{k:MK}(hk:SK K tl k)(O:ED K tf mf)(P:SK K te me):SK K (LF (RE K tl) fr tf te) (wU (Dp k) fr mf me):=by
 intro H₀ B Hf S σ H Fs av S' R e Q q;obtain⟨y,l,e⟩:=oBq.mp e;obtain⟨z,I,l⟩:=oBq.mp l;obtain⟨ds,J,l⟩:=oMq.mp l;subst l;obtain⟨S2,U,e⟩:=oBq.mp e;obtain⟨X,Y,e⟩:=oBq.mp e;rcases pK e with⟨hl,e⟩|e
 .obtain⟨avs,e5,e⟩:=oMq.mp e;cases e;have E:SK K tl (sQ k):=SK.frz hk;refine E R (a:=z.1) (S':=z.2) I _ λHf1 H1 Fs1 v F L R1 M o1=>?_
  obtain⟨d,hd⟩:=wu (te:=tl) I;rw[hd]at M;rw[hd,pW]at J;obtain⟨Hf2,Fs2,G,R2⟩:=R1.fzAll U;obtain⟨a,n,rfl,u,g2⟩:=uO J (M.sh_inv.2.mono G.sf);refine⟨a,rfl,⟨n,R2.sub.seq u⟩,E8 (K:=K) O P R2 Y hl e5 (λi H s hi=>⟨n,n[i]'(g2.1 ▸ hi),s.seq u,gEg (g2.1 ▸ hi)⟩) (λH s=>⟨n,s.seq u,fA g2.1.symm⟩) (λi H x H' s hi y=>?_) λHf' H' v F t R' r o=>q _ _ _ v F ((L.trans G).trans t) R' r (o.back (L.trans G))⟩
  obtain⟨y1,y2⟩:=y;obtain⟨di,h1,h2⟩:=g2.get' (y2 n (s.seq u));exact⟨y1,di,h1,h2⟩
 .cases e
def yn{lo:Int}{n i:Nat}(h:i<n):(qg lo n)[i]?=some (.int (lo+i)):=by
 unfold qg;rw[gMq,dh h];rfl
def pY(lo:Int)(n:Nat):(qg lo n).length=n:=by unfold qg;rw[lMq,aB]
def Ol{B:TA}{a:ML}(ha:SN K B a)(L:ED K tf mf)(M:SK K te me):SK K (LF (RC B) fr tf te) (wU (iR1 a) fr mf me):=by
 intro H₀ u Hf S σ H Fs av S' R e Q q;obtain⟨y,n,e⟩:=oBq.mp e;obtain⟨z,O,n⟩:=oBq.mp n;obtain⟨ds,l,n⟩:=oMq.mp n;subst n;obtain⟨S2,P,e⟩:=oBq.mp e;obtain⟨U,X,e⟩:=oBq.mp e;rcases pK e with⟨hl,e⟩|e
 .obtain⟨Y,e5,e⟩:=oMq.mp e;cases e;refine ha R (ds:=z.1) (S':=z.2) O _ λHf1 H1 Fs1 vs E R1 G=>?_
  unfold CV at l;split at l
  .rename_i j hz;rcases pK l with⟨I,l⟩|l
   .skip
    cases l;rw[hz]at G;obtain⟨v,ws,rfl,h1,h2⟩:=G.cons_inv;rw[h2.nil_inv];cases h1;obtain⟨Hf2,Fs2,J,R2⟩:=R1.fzAll P;refine⟨j,rfl,I.1,I.2,E8 (K:=K) L M R2 X hl e5 (λi H s hi=>(by rw[pY]at hi;exact hi)) (λH s=>(by rw[pY];exact af _)) (λi H x H' s hi y=>?_) λHf' H' v F t R' r o=>q _ _ _ v F ((E.trans J).trans t) R' r (o.back (E.trans J))⟩
    obtain⟨y1,y2⟩:=y;rw[pY]at hi;exact⟨y1,_,yn hi,by rw[y2];exact .int⟩
   .cases l
  .cases l
 .cases e
def Yc:ED K ZD sJ:=by
 intro H₀ l Hf S σ H n b s R e Q q;cases e;exact q _ _ _ .refl R
end
mutual
def py:D->Option PyData
 | .non=>some .none
 | .bl b=>some (.bool b)
 | .int i=>some (.int i)
 | .str x=>some (.str x)
 | .list ds=>(SE ds).map .list
 | .tup ds=>(SE ds).map .tuple
 |_=>none
def SE:List D->Option (List PyData)
 | []=>some []
 |d::ds=>(py d).bind λx=>(SE ds).map (x :: ·)
end
def Rf(d e:D):Option D:=(py d).bind λa=>(py e).bind λb=>if SeqAt.shaped a=true/\SeqAt.shaped b=true/\SeqAt.noMix a b=true then some (.bl (PySem.Spec.same a b))else none
def acu(d e:D):Option D:=(Rf d e).bind Na
abbrev dI(ns:Ϝ):D:=.list (ns.map .int)
abbrev dM(rs:Λ):D:=.list (rs.map dI)
def Ql(ns:Ϝ):SE (ns.map .int)=some (ns.map PyData.int):=by
 induction ns with
 |nil=>simp[SE]
 |cons n ns l=>simp[SE,py,l]
def X0(ns:Ϝ):py (dI ns)=some (xr ns):=by
 show py (.list _)=_;simp only[py,Ql];rfl
def PR(rs:Λ):SE (rs.map dI)=some (rs.map xr):=by
 induction rs with
 |nil=>simp[SE]
 |cons r rs l=>
  show SE (dI r::rs.map dI)=_;simp only[SE,X0,l];rfl
def aaw(rs:Λ):py (dM rs)=some (BU rs):=by
 show py (.list _)=_;simp only[py,PR];rfl
def DS(r:Ϝ):SeqAt.shaped (xr r)=true:=by
 have n:=W.depthAll_ints r;have l:PyData.depth (xr r)<=64:=by simp only[xr,PyData.depth];lia
 show(PyData.canLay0 (xr r) && decide (PyData.depth (xr r)<=64))=true;rw[fD];exact⟨by simp only[xr,PyData.canLay0];exact W.canLayAll0_ints r,d0 l⟩
@[simp] theorem abv (ns l:Ϝ):Rf (dI ns) (dI l)=some (.bl (decide (ns=l))):=by
 unfold Rf;rw[X0,X0];show(if _ then _ else _)=_
 rw[pH ⟨DS ns,DS l,by simp only[xr,SeqAt.noMix];exact W.noMix_ints ns l⟩]
 simp only[xr,PySem.Spec.same,W.same_ints]
@[simp] theorem aa5 (rs l:Λ):Rf (dM rs) (dM l)=some (.bl (decide (rs=l))):=by
 unfold Rf;rw[aaw,aaw];show(if _ then _ else _)=_
 rw[pH ⟨CQ rs,CQ l,by simp only[BU,SeqAt.noMix];exact D3 rs l⟩]
 simp only[BU,PySem.Spec.same,EY]
def Br(l:ML):MK:=λS=>(l S).map λx=>(.ow (x.1.map .sh),x.2)
def KD(l:ML):MK:=λS=>(l S).bind λx=>(qJ x.1).map λns=>(.ow ((qQ ns).map λn=>.sh (.int n)),x.2)
def za:List D->Option Λ
 | []=>some []
 | .list ds::es=>(qJ ds).bind λr=>(za es).map (r :: ·)
 |_=>none
theorem ES:∀{ds:List D}{rs:Λ},za ds=some rs->ds=rs.map dI
 | [],rs,h=>by cases h;rfl
 |d::ds,rs,h=>by
  cases d with
  |list l=>
   obtain⟨r,n,h⟩:=oBq.mp (show(qJ l).bind (λr=>(za ds).map (r :: ·))=some rs from h)
   obtain⟨u,s,t⟩:=oMq.mp h;subst t;rw[ES s,uN n];rfl
  |_=>cases h
@[simp] theorem EC (rs:Λ):za (rs.map dI)=some rs:=by
 induction rs with
 |nil=>rfl
 |cons r rs l=>
  show(qJ (r.map .int)).bind (λr=>(za (rs.map dI)).map (r :: ·))=_
  rw[rB,l];rfl
def GO(l:ML):MK:=λS=>(l S).bind λx=>(za x.1).map λrs=>(.ow ((xS rs).map λr=>.sh (dI r)),x.2)
section
variable {K:Ζ}{te:TE}{l:ML}
def UA(hl:SQ K te l):SK K (Ot (λxs H Q=>∃p ys,xs=[.ref p]/\(rJ K H p ys∨C5 K H p ys)/\∀l,H l=none->Q (.ref l) (qw H l (.lst ys))) (tL te xE)) (Br l):=by
 intro H₀ s Hf S σ H P U X R e Q q;obtain⟨x,B,e⟩:=oMq.mp e;cases e;refine hl R (ds:=x.1) (S':=x.2) B _ λE Y Fs1 G n t u I J=>⟨G,n,rfl,.inl I,λp z=>?_⟩
 obtain⟨L,M,O,n2,n3⟩:=u.new (o:=.lst n) z;exact q _ _ _ (.ref p) [p] (t.trans L) M (pV.new pB O J) ((xB.one u z).back t)
def wK(ns:Ϝ):(ns.map λn=>AV.sh (.int n))=(ns.map D.int).map .sh:=by rw[mPq];rfl
def IB(rs:Λ):(rs.map λr=>AV.sh (dI r))=(rs.map dI).map .sh:=by rw[mPq];rfl
def Qc(hl:SQ K te l):SK K (Ot (λxs H Q=>∃(a:Addr) (ns:Ϝ),xs=[.ref a]/\rJ K H a (ns.map V.int)/\∀p,H p=none->Q (.ref p) (qw H p (.lst ((qQ ns).map V.int)))) (tL te xE)) (KD l):=by
 intro H₀ n Hf S σ H U X Y R e Q q;obtain⟨x,E,e⟩:=oBq.mp e;obtain⟨ns,G,e⟩:=oMq.mp e;cases e;refine hl R (ds:=x.1) (S':=x.2) E _ λI H1 Fs1 J L s t u z=>?_
 rw[uN G]at z;rw[rn z]at u;refine⟨J,ns,rfl,u,λp B=>?_⟩
 obtain⟨M,O,P,n2,n3⟩:=t.new (o:=.lst ((qQ ns).map V.int)) B;rw[wK]at q;exact q _ _ _ (.ref p) [p] (s.trans M) O (pV.new pB P (tq _)) ((xB.one t B).back s)
theorem Au{H:Hp}:∀{rs:Λ}{vs:List V},qk K H (rs.map dI) vs->∃ps,vs=ps.map V.ref/\qL H ps rs
 | [],vs,h=>⟨[],h.nil_inv,.nil⟩
 |r::rs,vs,h=>by
  obtain⟨v,z,rfl,s,t⟩:=qk.cons_inv (d:=dI r) (ds:=rs.map dI) h;obtain⟨p,B,rfl,n,u⟩:=s.list_inv;rw[rn u]at n;obtain⟨ps,rfl,x⟩:=Au t;exact⟨p::ps,rfl,qL.cons_iff.mpr ⟨n,x⟩⟩
theorem FS{H:Hp}:∀{rs:Λ}{ps:Δ},qL H ps rs->qk K H (rs.map dI) (ps.map V.ref)
 | [],[],_=>.nil
 | [],_::_,h=>by have:=h.length;simp at this
 |_::_,[],h=>by have:=h.length;simp at this
 |r::rs,p::ps,h=>by
  obtain⟨n,s⟩:=qL.cons_iff.mp h;exact .cons (.mk_list n (tq r)) (FS s)
def Q6(hl:SQ K te l):SK K (Ot (λxs H Q=>∃(a:Addr) (ps:Δ) (rs:Λ),xs=[.ref a]/\rJ K H a (ps.map V.ref)/\qL H ps rs /\
  ∀p n,H p=none->n.Perm ps->qL (qw H p (.lst (n.map V.ref))) n (xS rs)->Q (.ref p) (qw H p (.lst (n.map V.ref)))) (tL te xE)) (GO l):=by
 intro H₀ s Hf S σ H Fs av S' R e Q q;obtain⟨x,M,e⟩:=oBq.mp e;obtain⟨rs,O,e⟩:=oMq.mp e;cases e;refine hl R (ds:=x.1) (S':=x.2) M _ λt H1 Fs1 P U E u X G=>?_
 rw[ES O]at G;obtain⟨ps,rfl,I⟩:=Au G;refine⟨P,ps,rs,rfl,X,I.same u.sub,λp n J Y z=>?_⟩
 obtain⟨t4,L,n1,n2,n3⟩:=u.new (o:=.lst (n.map V.ref)) J;have B:qL t n (xS rs):=z.keep λb hb=>by
  obtain⟨r,_,hr⟩:=I.mem (Y.mem_iff.mp hb);rw[hr,L.sub b _ hr]
 rw[IB]at q;exact q _ _ _ (.ref p) [p] (E.trans t4) L (pV.new pB n1 (FS B)) ((xB.one u J).back E)
end
def tyD:String->D->Bool
 |T,.list _=>T == "list"
 |T,.scr _=>T == "list"
 |T,.str _=>T == "str"
 |_,_=>false
def YS(T:String)(f:D->List D->Option D)(a:ME)(as:ML):ME:=λS=>(a S).bind λx=>if tyD T x.1=true then (as x.2).bind λy=>(f x.1 y.1).map λd=>(d,y.2)else none
def BmD(K:Ζ)(r:V->List V->Hp->VK->Prop)(f:D->List D->Option D):Prop:=∀{x:V}{vs:List V}{H:Hp}{Q:VK}{l:D}{ds:List D}{d:D},rp K H l x->qk K H ds vs->f l ds=some d->(∀v,rp K H d v->Q v H)->r x vs H Q
section
variable {K:Ζ}{te:TE}{ta:TA}{a:ME}{as:ML}{r:V->List V->Hp->VK->Prop}{f:D->List D->Option D}{T:String}
def Xm{H:Hp}{d:D}{v:V}(h:tyD T d=true)(s:rp K H d v):tyV K T v H:=by
 cases s <;> simp only[tyD]at h
 all_goals first|(exfalso;simp at h;done)|skip
 .exact eq_of_beq h
 .rename_i p t u n l e;exact .inl ⟨eq_of_beq h,t,rJ.of n⟩
 .rename_i p x n;exact .inl ⟨eq_of_beq h,_,n⟩
def aaz(hr:BmD K r f)(ha:SR K te a)(hs:SN K ta as):SR K (SB K T r te ta) (YS T f a as):=by
 intro H₀ l Hf S σ H P d U R e Q q;obtain⟨x,t,e⟩:=oBq.mp e;split at e
 .rename_i u;obtain⟨y,B,e⟩:=oBq.mp e;obtain⟨z,E,e⟩:=oMq.mp e;cases e;refine ha R (d:=x.1) (S':=x.2) t _ λG X Fs1 v I J n=>⟨Xm u n,hs J (ds:=y.1) (S':=y.2) B _ λL Y Fs2 vs s R2 M=>?_⟩
  exact hr (n.mono s.sh) M E λv O=>q _ _ _ v (I.trans s) R2 O
 .cases e
def xA:D->List D->Option D
 | .list ds,[.int k]=>(qJ ds).bind λns=>if k∈ns then some (.int (ns.idxOf k:Nat))else none
 |_,_=>none
def Pi:BmD K (Qh K) xA:=by
 intro x G H Q I J d l s e q;unfold xA at e;split at e
 .rename_i L k;obtain⟨t,u,e⟩:=oBq.mp e;split at e
  .rename_i hk;cases e;obtain⟨v,M,rfl,z,B⟩:=s.cons_inv;rw[B.nil_inv];cases z;rw[uN u]at l;obtain⟨p,O,rfl,n,E⟩:=l.list_inv;rw[rn E]at n;exact⟨p,t,k,rfl,rfl,rJ.of n,hk,q _ .int⟩
  .cases e
 .cases e
def ab2(a:ME):ME:=λS=>(a S).bind λx=>match x.1 with
 | .list ds=>(za ds).map λrs=>(.int (rs.countP (·=([]:Ϝ)):Nat),x.2)
 |_=>none
def Cm:D->Option Bool
 | .non=>some false
 | .bl b=>some b
 | .int i=>some (i != 0)
 | .list ds=>some (!ds.isEmpty)
 | .tup ds=>some (!ds.isEmpty)
 | .dict ds=>some (!ds.isEmpty)
 |_=>none
def AL(a:ME):MT:=λS=>(a S).bind λx=>(Cm x.1).map λb=>(b,x.2)
def wL{α β:Type}{xs:List α}{ys:List β}(h:xs.length=ys.length):(!xs.isEmpty) = !ys.isEmpty:=by
 cases xs <;> cases ys <;> simp at h ⊢
def G8(ha:SR K te a):ED K (λσ H Q=>te σ H λx B=>∃k,T5 K x B k/\Q k B) (AL a):=by
 intro H₀ z Hf S σ H M b O R e Q q;obtain⟨x,E,e⟩:=oBq.mp e;obtain⟨c,l,e⟩:=oMq.mp e;cases e;refine ha R (d:=x.1) (S':=x.2) E _ λG P Fs1 v I J n=>⟨_,?_,q _ _ _ I J⟩
 cases L:x.1 <;> rw[L]at l n <;> simp only[Cm]at l
 all_goals first|(exfalso;simp at l;done)|skip
 .cases n;cases l;rfl
 .cases n;cases l;rfl
 .cases n;cases l;rfl
 .obtain⟨p,s,rfl,t,u⟩:=n.list_inv;cases l;exact .inl ⟨s,rJ.of t,wL u.1⟩
 .obtain⟨p,s,rfl,t,u⟩:=n.tup_inv;cases l;exact .inr (.inl ⟨s,C5.of t,wL u.1⟩)
 .obtain⟨p,s,rfl,t,u⟩:=n.dict_inv;cases l;exact .inr (.inr ⟨s,t,wL u.len⟩)
end
def qp:AV->Θ->Option (List AV)
 | .ow l,[]=>some l
 | .ow l,j::js=>(l[j]?).bind λa=>qp a js
 |_,_=>none
def putAt:AV->Θ->List AV->AV
 | .ow _,[],as=>.ow as
 | .ow l,j::n,as=>match l[j]? with
  |some a=>.ow (l.set j (putAt a n as))
  |none=>.ow l
 |a,_,_=>a
def GT(H:Hp):V->Θ->V->Prop
 |v,[],w=>v=w
 |v,j::js,w=>∃p vs u,v = .ref p/\H p=some (.lst vs)/\vs[j]?=some u/\GT H u js w
section
variable {K:Ζ}{H₀ Hf₀ Hf Hf' H H':Hp}{S S':AS}{σ:St}{Fs Fs':List Δ}
theorem yN:∀{Fs:List Δ}{F G:Δ}(i:Nat),Fs.flatten.Nodup->Fs[i]?=some G->F.Nodup->(∀p∈F,p∈G∨p∉Fs.flatten)->(Fs.set i F).flatten.Nodup
 | [],F,G,i,h,e,_,_=>by simp at e
 |E::Gs,F,G,0,h,e,hF,hd=>by
  simp at e;subst e;rw[cJ,fCq,nAq];rw[fCq,nAq]at h;refine⟨hF,h.2.1,λa ha b hb e=>?_⟩
  subst e;rcases hd a ha with z|z
  .exact h.2.2 a z a hb rfl
  .exact z (by rw[fCq];exact aj _ hb)
 |E::Gs,F,G,i+1,h,e,hF,hd=>by
  rw[dY,fCq,nAq];rw[fCq,nAq]at h;have l:Gs[i]?=some G:=by simpa using e
  refine⟨h.1,yN i h.2.1 l hF λp n=>(hd p n).imp id λz m=>z (by rw[fCq];exact aj _ m),λa ha b hb e=>?_⟩
  subst e;rcases rV hb with q|q
  .rcases hd a q with z|z
   .exact h.2.2 a ha a (mFq.mpr ⟨G,mGq l,z⟩) rfl
   .exact z (by rw[fCq];exact ak _ ha)
  .exact h.2.2 a ha a q rfl
theorem DJ:∀{Fs:List Δ}{F G:Δ}{i j:Nat}{p:Addr},Fs.flatten.Nodup->Fs[i]?=some F->Fs[j]?=some G->i≠j->p∈F->p∉G
 | [],F,G,i,j,p,_,e,_,_,_,_=>by simp at e
 |E::Es,F,G,0,0,p,h,e,f,n,_,_=>n rfl
 |E::Es,F,G,0,j+1,p,h,e,f,n,hp,m=>by
  simp at e;subst e;rw[fCq,nAq]at h;exact h.2.2 p hp p (mFq.mpr ⟨G,mGq (i:=j) (by simpa using f),m⟩) rfl
 |E::Es,F,G,i+1,0,p,h,e,f,n,hp,m=>by
  simp at f;subst f;rw[fCq,nAq]at h;exact h.2.2 p m p (mFq.mpr ⟨F,mGq (i:=i) (by simpa using e),hp⟩) rfl
 |E::Es,F,G,i+1,j+1,p,h,e,f,n,hp,m=>by
  rw[fCq,nAq]at h;exact DJ h.2.1 (i:=i) (j:=j) (by simpa using e) (by simpa using f) (λz=>n (by rw[z])) hp m
theorem pV.path:∀{path:Θ}{M:AV}{v:V}{F:Δ}{as:List AV},pV K Hf H M v F->F.Nodup->qp M path=some as->∃p vs J,GT H v path (.ref p)/\H p=some (.lst vs)/\Hf p=none/\pR K Hf H as vs J/\p∈F/\p∉J.flatten/\J.flatten.Nodup/\(∀q∈J.flatten,q∈F) /\
  ∀t s l,pR K Hf (qw H p (.lst s)) t s l->(p::l.flatten).Nodup->(∀q∈l.flatten,q∈J.flatten∨q∉F)->∃F',pV K Hf (qw H p (.lst s)) (putAt M path t) v F'/\F'.Nodup/\∀q∈F',q∈F∨q∈l.flatten
 | [],M,v,F,as,r,nd,e=>by
  cases M with
  |ow u=>
   cases e;obtain⟨p,vs,J,rfl,rfl,Y,h2,E⟩:=r.ow_inv;have n:=ar.mp nd;refine⟨p,vs,J,rfl,Y,h2,E,by simp,n.1,n.2,λq B=>mCo _ B,λt s l r' O _=>⟨p::l.flatten,pV.news pB h2 r',O,λq B=>?_⟩⟩
   rcases ae.mp B with z|z
   .exact .inl (by rw[z];simp)
   .exact .inr z
  |_=>cases e
 |j::js,M,v,F,as,r,nd,e=>by
  cases M with
  |ow u=>
   obtain⟨a,e1,e2⟩:=oBq.mp (show(u[j]?).bind (λa=>qp a js)=some as from e)
   obtain⟨L,I,Gs0,rfl,rfl,Y,h2,E⟩:=r.ow_inv;have n:=ar.mp nd;have Q:j<u.length:=(gSq.mp e1).1;have hv:I[j]?=some (I[j]'(E.1 ▸ Q)):=gEg _;have R:Gs0[j]?=some (Gs0[j]'(E.2.1 ▸ Q)):=gEg _;generalize I[j]'(E.1 ▸ Q)=vj at hv;generalize Gs0[j]'(E.2.1 ▸ Q)=Fj at R;have rj:=E.2.2 j a vj Fj e1 hv R;have ndj:Fj.Nodup:=bq.sublist (bh (mGq R)) n.2;have sub:∀q∈Fj,q∈Gs0.flatten:=λq B=>qb R B
   obtain⟨p,vs,J,g1,g2,g3,g4,g5,g6,g6',g7,g8⟩:=pV.path rj ndj e2;have pne:L≠p:=λz=>n.1 (z ▸ sub p g5)
   refine⟨p,vs,J,⟨L,I,vj,rfl,Y,hv,g1⟩,g2,g3,g4,mCo _ (sub p g5),g6,g6',λq B=>mCo _ (sub q (g7 q B)),λt s l r' O hd=>?_⟩
   obtain⟨F',k1,k2,k3⟩:=g8 t s l r' O λq B=>(hd q B).imp id λz m=>z (mCo _ (sub q m))
   have hF':∀q∈F',q∈Fj∨q∉Gs0.flatten:=λq B=>by
    rcases k3 q B with z|z
    .exact .inl z
    .rcases hd q z with y|y
     .exact .inl (g7 q y)
     .exact .inr λm=>y (mCo _ m)
   refine⟨L::(Gs0.set j F').flatten,?_,ar.mpr ⟨λm=>?_,yN j n.2 R k2 hF'⟩,λq B=>?_⟩
   .show pV K Hf (qw H p (.lst s)) (match u[j]? with|some a=>.ow (u.set j (putAt a js t))|none=>.ow u) (.ref L) _
    rw[e1];refine .ow (vs:=I) (by rw[pd pne];exact Y) h2 (by rw[lZq];exact E.1) (by rw[lZq,lZq];exact E.2.1) λi b w G X q2 U=>?_
    rw[bG]at X U
    by_cases P:j=i
    .subst P;rw[pH rfl,pH Q]at X;rw[pH rfl,pH (E.2.1 ▸ Q)]at U;rw[hv]at q2;cases X;cases q2;cases U;exact k1
    .rw[pE P]at X U;exact(E.2.2 i b w G X q2 U).keepUpd λm=>DJ n.2 R U P g5 m
   .rcases rV m with z|z
    .rcases k3 L z with y|y
     .exact n.1 (sub L y)
     .rcases hd L y with x|x
      .exact n.1 (sub L (g7 L x))
      .exact x (by simp)
    .exact n.1 z
   .rcases ae.mp B with z|z
    .exact .inl (by rw[z];simp)
    .rcases rV z with z|z
     .exact(k3 q z).imp (λy=>mCo _ (sub q y)) id
     .exact .inl (mCo _ z)
  |_=>cases e
def pZ.turnAny(R:pZ K H₀ Hf₀ Hf S σ H Fs){i:Nat}{B:AV}{p:Addr}{o:HO}{v:V}{F F':Δ}(s1:σ[i]?=some (some v))(s2:Fs[i]?=some F)(s:p∈F)(r:pV K Hf (qw H p o) B v F')(nd:F'.Nodup)
  (I:∀q∈F',H₀ q=none/\q∉(Fs.set i []).flatten):pZ K H₀ Hf₀ Hf (S.set i (some B)) σ (qw H p o) (Fs.set i F'):=by
 have t:p∈Fs.flatten:=mFq.mpr ⟨F,mGq s2,s⟩;have pn:Hf p=none:=(R.mem t).2;have J:H₀ p=none:=R.fresh p t;have out:=um R.nd s2 s;have L:pZ K H₀ Hf₀ Hf (S.set i none) σ (qw H p o) (Fs.set i []):=by
  refine⟨by simp[R.len],by simp[R.lenF],λj a n=>?_,λj n=>?_,rN i R.nd bw (λp s=>by cases s),λp s=>R.fresh p (qI s),λb u e=>?_,λb u e=>?_,R.lim,R.sf⟩
  .rw[bG]at n
   by_cases l:i=j
   .subst l;rw[pH rfl]at n;split at n <;> cases n
   .rw[pE l]at n;obtain⟨w,G,M,E,q⟩:=R.rep j a n;refine⟨w,G,M,by rw[aG l];exact E,q.keep (.refl _) (λc x=>pd λe=>out ?_) λc x=>(q.owned c x).2⟩
    subst e;exact mFq.mpr ⟨G,mGq (i:=j) (by rw[aG l];exact E),x⟩
  .rw[bG]at n
   by_cases l:i=j
   .subst l;rw[pH rfl]at n;split at n
    .rename_i hi;rw[aN (R.lenF.symm ▸ hi)]
    .cases n
   .rw[pE l]at n;rw[aG l];exact R.emp j n
  .rw[pd λz=>by rw[z,pn]at e;cases e]
   exact R.sub b u e
  .rw[pd λz=>by rw[z,J]at e;cases e]
   exact R.fr b u e
 exact L.again (F:=F) s1 r nd I
def pZ.kill(R:pZ K H₀ Hf₀ Hf S σ H Fs)(x:Nat):pZ K H₀ Hf₀ Hf (S.set x none) σ H (Fs.set x []):=by
 refine⟨by simp[R.len],by simp[R.lenF],λj a n=>?_,λj n=>?_,rN x R.nd bw (λp s=>by cases s),λp s=>R.fresh p (qI s),R.sub,R.fr,R.lim,R.sf⟩
 .rw[bG]at n
  by_cases l:x=j
  .subst l;rw[pH rfl]at n;split at n <;> cases n
  .rw[pE l]at n;obtain⟨w,G,t,u,q⟩:=R.rep j a n;exact⟨w,G,t,by rw[aG l];exact u,q⟩
 .rw[bG]at n
  by_cases l:x=j
  .subst l;rw[pH rfl]at n;split at n
   .rename_i hi;rw[aN (R.lenF.symm ▸ hi)]
   .cases n
  .rw[pE l]at n;rw[aG l];exact R.emp j n
def pZ.any(R:pZ K H₀ Hf₀ Hf (S.set x none) σ H Fs)(v:V):pZ K H₀ Hf₀ Hf (S.set x none) (σ.set x (some v)) H Fs where
 len:=by rw[R.len,lZq]
 lenF:=R.lenF
 rep:=λi n e=>by
  by_cases l:x=i
  .subst l;rw[bG]at e;rw[pH rfl]at e;split at e <;> cases e
  .obtain⟨w,G,s,t,q⟩:=R.rep i n e;exact⟨w,G,by rw[aG l];exact s,t,q⟩
 emp:=R.emp
 nd:=R.nd
 fresh:=R.fresh
 sub:=R.sub
 fr:=R.fr
 lim:=R.lim
 sf:=R.sf
end
noncomputable abbrev aI(ns:Ϝ):AV:=.ow (ns.map λn=>.sh (.int n))
def Cz:List AV->Option Ϝ
 | []=>some []
 | .sh (.int i)::r=>(Cz r).map (i :: ·)
 |_=>none
def Ea:List AV->Option Λ
 | []=>some []
 | .ow as::r=>(Cz as).bind λns=>(Ea r).map (ns :: ·)
 |_=>none
theorem Ji:∀{as:List AV}{ns:Ϝ},Cz as=some ns->as=ns.map λn=>.sh (.int n)
 | [],ns,h=>by cases h;rfl
 |a::as,ns,h=>by
  cases a with
  |sh d=>
   cases d with
   |int i=>
    obtain⟨t,l,s⟩:=oMq.mp (show(Cz as).map (i :: ·)=some ns from h)
    subst s;rw[Ji l];rfl
   |_=>cases h
  |_=>cases h
theorem IK:∀{as:List AV}{rs:Λ},Ea as=some rs->as=rs.map aI
 | [],rs,h=>by cases h;rfl
 |a::as,rs,h=>by
  cases a with
  |ow l=>
   obtain⟨r,n,h⟩:=oBq.mp (show(Cz l).bind (λs=>(Ea as).map (s :: ·))=some rs from h)
   obtain⟨x,t,u⟩:=oMq.mp h;subst u;rw[IK t,Ji n];rfl
  |_=>cases h
@[simp] theorem Mm (ns:Ϝ):Cz (ns.map λn=>.sh (.int n))=some ns:=by
 induction ns with
 |nil=>rfl
 |cons n ns l=>show(Cz (ns.map λn=>.sh (.int n))).map (n :: ·)=_;rw[l];rfl
@[simp] theorem M3 (rs:Λ):Ea (rs.map aI)=some rs:=by
 induction rs with
 |nil=>rfl
 |cons r rs l=>show(Cz (r.map λn=>.sh (.int n))).bind (λs=>(Ea (rs.map aI)).map (s :: ·))=_;rw[Mm,l];rfl
def Gh(k:MK):MK:=λS=>(k S).bind λx=>match x.1 with
 | .ow l=>(Ea l).map λrs=>(.ow ((xS rs).map aI),x.2)
 |_=>none
section
variable {K:Ζ}{Hf H:Hp}
def J5{ns:Ϝ}{v:V}{F:Δ}(h:pV K Hf H (aI ns) v F):∃p,v = .ref p/\F=[p]/\H p=some (.lst (ns.map V.int))/\Hf p=none:=by
 obtain⟨p,l,s,rfl,rfl,t,u,x⟩:=h.ow_inv;have e:∀{ns:Ϝ}{l:List V}{s:List Δ},pR K Hf H (ns.map λn=>AV.sh (.int n)) l s->l=ns.map V.int/\s.flatten=[]:=by
  intro ns
  induction ns with
  |nil=>
   intro l s h;obtain⟨a,b⟩:=h.nil_inv;exact⟨a,by rw[b];rfl⟩
  |cons n ns z=>
   intro l s h;obtain⟨v,P,F,B,rfl,rfl,E,G⟩:=pR.cons_inv (a:=.sh (.int n)) h;obtain⟨I,J⟩:=E.sh_inv;subst I;cases J;obtain⟨L,g2⟩:=z G;rw[L];exact⟨rfl,by rw[fCq,g2];rfl⟩
 obtain⟨M,O⟩:=e x;rw[O];subst M;exact⟨p,rfl,rfl,t,u⟩
def WV{ns:Ϝ}{p:Addr}(l:H p=some (.lst (ns.map V.int)))(n:Hf p=none):pV K Hf H (aI ns) (.ref p) [p]:=by
 have:=pV.new (K:=K) (Hf:=Hf) (H:=H) (ds:=ns.map D.int) l n (tq ns);rw[←wK]at this;exact this
theorem zf:∀{rs:Λ}{vs:List V}{l:List Δ},pR K Hf H (rs.map aI) vs l->∃ps,vs=ps.map V.ref/\l=ps.map (λp=>[p])/\qL H ps rs/\∀p∈ps,Hf p=none
 | [],vs,l,h=>by
  obtain⟨a,b⟩:=h.nil_inv;exact⟨[],a,b,.nil,λp n=>by cases n⟩
 |r::rs,vs,l,h=>by
  obtain⟨v,I,F,s,rfl,rfl,t,u⟩:=pR.cons_inv (a:=aI r) (as:=rs.map aI) h;obtain⟨p,rfl,rfl,x,z⟩:=J5 t;obtain⟨ps,rfl,rfl,B,E⟩:=zf u;exact⟨p::ps,rfl,rfl,qL.cons_iff.mpr ⟨x,B⟩,λq G=>(ae.mp G).elim (λe=>e ▸ z) (E q)⟩
theorem D6:∀{rs:Λ}{ps:Δ},qL H ps rs->(∀p∈ps,Hf p=none)->pR K Hf H (rs.map aI) (ps.map V.ref) (ps.map λp=>[p])
 | [],[],_,_=>.nil
 | [],_::_,h,_=>by have:=h.length;simp at this
 |_::_,[],h,_=>by have:=h.length;simp at this
 |r::rs,p::ps,h,n=>by
  obtain⟨l,s⟩:=qL.cons_iff.mp h;exact .cons (WV l (n p (by simp))) (D6 s λq t=>n q (mCo _ t))
def HX(ps:Δ):(ps.map λp=>[p]).flatten=ps:=by
 induction ps with
 |nil=>rfl
 |cons p ps l=>rw[au,fCq,l];rfl
def NY{te:TE}{k:MK}(hk:SK K te k):SK K (Ot (λxs H Q=>∃(a:Addr) (ps:Δ) (rs:Λ),xs=[.ref a]/\rJ K H a (ps.map V.ref)/\qL H ps rs /\
  ∀p l,H p=none->l.Perm ps->qL (qw H p (.lst (l.map V.ref))) l (xS rs)->Q (.ref p) (qw H p (.lst (l.map V.ref)))) (tL te xE)) (Gh k):=by
 intro H₀ u Hf S σ H Fs av S' R e Q q;obtain⟨x,O,e⟩:=oBq.mp e;refine hk R (a:=x.1) (S':=x.2) O _ λP U Fs1 v F I X J s=>?_
 split at e
 .rename_i Y hx;obtain⟨rs,e2,e⟩:=oMq.mp e;cases e;rw[hx,IK e2]at J;obtain⟨L,vs,Gs,rfl,rfl,h1,h2,h3⟩:=J.ow_inv;obtain⟨ps,rfl,rfl,M,hn⟩:=zf h3;rw[HX]at s;refine⟨L,ps,rs,rfl,rJ.of h1,M,λp l B t E=>?_⟩
  obtain⟨t4,R4,n1,n2,n3⟩:=X.new (o:=.lst (l.map V.ref)) B;have pq:p∉l:=λm=>M.free (H:=U) B (t.mem_iff.mp m)
  have G:∀z∈l,z∈L::ps:=λz n=>mCo _ (t.mem_iff.mp n)
  refine q _ _ _ (.ref p) (p::(l.map λp=>[p]).flatten) (I.trans t4) R4 (pV.news pB n1 (D6 E λz n=>hn z (t.mem_iff.mp n))) ?_
  rw[HX];refine⟨ar.mpr ⟨pq,t.nodup_iff.mpr (ar.mp s.nd).2⟩,λz n=>?_,λz n=>?_,λz n=>?_⟩
  .rcases ae.mp n with y|y
   .rw[y];exact n2
   .exact s.fr z (G z y)
  .rcases ae.mp n with y|y
   .rw[y];exact n3
   .exact s.out z (G z y)
  .rcases ae.mp n with y|y
   .rw[y];exact .inl (I.sh.free B)
   .exact s.new z (G z y)
 .cases e
def Om:AV->Option D
 | .sh d=>if d.scal=true then some d else none
 |_=>none
def qS(f:MF)(a:ML):ME:=λS=>(a S).bind λx=>(f x.1).bind λr=>(Om r).map λd=>(d,x.2)
def vy{f:MF}{u:TA}{a:ML}(ha:SN K u a):SR K (FR (rO K f) [] E0 u) (qS f a):=by
 intro H₀ t Hf S σ H Y d S' R e Q q;obtain⟨x,G,e⟩:=oBq.mp e;obtain⟨r,I,e⟩:=oBq.mp e;obtain⟨z,n,e⟩:=oMq.mp e;cases e;refine ha R (ds:=x.1) (S':=x.2) G _ λs B Fs1 vs J L M=>?_
 rw[aNq];refine⟨B,x.1,r,.refl _,M,I,λO P v F s1 E s3 l U nd fr=>?_⟩
 have X:yR s B Fs1 s P Fs1:=⟨.refl _,E,λ_ h=>h,λb h g=>absurd h g⟩
 cases r with
 |sh d'=>
  simp only[Om]at n;split at n
  .rename_i hs;cases n;exact q _ _ _ v (J.trans X) (L.laid E) (U.sh_inv.2.scal hs)
  .cases n
 |_=>cases n
end
section
variable (S:AS)
@[simp] theorem ZV (i:Nat):oI i S=(S[i]?.join).map λa=>(oP a,S):=rfl
@[simp] theorem aal (i:Nat):oX i S=(S[i]?.join).map λa=>(.sh (oP a),S.set i (some (.sh (oP a)))):=rfl
@[simp] theorem Zg (i:Nat):zE i S=(S[i]?.join).map λa=>(a,S.set i none):=rfl
@[simp] theorem aa0 (k:MK):rOf k S=(k S).map λx=>(oP x.1,x.2):=rfl
@[simp] theorem aaC (m:ME):kSc m S=(m S).bind λx=>if x.1.scal then some (.sh x.1,x.2)else none:=rfl
@[simp] theorem ZL (k:MK):sQ k S=(k S).map λx=>(.sh (oP x.1),x.2):=rfl
@[simp] theorem rC_ (d:D):rC d S=if d.scal then some (d,S)else none:=rfl
@[simp] theorem abh (f:D->D->Option D)(a b:ME):pO f a b S=(a S).bind λx=>(b x.2).bind λy=>(f x.1 y.1).map λd=>(d,y.2):=rfl
@[simp] theorem abp (f:D->Option D)(a:ME):Jq f a S=(a S).bind λx=>(f x.1).map λd=>(d,x.2):=rfl
@[simp] theorem ZX (a:ME):WQ a S=(a S).bind λx=>(Na x.1).map λd=>(d,x.2):=rfl
@[simp] theorem W6 (a b:MT):Dv a b S=(a S).bind λx=>if x.1=true then b x.2 else some (false,x.2):=rfl
@[simp] theorem aaB (a b:MT):NH a b S=(a S).bind λx=>if x.1=true then some (true,x.2)else b x.2:=rfl
@[simp] theorem WY (a:MT):yP a S=(a S).map λx=>(!x.1,x.2):=rfl
def Us:D->Option Bool
 | .bl b=>some b
 |_=>none
@[simp] theorem abD (a:ME):ug a S=(a S).bind λx=>(Us x.1).map λb=>(b,x.2):=by
 show(a S).bind _=_;congr 1;funext x;obtain⟨d,l⟩:=x;cases d <;> rfl
@[simp] theorem ZH (a b:ME):Yi a b S=(a S).bind λx=>(Us x.1).bind λc=>if c=true then b x.2 else some (.bl false,x.2):=by
 show(a S).bind _=_;congr 1;funext x;obtain⟨d,l⟩:=x;cases d <;> try rfl
 rename_i c;cases c <;> rfl
@[simp] theorem abd (a b:ME):rOr a b S=(a S).bind λx=>(Us x.1).bind λc=>if c=true then some (.bl true,x.2)else b x.2:=by
 show(a S).bind _=_;congr 1;funext x;obtain⟨d,l⟩:=x;cases d <;> try rfl
 rename_i c;cases c <;> rfl
@[simp] theorem TN (b:Bool):Us (.bl b)=some b:=rfl
@[simp] theorem aay:pP S=some ([],S):=rfl
@[simp] theorem Wz (k:MK)(r:MA):oW k r S=(k S).bind λx=>(r x.2).map λy=>(x.1::y.1,y.2):=rfl
@[simp] theorem WA:oS S=some ([],S):=rfl
@[simp] theorem UO (k:ME)(r:ML):oJ k r S=(k S).bind λx=>(r x.2).map λy=>(x.1::y.1,y.2):=rfl
@[simp] theorem ZU (a:MA):rY a S=(a S).bind λx=>vi (x.1.length<=qF) (some (.ow x.1,x.2)):=rfl
@[simp] theorem Zr (a:MA):JD a S=(a S).bind λx=>vi (x.1.length<=qF) (some (.sh (.tup (x.1.map oP)),x.2)):=rfl
@[simp] theorem ZS (a b:ML):QQ a b S=(a S).bind λx=>(b x.2).bind λy=>vi (x.1.length+y.1.length<=qF) (some (.ow ((x.1++y.1).map .sh),y.2)):=rfl
@[simp] theorem Wf:Cs S=some (none,S):=rfl
@[simp] theorem XM (m:ME):yQ m S=(m S).bind λx=>(intOf x.1).map λi=>(some i,x.2):=by
 show(m S).bind _=_;congr 1;funext x;obtain⟨d,l⟩:=x;cases d <;> rfl
@[simp] theorem NC (i:Int):intOf (.int i)=some i:=rfl
@[simp] theorem abF (l:ML)(lo hi:MO):SC l lo hi S=(l S).bind λx=>(lo x.2).bind λy=>(hi y.2).map λz=>(.ow ((Al x.1 y.1 z.1).map .sh),z.2):=rfl
@[simp] theorem abu (l:ML)(b:ME):VW l b S=(l S).bind λx=>(b x.2).bind λy=>(intOf y.1).bind λi=>(atI x.1 i).map λd=>(.sh d,y.2):=by
 show(l S).bind _=_;congr 1;funext x;show(b x.2).bind _=_;congr 1;funext y;obtain⟨d,n⟩:=y;cases d <;> rfl
@[simp] theorem abx (f:List D->Option D)(a:ML):uY f a S=(a S).bind λx=>(f x.1).map λd=>(d,x.2):=rfl
@[simp] theorem Xc (f:MF)(a:MA):ql f a S=(a S).bind λx=>(f (x.1.map oP)).map λr=>(r,x.2):=rfl
@[simp] theorem XX (f:MF)(a:ML):qS f a S=(a S).bind λx=>(f x.1).bind λr=>(Om r).map λd=>(d,x.2):=rfl
@[simp] theorem XI:rG S=some (.nx S):=rfl
@[simp] theorem UQ:JG S=none:=rfl
def OJ(o:Option Lv)(b:MS):Option Lv:=o.bind λo=>match o with
 | .nx S'=>b S'
 |o=>some o
@[simp] theorem OH (b:MS):OJ (some (.nx S)) b=b S:=rfl
@[simp] theorem Rc (a:AV)(b:MS):OJ (some (.rt a)) b=some (.rt a):=rfl
@[simp] theorem VM (a b:MS):oQ a b S=OJ (a S) b:=rfl
@[simp] theorem Vx (i:Nat)(k:MK):oY i k S=(k S).map λx=>.nx (x.2.set i (some x.1)):=rfl
@[simp] theorem XN (k:MK):PD k S=(k S).map λx=>.nx x.2:=rfl
@[simp] theorem Z1 (k:MK):rm k S=(k S).map λx=>.rt x.1:=rfl
@[simp] theorem abJ (c:MT)(a b:MS):A5 c a b S=(c S).bind λx=>if x.1=true then a x.2 else b x.2:=rfl
@[simp] theorem Y2 (i:Nat)(k:MK):vC i k S=(qM S i).bind λ_=>(k S).bind λx=>(qM x.2 i).bind λl=>vi (l.length<qF) (some (.nx (x.2.set i (some (.ow (l++[x.1])))))):=rfl
@[simp] theorem Zc (i:Nat)(l:ML):Qd i l S=(qM S i).bind λ_=>(l S).bind λx=>(qM x.2 i).bind λn=>vi (n.length+x.1.length<=qF) (some (.nx (x.2.set i (some (.ow (n++x.1.map .sh)))))):=rfl
@[simp] theorem YJ (i:Nat)(b:ME)(k:MK):xW i b k S=(sQ k S).bind λx=>(wO x.2 i).bind λ_=>(b x.2).bind λy=>(wO y.2 i).bind λkvs=>(uG y.1).bind λkey=>
 vi (kvs.length<qF) (some (.nx (y.2.set i (some (.owd (xn kvs key (oP x.1))))))):=rfl
def dictOf:D->Option (List (pI×D))
 | .dict kvs=>some kvs
 |_=>none
@[simp] theorem Iu (kvs:List (pI×D)):dictOf (.dict kvs)=some kvs:=rfl
@[simp] theorem NK (i:Int):uG (.int i)=some (.inl i):=rfl
@[simp] theorem Y5 (a b:ME):XA a b S=(a S).bind λx=>(b x.2).bind λy=>(dictOf y.1).bind λkvs=>(uG x.1).map λkey=>(.bl (getD kvs key).isSome,y.2):=by
 show(a S).bind _=_;congr 1;funext x;show(b x.2).bind _=_;congr 1;funext y;obtain⟨d,l⟩:=y;cases d <;> rfl
@[simp] theorem Sh (a b:ME):rR a b S=(a S).bind λx=>(b x.2).bind λy=>(dictOf y.1).bind λkvs=>(uG x.1).map λkey=>(.bl (!(getD kvs key).isSome),y.2):=by
 show(a S).bind _=_;congr 1;funext x;show(b x.2).bind _=_;congr 1;funext y;obtain⟨d,l⟩:=y;cases d <;> rfl
@[simp] theorem Yz (a b:ME):xa a b S=(a S).bind λx=>(b x.2).bind λy=>(dictOf x.1).bind λkvs=>(uG y.1).bind λkey=>(getD kvs key).map λd=>(d,y.2):=by
 show(a S).bind _=_;congr 1;funext x;show(b x.2).bind _=_;congr 1;funext y;obtain⟨d,l⟩:=x;cases d <;> rfl
@[simp] theorem Wv:zi S=some (.owd [],S):=rfl
@[simp] theorem Y3 (x:Nat)(k:MK)(body:MS):wD x k body S=(sQ k S).bind λy=>(qU (oP y.1)).bind λds=>rF x body ds y.2:=rfl
@[simp] theorem Ua (x:Nat)(a:ML)(body:MS):D8 x a body S=(a S).bind λy=>(CV y.1).bind λds=>rF x body ds y.2:=rfl
@[simp] theorem Xi (x y:Nat)(k:MK)(body:MS):HA x y k body S=(sQ k S).bind λz=>(qU (oP z.1)).bind λds=>AC x y body 0 ds z.2:=rfl
@[simp] theorem Yt (x y:Nat)(k l:MK)(body:MS):OE x y k l body S=(sQ k S).bind λz=>(sQ l z.2).bind λw=>(qU (oP z.1)).bind λds=>(qU (oP w.1)).bind λes=>
 if ds.length=es.length then AM x y body ds es w.2 else none:=rfl
@[simp] theorem X3 (l:MI)(fr:Θ)(tf:MT)(te:MK):wU l fr tf te S=(l S).bind λy=>(fzAll fr y.2).bind λs=>(Cd s fr).bind λcap=>vi (y.1.length<=qF) ((rL tf te cap y.1).map λn=>(.ow n,s)):=rfl
@[simp] theorem Zz (k:MK):Dp k S=(sQ k S).bind λy=>(qU (oP y.1)).map λds=>(ds,y.2):=rfl
@[simp] theorem abi (a:ML):iR1 a S=(a S).bind λy=>(CV y.1).map λds=>(ds,y.2):=rfl
@[simp] theorem Nw:fzAll [] S=some S:=rfl
@[simp] theorem KI (j:Nat)(l:Θ):fzAll (j::l) S=(S[j]?.join).bind λa=>fzAll l (S.set j (some (.sh (oP a)))):=rfl
@[simp] theorem O0:Cd S []=some []:=rfl
@[simp] theorem N4 (j:Nat)(l:Θ):Cd S (j::l)=(Ww S[j]?.join).bind λa=>(Cd S l).map (some a :: ·):=rfl
@[simp] theorem V7 (l:ML):Br l S=(l S).map λx=>(.ow (x.1.map .sh),x.2):=rfl
@[simp] theorem Tv (l:ML):KD l S=(l S).bind λx=>(qJ x.1).map λns=>(.ow ((qQ ns).map λn=>.sh (.int n)),x.2):=rfl
@[simp] theorem Uj (l:ML):GO l S=(l S).bind λx=>(za x.1).map λrs=>(.ow ((xS rs).map λr=>.sh (dI r)),x.2):=rfl
def Yr:AV->Option (List AV)
 | .ow l=>some l
 |_=>none
@[simp] theorem UW (l:List AV):Yr (.ow l)=some l:=rfl
@[simp] theorem Py (k:MK):Gh k S=(k S).bind λx=>(Yr x.1).bind λl=>(Ea l).map λrs=>(.ow ((xS rs).map aI),x.2):=by
 show(k S).bind _=_;congr 1;funext x;obtain⟨d,n⟩:=x;cases d <;> rfl
@[simp] theorem abj (T:String)(f:D->List D->Option D)(a:ME)(as:ML):YS T f a as S=(a S).bind λx=>if tyD T x.1=true then (as x.2).bind λy=>(f x.1 y.1).map λd=>(d,y.2)else none:=rfl
def ace:D->Option (List D)
 | .list ds=>some ds
 |_=>none
@[simp] theorem ZE (a:ME):AL a S=(a S).bind λx=>(Cm x.1).map λb=>(b,x.2):=rfl
def ZY:AV->Option (List D)
 | .sh (.list ds)=>some ds
 | .ow l=>some (l.map oP)
 |_=>none
@[simp] theorem Xa (ds:List D):ZY (.sh (.list ds))=some ds:=rfl
@[simp] theorem YD (l:List AV):ZY (.ow l)=some (l.map oP):=rfl
@[simp] theorem abz (k:MK):lOf k S=(k S).bind λx=>(ZY x.1).map λds=>(ds,x.2):=by
 show(k S).bind _=_;congr 1;funext x;obtain⟨a,l⟩:=x;cases a with
 |sh d=>cases d <;> rfl
 |_=>rfl
end
def Y8:AV->AV
 | .ow l=>.ow ((l.map oP).map .sh)
 |a=>a
@[simp] theorem X7 (d:D):Y8 (.sh d) = .sh d:=rfl
@[simp] theorem Rv (l:List AV):Y8 (.ow l) = .ow ((l.map oP).map .sh):=rfl
def DI{S:AS}{i:Nat}{a:AV}(h:S[i]?=some (some a)):S.set i (some a)=S:=by
 obtain⟨hk,l⟩:=gSq.mp h;rw[←l];exact gE hk
@[simp] theorem ZW (S:AS)(i:Nat):HC i S=(S[i]?.join).bind λa=>(ZY a).map λds=>(ds,S.set i (some (Y8 a))):=by
 unfold HC;cases e:S[i]?.join with
 |none=>rfl
 |some a=>
  cases a with
  |sh d=>
   cases d with
   |list ds=>
    show some (ds,S)=some (ds,S.set i (i4 ds));rw[DI (qd e)]
   |_=>rfl
  |ow n=>rfl
  |owd l=>rfl
  |owl l=>rfl
def lsQ:AV->Option (List D)
 | .sh (.scr ns)=>some (ns.map .int)
 |a=>ZY a
@[simp] theorem Uk (ns:Ϝ):lsQ (.sh (.scr ns))=some (ns.map .int):=rfl
@[simp] theorem X5 (ds:List D):lsQ (.sh (.list ds))=some ds:=rfl
@[simp] theorem Q5 (l:List AV):lsQ (.ow l)=some (l.map oP):=rfl
@[simp] theorem Zh (S:AS)(i:Nat):vh i S=(S[i]?.join).bind λa=>(lsQ a).map λds=>(ds,S.set i (some (Y8 a))):=by
 unfold vh;cases e:S[i]?.join with
 |none=>rfl
 |some a=>
  cases a with
  |sh d=>
   cases d with
   |list ds=>
    show some (ds,S)=some (ds,S.set i (i4 ds));rw[DI (qd e)]
   |scr l=>
    show some (l.map D.int,S)=some (l.map D.int,S.set i (some (.sh (.scr l))));rw[DI (qd e)]
   |_=>rfl
  |ow s=>rfl
  |owd n=>rfl
  |owl n=>rfl
@[simp] theorem Qj (i:Int):(D.int i).scal=true:=rfl
@[simp] theorem Te (i:Bool):(D.bl i).scal=true:=rfl
@[simp] theorem O8 (i:Str):(D.str i).scal=true:=rfl
@[simp] theorem RN:D.non.scal=true:=rfl
@[simp] theorem Uq (i:String):(D.ty i).scal=true:=rfl
@[simp] theorem RK (i:Int):Om (.sh (.int i))=some (.int i):=rfl
@[simp] theorem Ug (i:Bool):Om (.sh (.bl i))=some (.bl i):=rfl
@[simp] theorem RP:Om (.sh .non)=some .non:=rfl
@[simp] theorem GF (i j:Int):B0 (.int i) (.int j)=some (.bl (decide (i=j))):=rfl
@[simp] theorem TZ (i j:Str):B0 (.str i) (.str j)=some (.bl (decide (i=j))):=rfl
@[simp] theorem T9 (b:Bool):Na (.bl b)=some (.bl (!b)):=rfl
@[simp] theorem UB (i j:Int):Y0 (.int i) (.int j)=some (.bl (!decide (i=j))):=rfl
@[simp] theorem MV (ds:List D):rH [.list ds]=some (.int ds.length):=rfl
@[simp] theorem Qi (ns:Ϝ):rH [.scr ns]=some (.int ns.length):=rfl
@[simp] theorem PP (ds:List D):rH [.tup ds]=some (.int ds.length):=rfl
@[simp] theorem RB (i:Int):Vk [.int i]=some (.int (if i<0 then -i else i)):=rfl
@[simp] theorem Gg (ds:List D):qU (.list ds)=some ds:=rfl
@[simp] theorem PU (ds:List D)(i:Int):E7 (.list ds) (.int i)=atI ds i:=rfl
@[simp] theorem TY (ns:Ϝ)(i:Int):E7 (.scr ns) (.int i)=(atI ns i).map .int:=rfl
@[simp] theorem UD (d:D):Ww (some (.sh d))=some (.sh d):=rfl
@[simp] theorem QK (ds:List D):tyD "list" (.list ds)=true:=rfl
def Ur(S:AS)(i:Nat):qM S i=(S[i]?.join).bind Yr:=by
 unfold qM;cases S[i]?.join with
 |none=>rfl
 |some a=>cases a <;> rfl
def Vt:AV->Option (List (pI×D))
 | .owd kvs=>some kvs
 |_=>none
@[simp] theorem N9 (kvs:List (pI×D)):Vt (.owd kvs)=some kvs:=rfl
def Qm(S:AS)(i:Nat):wO S i=(S[i]?.join).bind Vt:=by
 unfold wO;cases S[i]?.join with
 |none=>rfl
 |some a=>cases a <;> rfl
theorem HI{x:Nat}{body:MS}(P:Nat->AS->Prop):∀{ds:List D}{S:AS}{k:Nat},P k S->(∀i d S,ds[i]?=some d->P (k+i) S->∃S',(body (S.set x (some (.sh d)))=some (.nx S')∨body (S.set x (some (.sh d)))=some (.ct S'))/\P (k+i+1) S')->∃S',rF x body ds S=some (.nx S')/\P (k+ds.length) S'
 | [],S,k,l,_=>⟨S,rfl,l⟩
 |d::ds,S,k,l,hs=>by
  obtain⟨S',e,s⟩:=hs 0 d S rfl l;have n:∀i d S,ds[i]?=some d->P (k+1+i) S->∃S',(body (S.set x (some (.sh d)))=some (.nx S')∨body (S.set x (some (.sh d)))=some (.ct S'))/\P (k+1+i+1) S':=λi d S h p=>by
   have:=hs (i+1) d S (by simpa using h) (by rw[show k+(i+1)=k+1+i by lia];exact p)
   rw[show k+(i+1)=k+1+i by lia]at this
   exact this
  obtain⟨t,u,z⟩:=HI P (k:=k+1) s n;refine⟨t,?_,by rw[lCq,show k+(ds.length+1)=k+1+ds.length by lia];exact z⟩
  show(body _).bind _=_;rcases e with e|e <;> (rw[e];exact u)
def rZ{x:Nat}{body:MS}(P:Nat->AS->Prop){ds:List D}{S:AS}(l:P 0 S)(hs:∀i d S,ds[i]?=some d->P i S->∃S',body (S.set x (some (.sh d)))=some (.nx S')/\P (i+1) S'):∃S',rF x body ds S=some (.nx S')/\P ds.length S':=by
 have:=HI (x:=x) (body:=body) P (ds:=ds) (k:=0) l λi d S h p=>by
  rw[bK]at p ⊢;obtain⟨S',e,q⟩:=hs i d S h p;exact⟨S',.inl e,q⟩
 rw[bK]at this;exact this
theorem K0{x y:Nat}{body:MS}(P:Nat->AS->Prop):∀{ds:List D}{S:AS}{k:Nat},P k S->(∀i d S,ds[i]?=some d->P (k+i) S->∃S',body ((S.set x (i3 (k+i:Nat))).set y (some (.sh d)))=some (.nx S')/\P (k+i+1) S')->∃S',AC x y body k ds S=some (.nx S')/\P (k+ds.length) S'
 | [],S,k,l,_=>⟨S,rfl,l⟩
 |d::ds,S,k,l,hs=>by
  obtain⟨S',e,s⟩:=hs 0 d S rfl l;have n:∀i d S,ds[i]?=some d->P (k+1+i) S->∃S',body ((S.set x (i3 (k+1+i:Nat))).set y (some (.sh d)))=some (.nx S')/\P (k+1+i+1) S':=λi d S h p=>by
   have:=hs (i+1) d S (by simpa using h) (by rw[show k+(i+1)=k+1+i by lia];exact p)
   rw[show k+(i+1)=k+1+i by lia]at this
   exact this
  obtain⟨t,u,z⟩:=K0 P (k:=k+1) s n;refine⟨t,?_,by rw[lCq,show k+(ds.length+1)=k+1+ds.length by lia];exact z⟩
  show(body ((S.set x (i3 (k:Nat))).set y (some (.sh d)))).bind _=_;rw[jh]at e;rw[e];exact u
theorem VU{x y:Nat}{body:MS}(P:Nat->AS->Prop):∀{ds es:List D}{S:AS}{k:Nat},ds.length=es.length->P k S->(∀i d e S,ds[i]?=some d->es[i]?=some e->P (k+i) S->∃S',body ((S.set x (some (.sh d))).set y (some (.sh e)))=some (.nx S')/\P (k+i+1) S')->∃S',AM x y body ds es S=some (.nx S')/\P (k+ds.length) S'
 | [],[],S,k,_,l,_=>⟨S,rfl,l⟩
 | [],_::_,S,k,hl,_,_=>by simp at hl
 |_::_,[],S,k,hl,_,_=>by simp at hl
 |d::ds,b::es,S,k,hl,l,hs=>by
  obtain⟨S',e,s⟩:=hs 0 d b S rfl rfl l;have n:∀i d e S,ds[i]?=some d->es[i]?=some e->P (k+1+i) S->∃S',body ((S.set x (some (.sh d))).set y (some (.sh e)))=some (.nx S')/\P (k+1+i+1) S':=λi d e S h t p=>by
   have:=hs (i+1) d e S (by simpa using h) (by simpa using t) (by rw[show k+(i+1)=k+1+i by lia];exact p)
   rw[show k+(i+1)=k+1+i by lia]at this
   exact this
  obtain⟨u,z,B⟩:=VU P (k:=k+1) (by simpa using hl) s n
  refine⟨u,?_,by rw[lCq,show k+(ds.length+1)=k+1+ds.length by lia];exact B⟩
  show(body _).bind _=_;rw[e];exact z
theorem uA{te:MK}{cap:AS}(g:D->AV):∀{ds:List D},(∀d∈ds,∃S',te (some (.sh d)::cap)=some (g d,S'))->rL sJ te cap ds=some (ds.map g)
 | [],_=>rfl
 |d::ds,h=>by
  obtain⟨S',e⟩:=h d (by simp)
  show(te (some (.sh d)::cap)).bind (λa=>(rL sJ te cap ds).map (a.1 :: ·))=_
  rw[e,uA g λx l=>h x (mCo _ l)]
  rfl
theorem wM{tf:MT}{te:MK}{cap:AS}(p:D->Bool)(g:D->AV):∀{ds:List D},(∀d∈ds,∃l,tf (some (.sh d)::cap)=some (p d,l)/\(p d=true->∃S',te l=some (g d,S')))->rL tf te cap ds=some ((ds.filter p).map g)
 | [],_=>rfl
 |d::ds,h=>by
  obtain⟨l,s,t⟩:=h d (by simp)
  have n:=wM (tf:=tf) (te:=te) (cap:=cap) p g λx u=>h x (mCo _ u)
  show(tf (some (.sh d)::cap)).bind _=_;rw[s];show(if p d=true then _ else _)=_
  by_cases c:p d=true
  .obtain⟨S',z⟩:=t c;rw[pH c,z,cS c];show(rL tf te cap ds).map _=_;rw[n];rfl
  .rw[pE c,cT c,n]
def xK{α β:Type}(f:α->β)(xs:List α)(lo hi:Option Int):Al (xs.map f) lo hi=(Al xs lo hi).map f:=by
 unfold Al;rw[lMq,ir,jC]
def B7{α:Type}(xs:List α)(i:Nat)(h:i<=xs.length):Al xs (some (i:Int)) none=xs.drop i:=by
 unfold Al;rw[HT.C6,HT.Ic,fk h,cw (by rw[aQ];exact af _)]
def G7{α:Type}(xs:List α)(i:Nat)(h:i<=xs.length):Al xs none (some (i:Int))=xs.take i:=by
 unfold Al;rw[HT.C6,HT.Ic,fk h,fX,Nat.sub_zero]
def O2{α:Type}(xs:List α)(i j:Nat):Al xs (some (i:Int)) (some (j:Int))=(xs.drop i).take (j-i):=by
 unfold Al;rw[HT.C6,HT.C6]
 by_cases h:i<=xs.length
 .rw[fk h]
  by_cases l:j<=xs.length
  .rw[fk l]
  .rw[jr (by lia),cw (by rw[aQ];exact af _),cw (by rw[aQ];lia)]
 .have e:min i xs.length=xs.length:=jr (by lia)
  rw[e,gn (af xs.length),gn (show xs.length<=i by lia)]
  simp
def Ma{α:Type}{xs:List α}{i:Int}(l:0<=i):atI xs i=xs[i.toNat]?:=by
 unfold atI Ih;rw[pH l]
 by_cases h:i<xs.length
 .rw[pH h];rfl
 .rw[pE h,bo (by lia)]
  rfl
def S9{α β:Type}(f:α->β)(xs:List α)(i:Int):atI (xs.map f) i=(atI xs i).map f:=by
 unfold atI;rw[lMq];cases Ih xs.length i with
 |none=>rfl
 |some j=>show(xs.map f)[j]?=_;rw[gMq];rfl
def Lg{n:Nat}{i:Nat}(h:i<n):Ih n (i:Int)=some i:=by
 unfold Ih;rw[pH (by lia),pH (by lia)]
 simp
def Dl(ns:Ϝ):(ns.map D.int).map AV.sh=ns.map λn=>AV.sh (.int n):=by rw[mPq];rfl
def GP(ns:Ϝ):(ns.map λn=>AV.sh (.int n)).map oP=ns.map D.int:=by rw[mPq];exact mCq λn _=>by simp
def UK(rs:Λ):(rs.map aI).map oP=rs.map dI:=by
 rw[mPq];refine mCq λr _=>?_
 show oP (.ow (r.map λn=>AV.sh (.int n)))=_
 rw[qX,GP]
def Vd(rs:Λ):(rs.map dI).map AV.sh=rs.map λr=>AV.sh (dI r):=by rw[mPq];rfl
def UG(rs:Λ):(rs.map λr=>AV.sh (dI r)).map oP=rs.map dI:=by rw[mPq];exact mCq λn _=>by simp
def pJ(ns:Ϝ):oP (aI ns)=dI ns:=by
 show oP (.ow (ns.map λn=>AV.sh (.int n)))=_
 rw[qX,GP]
def UR(i j:Int):uX (.int i) (.int j)=some (.int (i+j)):=vU _
def Tt(i j:Int):Ci (.int i) (.int j)=some (.int (i-j)):=vU _
def Sy(i j:Int):A8 (.int i) (.int j)=some (.bl (decide (i<j))):=vU _
def Wh(i j:Int):Oq (.int i) (.int j)=some (.bl (decide (j<i))):=vU _
def Ye(i:Int):yT (.int i)=some (.int (-i)):=rfl
def p60:Jo (.int 10) (.int 60)=some (.int (10 ^ 60)):=uR ⟨by decide,by decide,by decide⟩ _
def p59:Jo (.int 10) (.int 59)=some (.int (10 ^ 59)):=uR ⟨by decide,by decide,by decide⟩ _
def p57:Jo (.int 10) (.int 57)=some (.int (10 ^ 57)):=uR ⟨by decide,by decide,by decide⟩ _
def Jp{i j:Int}(l:-(2 ^ 64)<i)(n:i<2 ^ 64):xD (.int i) (.int j)=some (.int (i*j)):=uR (.inl ⟨l,n⟩) _
def Vo{i j:Int}(l:-(2 ^ 64)<j)(n:j<2 ^ 64):xD (.int i) (.int j)=some (.int (i*j)):=uR (.inr ⟨l,n⟩) _
def sv{i j:Int}(h:0<j):uo (.int i) (.int j)=some (.int (i % j)):=uR h _
def yM{i j:Int}(h:0<j)(l:j<1073741824):Bc (.int i) (.int j)=some (.int (i / j)):=uR ⟨h,l⟩ _
def Zo:(0:Nat)<=qF:=by decide
def Zj:(1:Nat)<=qF:=by decide
def aaf:(2:Nat)<=qF:=by decide
def ZR:(5:Nat)<=qF:=by decide
def tJ{n:Nat}(h:n<=16777216):n<=qF:=h
def Pg{n:Nat}(h:n<16777216):n<qF:=h
def zQ{n:Nat}(h:n<1000000):CV [.int (n:Int)]=some (qg 0 n):=by
 have e:CV [.int (n:Int)]=some (qg 0 (n:Int).toNat):=uR ⟨by lia,by lia⟩ _
 rw[e,bA]
def zt(n:Nat):qg 0 n=(az n).map λi:Nat=>D.int i:=by
 unfold qg;exact mCq λi _=>by rw[iI]
def aag(l n:Nat)(m:MS)(ds:List D):rQ l n m ds=if ds.length=l then (m (ds.map (λd=>some (.sh d))++bu (n-ds.length) none)).bind λo=>match o with
  | .rt a=>some a
  | .nx _=>some (.sh .non)
  |_=>none
 else none:=rfl
def gt1{α:Type}{a b:α}{l:List α}:(a::b::l)[1]?=some b:=rfl
def st1{α:Type}{a b v:α}{l:List α}:(a::b::l).set 1 v=a::v::l:=rfl
def gt2{α:Type}{a b c:α}{l:List α}:(a::b::c::l)[2]?=some c:=rfl
def CZ{α:Type}{a b c v:α}{l:List α}:(a::b::c::l).set 2 v=a::b::v::l:=rfl
def gt3{α:Type}{a b c d:α}{l:List α}:(a::b::c::d::l)[3]?=some d:=rfl
def st3{α:Type}{a b c d v:α}{l:List α}:(a::b::c::d::l).set 3 v=a::b::c::v::l:=rfl
def gt4{α:Type}{a b c d:α}{l:List α}{n:Nat}:(a::b::c::d::l)[n+4]?=l[n]?:=rfl
def st4{α:Type}{a b c d v:α}{l:List α}{n:Nat}:(a::b::c::d::l).set (n+4) v=a::b::c::d::l.set n v:=rfl
def TJ{K:Ζ}{f:MF}(h:∀ns:Ϝ,ns.length<=63->f [.scr ns]=i5 true):∀vs H Q E,LD K vs H Q E->rO K f vs H Q E:=by
 rintro vs H Q E ⟨a,ns,rfl,l,hl,q⟩;refine⟨H,[.scr ns],_,.refl _,.cons (.scr l) .nil,h ns hl,λn s v F _ _ _ _ r _ _=>?_⟩
 cases r.sh_inv.2;exact q s
end Z
namespace Mr
open PySem PySem.Spec PyProof.Rows L2
section
variable {X:Cx}{tg:Expr}
def EJ{α:Type}(P:α->Prop):List α->Prop
 | []=>True
 |a::l=>P a/\EJ P l
theorem EJ.mem{α:Type}{P:α->Prop}:∀{l:List α},EJ P l->∀a∈l,P a
 | [],_,a,h=>by cases h
 |b::l,hp,a,h=>(ae.mp h).elim (λe=>e ▸ hp.1) (EJ.mem hp.2 a)
def vX.of{scope:kY}{cl:List (Str×Addr)}{x:Str}{N:List Str}{fr:Θ}(n:N.Nodup)(s:N[0]?=some x)(t:N.length=fr.length+1)
  (u:EJ (λp=>X.env.cells.lookup p.1=some p.2) cl) (l:EJ (λp=>(p.2 = .cell∨p.2 = .free)->∃c,cl.lookup p.1=some c) (kS scope X.env).names)
  (z:EJ (λp=>X.N[p.1]?=some p.2/\X.env.scope.names.lookup p.2=some .cell/\(kS scope X.env).names.lookup p.2=some .cell) (fr.zip (N.drop 1))):vX X scope cl x N fr where
 names:=n
 own:=s
 len:=t
 sub:=λy c e=>u.mem (y,c) (PySem.mem_of_lookup e)
 has:=λy e=>by
  rcases e with e|e
  .exact l.mem _ (PySem.mem_of_lookup e) (.inl rfl)
  .exact l.mem _ (PySem.mem_of_lookup e) (.inr rfl)
 get:=λk j y B E=>by
  have G:(j,y)∈fr.zip (N.drop 1):=by
   refine mGq (i:=k) ?_;rw[eP];exact⟨B,by rw[cf,fW];exact E⟩
  exact z.mem _ G
end
end Mr
namespace Z
open PySem L2 Mr
def iRv(k:MK):MI:=λS=>(sQ k S).bind λy=>(qU (oP y.1)).map λds=>(ds.reverse,y.2)
section
variable {K:Ζ}{tf:TT}{te:TE}{mf:MT}{me:MK}{fr:Θ}
def aa7(a b:ME):ME:=λS=>(a S).bind λx=>(b x.2).bind λy=>(dictOf x.1).bind λkvs=>(uG y.1).map λkey=>((getD kvs key).getD .non,y.2)
end
def XE(ds:List (pI×D)):IE [.dict ds]=some (.int ds.length):=rfl
end Z
namespace Mr
open PySem PySem.W PySem.Spec PyProof.Rows L2
structure AE (X:Cx)(scope:kY)(cl:List (Str×Addr))(x x2:Str)(N:List Str)(fr:Θ):Prop where
 names:N.Nodup
 own:N[0]?=some x
 own2:N[1]?=some x2
 len:N.length=fr.length+2
 sub:∀y c,cl.lookup y=some c->X.env.cells.lookup y=some c
 has:∀y,((kS scope X.env).names.lookup y=some .cell∨(kS scope X.env).names.lookup y=some .free)->∃c,cl.lookup y=some c
 get:∀(k j:Nat) (y:Str),fr[k]?=some j->N[k+2]?=some y->X.N[j]?=some y/\X.env.scope.names.lookup y=some .cell/\(kS scope X.env).names.lookup y=some .cell
def AE.of{X:Cx}{scope:kY}{cl:List (Str×Addr)}{x n:Str}{N:List Str}{fr:Θ}(t:N.Nodup)(u:N[0]?=some x)(l:N[1]?=some n)(z:N.length=fr.length+2)
  (B:EJ (λp=>X.env.cells.lookup p.1=some p.2) cl) (s:EJ (λp=>(p.2 = .cell∨p.2 = .free)->∃c,cl.lookup p.1=some c) (kS scope X.env).names)
  (E:EJ (λp=>X.N[p.1]?=some p.2/\X.env.scope.names.lookup p.2=some .cell/\(kS scope X.env).names.lookup p.2=some .cell) (fr.zip (N.drop 2))):AE X scope cl x n N fr where
 names:=t
 own:=u
 own2:=l
 len:=z
 sub:=λy c e=>B.mem (y,c) (PySem.mem_of_lookup e)
 has:=λy e=>by
  rcases e with e|e
  .exact s.mem _ (PySem.mem_of_lookup e) (.inl rfl)
  .exact s.mem _ (PySem.mem_of_lookup e) (.inr rfl)
 get:=λk j y G H=>by
  have I:(j,y)∈fr.zip (N.drop 2):=by
   refine mGq (i:=k) ?_;rw[eP];exact⟨G,by rw[cf,fW];exact H⟩
  exact E.mem _ I
abbrev g2(K:Ζ):TG:=M7 K 2 (yZ (rE 0) (yZ (rE 1) N6))
def Kp(K:Ζ)(E:TI)(fr:Θ)(tf:TT)(te:TE):TE:=λσ H Q=>E σ H λJ t=>∀l,t l=none->∃W:Nat->Nat->Hp->Prop,(∃m,W 0 m (qw t l (.lst [])))/\∀i m H,W i m H ->
 (J.stop i H/\Q (.ref l) H) ∨
 (J.go i H/\∃N:Hp->Prop,(∀s,N s->∃u,u<m/\W (i+1) u s)/\∀x s,J.yld i H x s->∀v0 v1,g2 K x (v0::v1::slots σ fr) s λn t=>(∃a b,n=a::b::slots σ fr)/\tf n t λb z=>
  if b=true then te n z λy B=>∃ys,B l=some (.lst ys)/\ys.length<kr/\N (qw B l (.lst (ys++[y])))else N z)
section
variable {X:Cx}{scope:kY}{cl:List (Str×Addr)}{N:List Str}{fr:Θ}{x x2:Str}{px px2 pos tp:Pos}{tk:Nat}{elt iter:Expr}{ifs:List Expr}{tf:TT}{te:TE}
def CH{O:Φ}{σ:St}{H:Hp}{s:Shared}{E:Ψ}{J:It}{fp:Δ}{S:Addr}{U:Nat->Heap->Prop}{RR:Value->Addr->nX->Shared->Prop}{Q:VK}
  (Y:X.calm=true) (z:∀y∈scope.names,y.2 ≠ .cell) (B:scope.kind = .function) (hx:scope.names.lookup x=some .local) (hy:scope.names.lookup x2=some .local) (t:AE X scope cl x x2 N fr)
  (hf:∀C s H fp,PF (qK X scope cl N C s H fp) ifs tf) (he:∀C s H fp,PE (qK X scope cl N C s H fp) elt te)
  (I:Inv X O σ H s) (T:Hg X.prog X.w X.K (.Tuple [.Name x px,.Name x2 px2] tk tp) J fp S U) (st:U 0 s.heap) (P:∀b∈fp,Am X O H b)
  (h:∀l,H l=none->∃W:Nat->Nat->Hp->Prop,(∃m,W 0 m (qw H l (.lst [])))/\∀i m H,W i m H ->
   (J.stop i H/\Q (.ref l) H) ∨
   (J.go i H/\∃N:Hp->Prop,(∀G,N G->∃m',m'<m/\W (i+1) m' G)/\∀x G,J.yld i H x G->∀v0 v1,g2 X.K x (v0::v1::slots σ fr) G λn H1=>(∃a b,n=a::b::slots σ fr)/\tf n H1 λb H2=>
    if b=true then te n H2 λy H3=>∃ys,H3 l=some (.lst ys)/\ys.length<kr/\N (qw H3 l (.lst (ys++[y])))else N H2))
  (fin:∀l C R Hf m,Inv X O σ Hf R->R.heap.Ns C m->Am X O Hf C->Q (.ref l) Hf->RR (.ref l) C (.ok .next) R) :
  ki (kj X.prog X.w) X.A (nq []) (λl L=>ki (kj X.prog X.w) X.A (nR scope X.env.globals cl [] X.env.qual none .none (some X.env)) (λu M=>
   lV (kj X.prog X.w) X.A (.compStart (.ListComp elt [⟨.Tuple [.Name x px,.Name x2 px2] tk tp,iter,ifs,0⟩] scope pos) 0 (.ref S) l { u with scope:=kS scope X.env }) (RR l u.locals) M) E L) E s:=by
 refine CJ (tg:=.Tuple [.Name x px,.Name x2 px2] tk tp) (gq:=g2 X.K) (q:=2) (own:=λn=>∃a b,n=a::b::slots σ fr) Y z B ⟨t.len,t.sub,t.has,t.get⟩ (λC s H fp=>JX Y (zr (Ai t.names t.own (.inl (kT hx)) (.inr (kT hx))) (zr (Ai t.names t.own2 (.inl (kT hy)) (.inr (kT hy))) Gb))) (λn e=>?_) hf he I T st P (λl ha=>?_) fin
 .obtain⟨a,b,rfl⟩:=e;exact⟨[a,b],rfl,rfl⟩
 .obtain⟨W,w0,turn⟩:=h l ha;refine⟨W,w0,λi m H w=>(turn i m H w).imp id λ⟨go,N,hN,stp⟩=>⟨go,N,hN,λx G y vs lv=>?_⟩⟩
  match vs,lv with
  | [v0,v1],_=>exact stp x G y v0 v1
def RY{E:TI}(L:X.calm=true)(t:og scope X.env=pure cl)(u:∀y∈scope.names,y.2 ≠ .cell)(l:scope.kind = .function)(n:∀y∈scope.names,y.2 = .local->scope.names.lookup y.1=some .local)
  (M:scope.names.lookup x=some .local) (O:scope.names.lookup x2=some .local) (P:AE X scope cl x x2 N fr) (hi:PI X (.Tuple [.Name x px,.Name x2 px2] tk tp) iter E) (R:∀C s H fp,PF (qK X scope cl N C s H fp) ifs tf) (S:∀C s H fp,PE (qK X scope cl N C s H fp) elt te)
  (hs:∀x,mj iter X.env x=pure x:=by intro _;rfl):PE X (.ListComp elt [⟨.Tuple [.Name x px,.Name x2 px2] tk tp,iter,ifs,0⟩] scope pos) (Kp X.K E fr tf te):=by
 intro G s σ H Q I h;rw[eval_ListComp];refine lK (use:=none) rfl hs t l n (thn (hi G s σ H _ I h) λv s1 U=>thn U λY s2 h2=>?_)
 obtain⟨it,fp,tn,J,H2,e,I2,T,CZ,f2,q2⟩:=h2;subst e;refine CH (RR:=λz C=>compPost (kj X.prog X.w) X.A X.xe none (EP X G σ Q) z C) L u l M O P R S I2 T CZ f2 q2 ?_
 intro z C s' Hf m I' hm B q;refine⟨m,hm,λh' sb=>⟨.ref z,Hf,?_,rfl,q⟩⟩
 exact I'.turned (t':=s'.toks) (λb o hb e=>(sb.2 b hb).trans e) B.1 B.2.1 B.2.2.2.1 B.2.2.2.2.1 B.2.2.2.2.2
end
end Mr
namespace Xe
open PySem PySem.Spec PySem.W PyProof.Rows L2 Mr
section
variable {X:Cx}
def Ze(o:Obj)(d:Addr)(kvs:List (pI×V)):It:=
  ⟨λi H=>H d=some (.frz o (.dK kvs))/\∃p,kvs[i]?=some p,
   λi H x l=>l=H/\∃p,kvs[i]?=some p/\x=kV p.1,
   λi H=>H d=some (.frz o (.dK kvs))/\kvs.length<=i⟩
def NV{P:ku}{w:ky}{K:Frag}{tg:Expr}(o:Obj)(d n:Addr)(kvs:List (pI×V))(vs:List (pI×Value))(ep:Nat)(hne:d≠n)
  (ho:∀h:Heap,h.get? d=some o->h.DictAt (qE P w) d vs ep) (kv:KV kvs vs):Hg P w K tg (Ze o d kvs) [n] n (λi h=>h.IsKeyIter n d i vs.length ep) where
 mem:=by simp
 obj:=λi h st b hb=>by
  have e:b=n:=by simpa using hb
  subst e;obtain⟨G,e,c,dd⟩:=st;exact⟨G,e,λv z=>by rw[dd]at z;cases z⟩
 keep:=λi h h' st k=>by
  obtain⟨G,e,c,dd⟩:=st;exact⟨G,k n (by simp) _ e,c,dd⟩
 item:=by
  intro X L hw M hc i oH s σ H E I J st O;subst L hw M;obtain⟨hd,p,hp⟩:=O;have Q:s.heap.get? d=some o:=(show qR X.prog X.w H s.heap d (.frz o (.dK kvs))from I.hok d _ hd).1
  obtain⟨u,hx,ru⟩:=Xt kv hp;obtain⟨R,S,f2,U,Y,f5⟩:=J n (by simp)
  refine wpAny_pyNext_dict_item st (ho _ Q) hx λkey h' x B sb=>?_
  have I1:L2.Inv X oH σ H { s with heap:=h' }:=I.turned (t':=s.toks) (λb o hb e=>(sb.2 b hb).trans e) R S U Y f5
  have rk:qr (kV p.1) key:=by
   rcases qA x with⟨j,t,e,rfl⟩|⟨z,t,e,rfl⟩
   .rw[e];exact⟨t,rfl⟩
   .rw[e];exact⟨t,rfl⟩
  obtain⟨G,e,c,dd⟩:=id B;exact⟨key,rfl,QI (s:={ s with heap:=h' }) e c dd (by decide) ⟨_,H,I1,rk,⟨rfl,p,hp,rfl⟩,B,λb hb=>(J b hb).1⟩⟩
 done:=by
  intro X L hw M hc i oH s σ H E I J st O;subst L hw M;obtain⟨hd,hl⟩:=O;have Q:s.heap.get? d=some o:=(show qR X.prog X.w H s.heap d (.frz o (.dK kvs))from I.hok d _ hd).1
  have l:=Paired.length kv;obtain⟨R,S,f2,U,Y,f5⟩:=J n (by simp)
  exact wpAny_pyNext_dict_end (I.ok.hd hc) st (ho _ Q) (bo (by lia)) λh' eb=>⟨rfl,I.turned (t':=s.toks) (λb o hb e=>eb b o hb e) R S U Y f5⟩
 self:=λ_ _ _ _ _ st h=>wpAny_pyIter_keyiter st h
def VI(te:TE):TI:=λσ H R=>te σ H λx l=>∃d kvs,x = .ref d/\l d=some (.dK kvs)/\∀o,R (Ze o d kvs) (qw l d (.frz o (.dK kvs)))
def SU{tg o:Expr}{te:TE}(Q:PE X o te):PI X tg o (VI te):=by
 intro O s σ H R I h;refine thn (Q O s σ H _ I h) λv l L=>?_
 obtain⟨x,P,G,S,d,t,ex,ha,q⟩:=L;subst ex;obtain rfl:=(show v=cA d from S)
 obtain⟨U,sa,B,kv,dd⟩:=(show qR X.prog X.w P l.heap d (.dK t)from G.hok d _ ha)
 obtain⟨J,z,Y,n,sU⟩:=dd.dictAt;have M:∀h:Heap,h.get? d=some z->h.DictAt (qE X.prog X.w) d B J:=λh e=>⟨z,Y,e,sU⟩
 have E:d<l.heap.objs.size:=ao n;refine wpAny_pyIter_dict sa (M _ n) ?_;have kp:∀b u,l.heap.get? b=some u->(l.heap.push { cls:=.type "dict_keyiterator", data:=.fields #[.ref d,.int 0 0,.int B.length 0,.int J 0] }).get? b=some u:=λb u e=>ah _ e
 have I2:L2.Inv X O σ (qw P d (.frz z (.dK t))) { l with heap:=l.heap.push { cls:=.type "dict_keyiterator", data:=.fields #[.ref d,.int 0 0,.int B.length 0,.int J 0] } }:=
  (G.kept (t':=l.toks) kp).write (x:=d) (e:=d) (o:=.frz z (.dK t)) (t':=l.toks) (by rw[ha];trivial) (.inl rfl) (λb u _ e=>e) ⟨_,kp _ _ n⟩ ⟨kp _ _ n,U,sa,B,kv,(M _ (kp _ _ n)).dictOf⟩
 refine⟨l.heap.objs.size,[l.heap.objs.size],_,_,_,rfl,I2,NV z d _ t B J (aD E) M kv,?_,λb hb=>?_,q z⟩
 .exact⟨_,aH _ rfl,rfl,rfl⟩
 .have e:b=l.heap.objs.size:=by simpa using hb
  subst e;exact G.fpOk (af _) (by rw[pd (eI E)];exact G.hok.fresh (af _))
end
end Xe
namespace Z
open PySem L2 Mr
def Ud(c:MT)(body:MS)(n:Nat)(S:AS):rz c body (n+1) S=(c S).bind λx=>if x.1=true then (body x.2).bind λo=>match o with
   | .nx l=>rz c body n l
   | .ct l=>rz c body n l
   | .bk l=>some (.nx l)
   | .rt a=>some (.rt a)
  else some (.nx x.2):=rfl
end Z
namespace Z
open PySem L2 Mr Xe
inductive Res where
 |ok (a:AV)|ex (c:Str) (fs:List (Str×Int))
abbrev MFx:=List D->Option Res
inductive XS where
 |ok (o:Lv)|ex (c:Str) (fs:List (Str×Int))
abbrev MX:=AS->Option XS
def kD:pI->D
 | .inl i=>.int i
 | .inr x=>.str x
def Va{K:Ζ}{H:Hp}(k:pI):rp K H (kD k) (kV k):=by
 cases k with
 |inl i=>exact .int
 |inr x=>exact .str
section
variable {K:Ζ}{te tf:TE}{k:MK}{tb:TS}{body:MS}{x y:Nat}
def pZ.fix{H₀ l Hf H:Hp}{S:AS}{σ:St}{B:List Δ}(R:pZ K H₀ l Hf S σ H B){p:Addr}{o:HO}(I:p∉B.flatten)(J:Hf p=none)(E:H₀ p=none):pZ K H₀ l (qw Hf p o) S σ (qw H p o) B:=by
 have s:pX Hf (qw Hf p o):=uD J;refine⟨R.len,R.lenF,λi L e=>?_,R.emp,R.nd,R.fresh,λb u z=>?_,λb u z=>?_,λb M z2=>?_,R.sf.trans s⟩
 .obtain⟨v,F,O,G,r⟩:=R.rep i L e;have t:∀q∈F,q≠p:=λq n z=>I (by rw[←z];exact mFq.mpr ⟨F,mGq G,n⟩)
  exact⟨v,F,O,G,r.keep s (λq n=>pd (t q n)) λq n=>by rw[pd (t q n)];exact(r.owned q n).2⟩
 .by_cases hb:b=p
  .subst hb;rw[pB]at z ⊢;exact z
  .rw[pd hb]at z ⊢;exact R.sub b u z
 .have hb:b≠p:=λq=>by rw[q,E]at z;cases z
  rw[pd hb];exact R.fr b u z
 .have hb:b≠p:=λq=>z2 (by rw[q];exact E)
  rw[pd hb];exact R.lim b M z2
end
def aaE(f:AV->Option XS):Res->Option XS
 | .ok r=>f r
 | .ex c fs=>some (.ex c fs)
abbrev QD:=JL Qy λi j=>.int (i / j)
def SM(K:Ζ)(te:TE)(m:ME):Prop:=∀{H₀ l Hf:Hp}{S:AS}{σ:St}{H:Hp}{u:List Δ}{d:D}{S':AS},pZ K H₀ l Hf S σ H u->m S=some (d,S')->∀Q:VK,
 (∀n t s v,pX Hf n->pZ K H₀ l n S' σ t s->rp K n d v->Q v t)->te σ H Q
def V4:AV->Option D
 | .sh d=>some d
 |_=>none
def Sb{a:AV}{d:D}(h:V4 a=some d):a = .sh d:=by
 unfold V4 at h;split at h <;> cases h
 rfl
def BK(i:Nat)(b:ME):ME:=λS=>(qM S i).bind λ_=>(b S).bind λy=>(intOf y.1).bind λz=>(qM y.2 i).bind λl=>vi (0<=z/\z<l.length/\l.length<=qF) ((l[z.toNat]?.bind V4).map λd=>(d,y.2.set i (some (.ow (l.eraseIdx z.toNat)))))
def Ax(i:Nat):ME:=λS=>(qM S i).bind λl=>(l[l.length-1]?.bind V4).map λd=>(d,S.set i (some (.ow l.dropLast)))
def aan(kvs:List (pI×D))(k:pI):List (pI×D):=kvs.filter λkv=>decide (kv.1≠k)
def ab4(i:Nat)(b:ME):ME:=λS=>(wO S i).bind λ_=>(b S).bind λy=>(uG y.1).bind λkey=>(wO y.2 i).bind λkvs=>(getD kvs key).map λd=>(d,y.2.set i (some (.owd (aan kvs key))))
section
variable {K:Ζ}
def Tp:CY K (rI Qy λi j=>.int (i / j)) QD:=Je λ_ _ _=>.int
def pR.erase{Hf H:Hp}{as:List AV}{vs:List V}{t:List Δ}(r:pR K Hf H as vs t)(k:Nat):pR K Hf H (as.eraseIdx k) (vs.eraseIdx k) (t.eraseIdx k):=by
 obtain⟨x,z,u⟩:=r;refine⟨by rw[dF,dF,x],by rw[dF,dF,z],λi b w G s l n=>?_⟩
 rw[List.getElem?_eraseIdx]at s l n;split at s
 .rename_i q;rw[pH q]at l n;exact u i b w G s l n
 .rename_i q;rw[pE q]at l n;exact u (i+1) b w G s l n
def KJ{l:List Δ}{k:Nat}(h:l[k]?=some []):(l.eraseIdx k).flatten=l.flatten:=by
 induction l generalizing k with
 |nil=>cases h
 |cons g r n=>
  cases k with
  |zero=>
   simp at h;subst h;rfl
  |succ k=>
   rw[cQ,fCq,fCq,n (by simpa using h)]
def pZ.lose{H₀ l Hf H:Hp}{S:AS}{σ:St}{u:List Δ}(R:pZ K H₀ l Hf S σ H u){i k:Nat}{n:List AV}{d:D}(h:S[i]?=some (some (.ow n)))(hk:n[k]?=some (.sh d)) :
  ∃p vs y F',σ[i]?=some (some (.ref p))/\H p=some (.lst vs)/\n.length=vs.length/\vs[k]?=some y/\rp K Hf d y/\pZ K H₀ l Hf (S.set i (some (.ow (n.eraseIdx k)))) σ (qw H p (.lst (vs.eraseIdx k))) (u.set i F'):=by
 obtain⟨p,vs,x,z,L,M,O,s,B,P,Q⟩:=R.ow h;have lk:k<n.length:=(gSq.mp hk).1;obtain⟨y,E⟩:∃y,vs[k]?=some y:=⟨_,gEg (by rw[←s.1];exact lk)⟩
 obtain⟨G,I⟩:∃G,x[k]?=some G:=⟨_,gEg (by rw[←s.2.1];exact lk)⟩
 obtain⟨t,U⟩:=(s.2.2 k _ _ _ hk E I).sh_inv;subst t;have J:=KJ I;refine⟨p,vs,y,p::(x.eraseIdx k).flatten,z,M,s.1,E,U,R.turn z L (by simp) (pV.news pB O ((s.keepUpd B).erase k)) ?_ ?_⟩
 .rw[J];exact ar.mpr ⟨B,P⟩
 .rw[J];exact Q
def HJ{i:Nat}{tb:TE}{b:ME}(hb:SR K tb b):SM K (SB K "list" Pp (yS i) (tL tb xE)) (BK i b):=by
 intro H₀ s Hf S σ H Fs d S' R e Q q;obtain⟨a0,J,e⟩:=oBq.mp e;obtain⟨y,L,e⟩:=oBq.mp e;obtain⟨z,t,e⟩:=oBq.mp e;obtain⟨l,M,e⟩:=oBq.mp e;rcases pK e with⟨⟨O,P,z2⟩,e⟩|e
 .obtain⟨d',u,e⟩:=oMq.mp e;cases e;obtain⟨a,u,x⟩:=oBq.mp u;have x:=Sb x;subst x;obtain⟨p,U,Gs,G,_,X,_⟩:=R.ow (qh J);refine⟨.ref p,G,.inl ⟨rfl,U,rJ.of X⟩,hb R (d:=y.1) (S':=y.2) L _ λY H1 Fs1 v t1 R1 I=>?_⟩
  obtain⟨p',B,w,F',n,hp,hl,hw,E,R2⟩:=R1.lose (qh M) u;rw[G]at n;cases n;have hv:v = .int z:=by
   have:y.1 = .int z:=by
    revert t
    unfold intOf;split <;> intro t <;> cases t
    assumption
   rw[this]at I;cases I;rfl
  subst hv;have hz:(l.length:Int)<=16777216:=by
   have:l.length<=16777216:=z2;lia
  refine⟨p,B,z,z.toNat,w,rfl,rfl,hp,by lia,by lia,?_,hw,q _ _ _ _ t1.sf R2 E⟩
  rw[←hl];unfold oz;have n1:¬ z<0:=by lia
  have n2:(decide (0<=z) && decide (z<(l.length:Int)))=true:=by
   rw[d0 O,d0 P];rfl
  simp only[n1,if_false];exact pH n2
 .cases e
def Ws{i:Nat}:SM K (SB K "list" Xv (yS i) xE) (Ax i):=by
 intro H₀ l Hf S σ H G d I R e Q q;obtain⟨z,B,e⟩:=oBq.mp e;obtain⟨J,n,e⟩:=oMq.mp e;cases e;obtain⟨a,n,s⟩:=oBq.mp n;have s:=Sb s;subst s;obtain⟨p,u,w,L,E,x,hl,hw,t,R2⟩:=R.lose (qh B) n;refine⟨.ref p,E,.inl ⟨rfl,u,rJ.of x⟩,p,u,w,rfl,rfl,x,by rw[←hl];exact hw,?_⟩
 rw[A3,hl,A3]at R2;exact q _ _ _ _ (.refl _) R2 t
def Du(i:Nat)(m:ME):MS:=λS=>(m S).map λx=>.nx (x.2.set i (some (.sh x.1)))
def UY{i:Nat}{te:TE}{m:ME}(h:SM K te m):SS K (EG te (rE i)) (Du i m):=by
 intro H₀ l Hf S σ H B o R e D hd;obtain⟨x,n,e⟩:=oMq.mp e;cases e;refine h R (d:=x.1) (S':=x.2) n _ λs E Fs1 v t u z=>?_
 exact hd _ _ _ _ t (u.setD i z)
def OF(i:Nat)(m:ME):MS:=λS=>(qM S i).bind λ_=>(m S).bind λx=>(qM x.2 i).bind λl=>vi (l.length<qF) (some (.nx (x.2.set i (some (.ow (l++[.sh x.1]))))))
def TM{i:Nat}{te:TE}{m:ME}(hk:SM K te m):SS K (Be (SB K "list" zM (yS i) (tL te xE))) (OF i m):=by
 intro H₀ t Hf S σ H Fs o R e D h;obtain⟨a0,P,e⟩:=oBq.mp e;obtain⟨x,Q,e⟩:=oBq.mp e;obtain⟨U,X,e⟩:=oBq.mp e;rcases pK e with⟨hl,e⟩|e
 .cases e;obtain⟨p,Y,Gs,u,_,h1,_⟩:=R.ow (qh P);refine⟨.ref p,u,.inl ⟨rfl,Y,rJ.of h1⟩,hk R (d:=x.1) (S':=x.2) Q _ λHf1 H1 Fs1 v t1 M r1=>?_⟩
  obtain⟨p',z,B,l,E,G,I,n,s,J,L⟩:=M.ow (qh X);rw[u]at l;cases l;refine⟨p,z,v,rfl,rfl,G,by rw[uq,←n.1];exact hl,h _ _ _ _ t1 (M.turn u E (by simp) (F':=p::(B++[[]]).flatten) (pV.news pB I ((n.keepUpd s).snoc (.sh r1))) ?_ λq O=>?_)⟩
  .rw[fAq,bB,aNq];exact ar.mpr ⟨s,J⟩
  .rw[fAq,bB,aNq]at O;exact L q O
 .cases e
def aby(i:Nat)(b:ME)(m:ME):MS:=λS=>(m S).bind λx=>(wO x.2 i).bind λ_=>(b x.2).bind λy=>(wO y.2 i).bind λkvs=>(uG y.1).bind λkey=>
 vi (kvs.length<qF) (some (.nx (y.2.set i (some (.owd (xn kvs key x.1))))))
end
def YE(d:D):V4 (.sh d)=some d:=rfl
def Pl(S:AS)(i:Nat)(b:ME):BK i b S=(qM S i).bind λ_=>(b S).bind λy=>(intOf y.1).bind λz=>(qM y.2 i).bind λl=>vi (0<=z/\z<l.length/\l.length<=qF) ((l[z.toNat]?.bind V4).map λd=>(d,y.2.set i (some (.ow (l.eraseIdx z.toNat))))):=rfl
def X1(S:AS)(i:Nat):Ax i S=(qM S i).bind λl=>(l[l.length-1]?.bind V4).map λd=>(d,S.set i (some (.ow l.dropLast))):=rfl
def Wt(S:AS)(i:Nat)(m:ME):Du i m S=(m S).map λx=>.nx (x.2.set i (some (.sh x.1))):=rfl
def WJ(S:AS)(i:Nat)(m:ME):OF i m S=(qM S i).bind λ_=>(m S).bind λx=>(qM x.2 i).bind λl=>vi (l.length<qF) (some (.nx (x.2.set i (some (.ow (l++[.sh x.1])))))):=rfl
def QP(x y:D):Option D:=match x with
 | .tup _=>tO x y
 |_=>E7 x y
def acD(i:Nat)(b:ME)(k:MK):MS:=λS=>(qM S i).bind λ_=>(b S).bind λy=>(intOf y.1).bind λz=>(sQ k y.2).bind λx=>(qM x.2 i).bind λl=>vi (0<=z/\z<=l.length/\l.length<qF) (some (.nx (x.2.set i (some (.ow (l.take z.toNat++x.1::l.drop z.toNat))))))
section
variable {K:Ζ}
def Wc:CY K (λx y H Q=>Su K x y H Q∨XJ K x y H Q) QP:=by
 intro x y H Q s t d l n e q;unfold QP at e;split at e
 .exact .inr (QV l n e q)
 .exact .inl (Lj l n e q)
end
def PY(ds:List D)(i:Int):QP (.tup ds) (.int i)=atI ds i:=rfl
def We:D->String->Option D
 | .int _,T=>if T = "list" ∨ T = "tuple" ∨ T = "str" then some (.bl false)else none
 | .str _,T=>if T = "list" ∨ T = "tuple" then some (.bl false)else none
 | .non,T=>if T = "list" ∨ T = "tuple" then some (.bl false)else none
 | .list _,T=>if T = "tuple" then some (.bl false)else none
 | .tup _,T=>if T = "list" then some (.bl false)else none
 |_,_=>none
def HE:List D->Option D
 | [x,.ty T]=>We x T
 |_=>none
def zJ(ds:List D):Option D:=match Iw ds with
 |some d=>some d
 |none=>HE ds
section
variable {K:Ζ}
def WC:Oy K (λxs H Q=>∃x T,xs=[x,.ty T]/\WU K x H T/\Q (.bl false) H) HE:=by
 intro B H Q E d r e q;unfold HE at e;split at e
 rotate_left
 .cases e
 rename_i x T;obtain⟨v,G,rfl,l,s⟩:=r.cons_inv;obtain⟨u,I,rfl,t,z⟩:=s.cons_inv;rw[z.nil_inv];cases t;unfold We at e;cases x <;> first|(cases e;done)|dsimp only at e
 all_goals
  split at e
  rotate_left
  .cases e
  rename_i n;cases e
 .cases l;exact⟨_,_,rfl,n,q _ .bl⟩
 .cases l;exact⟨_,_,rfl,n,q _ .bl⟩
 .cases l;exact⟨_,_,rfl,n,q _ .bl⟩
 .obtain⟨p,xs,rfl,h,_⟩:=l.list_inv;exact⟨_,_,rfl,.inl ⟨n,xs,rJ.of h⟩,q _ .bl⟩
 .obtain⟨p,xs,rfl,h,_⟩:=l.tup_inv;exact⟨_,_,rfl,.inr ⟨n,xs,C5.of h⟩,q _ .bl⟩
def YO:Oy K (λxs H Q=>(∃x T b,xs=[x,.ty T]/\XZ K x H T b/\Q (.bl b) H)∨∃x T,xs=[x,.ty T]/\WU K x H T/\Q (.bl false) H) zJ:=by
 intro n H Q s d r e q;unfold zJ at e;split at e
 .rename_i l;cases e;exact .inl (Xj r l q)
 .exact .inr (WC r e q)
end
def WL(ds:List D):zJ [.list ds,.ty "list"]=some (.bl true):=by simp[zJ,Iw,HE,Xo,We]
def XF(ds:List D):zJ [.tup ds,.ty "tuple"]=some (.bl true):=by simp[zJ,Iw,HE,Xo,We]
def Wx(x:Str):zJ [.str x,.ty "str"]=some (.bl true):=by simp[zJ,Iw,HE,Xo,We]
def V6(i:Int):zJ [.int i,.ty "int"]=some (.bl true):=by simp[zJ,Iw,HE,Xo,We]
def Wg(i:Int):zJ [.int i,.ty "bool"]=some (.bl false):=by simp[zJ,Iw,HE,Xo,We]
section
variable {K:Ζ}{H₀ Hf₀ Hf H:Hp}{S:AS}{σ:St}{Fs:List Δ}{te tb:TE}{k:MK}{b:ME}
def pZ.poke(R:pZ K H₀ Hf₀ Hf S σ H Fs){p:Addr}{o:HO}(pn:Hf p=none)(s:H₀ p=none)(t:p∉Fs.flatten):pZ K H₀ Hf₀ Hf S σ (qw H p o) Fs:=by
 refine⟨R.len,R.lenF,λj a x=>?_,R.emp,R.nd,R.fresh,λb u e=>?_,λb u e=>?_,R.lim,R.sf⟩
 .obtain⟨w,G,B,n,q⟩:=R.rep j a x;refine⟨w,G,B,n,q.keep (.refl _) (λc l=>pd λe=>t ?_) λc l=>(q.owned c l).2⟩
  subst e;exact qb n l
 .rw[pd λz=>by rw[z,pn]at e;cases e]
  exact R.sub b u e
 .rw[pd λz=>by rw[z,s]at e;cases e]
  exact R.fr b u e
def yR.stays{l u:Hp}{n:List Δ}(t:yR Hf H Fs l u n){p:Addr}(pn:Hf p=none)(x:H p≠none)(s:p∉Fs.flatten):l p=none/\p∉n.flatten:=by
 refine⟨?_,λm=>s (t.own p m)⟩
 by_cases h:l p=none
 .exact h
 .exact((t.gr p pn h).elim (λe=>absurd e x) λm=>absurd m s)
def Gq(b:ME)(k:MK):MK:=λS=>(b S).bind λy=>(sQ k y.2).bind λx=>(uG y.1).map λkey=>(.owd [(key,oP x.1)],x.2)
def Rl(hb:SR K tb b)(hk:SK K te k):SK K (Vq [(tb,te)]) (Gq b k):=by
 intro H₀ Hf₀ Hf S σ H Fs av S' R e Q q;obtain⟨y,e1,e⟩:=oBq.mp e;obtain⟨x,L,e⟩:=oBq.mp e;obtain⟨key,e3,e⟩:=oMq.mp e;cases e;have B:SK K te (sQ k):=SK.frz hk;intro p t;obtain⟨t0,R0,n1,M,n3⟩:=R.new (o:=.dK []) t;have O:=xB.one R t;refine hb R0 (d:=y.1) (S':=y.2) e1 _ λHf1 H1 Fs1 w E R1 r1=>?_
 have P:qw H p (HO.dK []) p=some (.dK []):=pB;have U:H1 p=some (.dK []):=E.sh p _ P;obtain⟨a1,a2⟩:=E.stays n1 (by rw[P];simp) n3
 refine B R1 (a:=x.1) (S':=x.2) L _ λG X Fs2 v F I R2 Y o2=>?_
 have p2:X p=some (.dK []):=I.sh p _ U;obtain⟨b1,b2⟩:=I.stays a1 (by rw[U];simp) a2
 obtain⟨x1,n⟩:∃d,x.1 = .sh d:=by
  obtain⟨w,_,e⟩:=oMq.mp L;rw[←e];exact⟨_,rfl⟩
 rw[n]at Y;have rv:=Y.sh_inv.2;have hw:=vK e3 r1;subst hw;refine⟨p2,[(key,v)],rfl,by simp,?_⟩
 have l:=(t0.trans E).trans I;have hs:pX H (qw X p (HO.dK (B1 [] [(key,v)]))):=λc u e=>by
  rw[pd λz=>by rw[z,t]at e;cases e]
  exact l.sh c u e
 refine q G _ Fs2 (.ref p) [p] ⟨l.sf,hs,l.own,l.gr⟩ (R2.poke b1 M b2) (.owd pB b1 ⟨rfl,λi d u s J=>?_⟩) ⟨by simp,λc h=>by rw[mSq.mp h];exact M,λc h=>by rw[mSq.mp h];exact b2,λc h=>by rw[mSq.mp h];exact .inl t⟩
 match i,s,J with
 |0,s,J=>
  cases s;cases J;rw[n,pW];exact rv
 |i+1,s,_=>simp at s
def Dd{i:Nat}:SM K (Zp K "list" Xv (yS i)) (Ax i):=Ws
def Ap:List (pI×D)->Option Ϝ
 | []=>some []
 | (.inl i,_)::r=>(Ap r).map (i :: ·)
 |_=>none
theorem IR:∀{kvs:List (pI×D)}{ns:Ϝ},Ap kvs=some ns->kvs.map (·.1)=ns.map aA
 | [],ns,h=>by cases h;rfl
 | (.inl i,d)::r,ns,h=>by
  obtain⟨s,l,n⟩:=oMq.mp (show(Ap r).map (i :: ·)=some ns from h)
  subst n;rw[au,au,IR l]
 | (.inr _,_)::_,_,h=>by cases h
def Hb(a:ME):MK:=λS=>(a S).bind λx=>match x.1 with
 | .dict kvs=>(Ap kvs).map λns=>(.ow ((qQ ns).map λn=>.sh (.int n)),x.2)
 |_=>none
def RM(hb:SR K te b):SK K (Ot (λxs H Q=>∃(a:Addr) (kvs:List (pI×V)) (ns:Ϝ),xs=[.ref a]/\H a=some (.dK kvs)/\kvs.map (·.1)=ns.map aA/\∀p,H p=none->Q (.ref p) (qw H p (.lst ((qQ ns).map V.int)))) (tL te xE)) (Hb b):=by
 intro H₀ Hf₀ Hf S σ H Fs z l R e Q q;obtain⟨x,B,e⟩:=oBq.mp e;obtain⟨E,G⟩:=x;cases E with
 |dict kvs=>
  obtain⟨ns,I,e⟩:=oMq.mp (show(Ap kvs).map (λns=>(AV.ow ((qQ ns).map λn=>.sh (.int n)),G))=some (z,l)from e)
  cases e;refine hb R (d:=.dict kvs) (S':=l) B _ λJ H1 Fs1 w s t L=>?_
  obtain⟨M,O,rfl,P,U⟩:=L.dict_inv;refine⟨M,O,ns,rfl,P,by rw[←U.1];exact IR I,λp u=>?_⟩
  obtain⟨X,Y,n1,n2,n3⟩:=t.new (o:=.lst ((qQ ns).map V.int)) u;rw[wK]at q;exact q _ _ _ (.ref p) [p] (s.trans X) Y (pV.new pB n1 (tq _)) ((xB.one t u).back s)
 |_=>cases e
end
def Ta(S:AS)(b:ME)(k:MK):Gq b k S=(b S).bind λy=>(sQ k y.2).bind λx=>(uG y.1).map λkey=>(.owd [(key,oP x.1)],x.2):=rfl
def VZ:D->AS->Option (AV×AS)
 | .dict kvs,S=>(Ap kvs).map λns=>(.ow ((qQ ns).map λn=>.sh (.int n)),S)
 |_,_=>none
def SY(S:AS)(a:ME):Hb a S=(a S).bind λx=>VZ x.1 x.2:=by
 unfold Hb;congr 1;funext x;obtain⟨l,n⟩:=x;cases l <;> rfl
def X9(kvs:List (pI×D))(S:AS):VZ (.dict kvs) S=(Ap kvs).map λns=>(.ow ((qQ ns).map λn=>.sh (.int n)),S):=rfl
theorem FH{α:Type}(f:α->Int)(g:α->D):∀l:List α,Ap (l.map λx=>(aA (f x),g x))=some (l.map f)
 | []=>rfl
 |x::l=>by
  show(Ap (l.map λx=>(aA (f x),g x))).map (f x :: ·)=_
  rw[FH f g l];rfl
def QL:D->Option V
 | .non=>some .non
 | .bl b=>some (.bl b)
 | .int i=>some (.int i)
 | .str s=>some (.str s)
 |_=>none
def BY:List D->Option (List V)
 | []=>some []
 |d::ds=>(QL d).bind λv=>(BY ds).map (v :: ·)
def Yv:D->Option (List D)
 | .list ds=>some ds
 | .tup ds=>some ds
 |_=>none
def WR(neg:Bool)(x y:D):Option D:=(QL x).bind λv=>(Yv y).bind λds=>(BY ds).map λvs=>.bl (if neg then !YV v vs else YV v vs)
section
variable {K:Ζ}{te:TE}
def FC{H:Hp}{d:D}{v w:V}(e:QL d=some v)(r:rp K H d w):w=v/\Aw v=true:=by
 cases d <;> first|(cases e;cases r;exact⟨rfl,rfl⟩)|cases e
theorem zD{H:Hp}:∀{ds:List D}{vs ws:List V},BY ds=some vs->qk K H ds ws->ws=vs/\vs.all Aw=true
 | [],vs,ws,e,r=>by
  cases e;exact⟨r.nil_inv,rfl⟩
 |d::ds,vs,ws,e,r=>by
  obtain⟨v,l,e⟩:=oBq.mp e;obtain⟨B,n,rfl⟩:=oMq.mp e;obtain⟨w,s,rfl,t,u⟩:=r.cons_inv;obtain⟨rfl,x⟩:=FC l t;obtain⟨rfl,z⟩:=zD n u;exact⟨rfl,by rw[iZ,x,z];rfl⟩
def Xr(neg:Bool):CY K (rIn K neg) (WR neg):=by
 intro x y H Q M G d I z e q;obtain⟨v,J,e⟩:=oBq.mp e;obtain⟨O,l,e⟩:=oBq.mp e;obtain⟨P,B,e⟩:=oMq.mp e;subst e;obtain⟨rfl,E⟩:=FC J I;cases G with
 |list L=>
  cases l;obtain⟨p,n,rfl,s,t⟩:=z.list_inv;obtain⟨rfl,u⟩:=zD B t;exact⟨p,n,rfl,.inl (rJ.of s),E,u,q _ .bl⟩
 |tup L=>
  cases l;obtain⟨p,n,rfl,s,t⟩:=z.tup_inv;obtain⟨rfl,u⟩:=zD B t;exact⟨p,n,rfl,.inr (C5.of s),E,u,q _ .bl⟩
 |_=>cases l
end
def IV(ns:Ϝ):BY (ns.map D.int)=some (ns.map V.int):=by
 induction ns with
 |nil=>rfl
 |cons n ns l=>rw[au,BY,l];rfl
def Qr(i:Int)(ns:Ϝ):YV (.int i) (ns.map V.int)=decide (i∈ns):=by
 unfold YV
 induction ns with
 |nil=>rfl
 |cons n ns l=>
  rw[au,dN,l];show(n == i || decide (i∈ns))=_
  by_cases h:i=n
  .subst h;simp
  .have s:¬ n=i:=λz=>h z.symm
   simp[h,s]
def WD(neg:Bool)(i:Int)(ns:Ϝ):WR neg (.int i) (.list (ns.map D.int))=some (.bl (if neg then !decide (i∈ns)else decide (i∈ns))):=by
 show(BY (ns.map D.int)).map _=_;rw[IV,df,Qr]
def uh(tf:MT)(te:MK)(cap:AS):List (D×D)->Option (List AV)
 | []=>some []
 |d::ds=>(tf (some (.sh d.1)::some (.sh d.2)::cap)).bind λb=>if b.1=true then (te b.2).bind λa=>(uh tf te cap ds).map (a.1 :: ·)else uh tf te cap ds
section
variable {K:Ζ}{H₀ Hf₀ Hf Hf' H H':Hp}{S S':AS}{σ:St}{Fs Fs':List Δ}
def J4(R:pZ K H₀ Hf₀ Hf S σ H Fs){fr:Θ}{cap:AS}(e:Cd S fr=some cap){d t:D}{x n:V}(z:rp K Hf d x)(s:rp K Hf t n) :
  pZ K H₀ Hf₀ Hf (some (.sh d)::some (.sh t)::cap) (some x::some n::slots σ fr) H (bu (cap.length+2) []):=by
 obtain⟨B,E⟩:=DC R e;have fl:=tx (cap.length+2);refine⟨by simp[slots,B],by simp,λi G l=>?_,λi l=>?_,by rw[fl];exact bw,λp u=>(by rw[fl]at u;cases u),R.sub,R.fr,R.lim,R.sf⟩
 .match i,l with
  |0,l=>
   cases l;exact⟨x,[],rfl,by simp,.sh z⟩
  |1,l=>
   cases l;exact⟨n,[],rfl,by simp,.sh s⟩
  |k+2,l=>
   have hk:k<cap.length:=(gSq.mp (by simpa using l)).1
   obtain⟨J,v,rfl,I,r⟩:=E k G (by simpa using l)
   exact⟨v,[],by simpa using I,by rw[bM,pH (by lia)],.sh r⟩
 .rw[bM];have hi:=(gSq.mp l).1;rw[pH (by simpa using hi)]
end
section
variable {K:Ζ}{tf:TT}{te:TE}{mf:MT}{me:MK}{fr:Θ}
def JM{H₀ s Hf1 E:Hp}{S1:AS}{σ:St}{Fs1:List Δ}{cap:AS}{ds:List (D×D)}{M:List AV}{J:It}{Q:VK}(hf:ED K tf mf)(he:SK K te me)
  (R1:pZ K H₀ s Hf1 S1 σ E Fs1) (ec:Cd S1 fr=some cap) (hl:ds.length<=qF) (e:uh mf me cap ds=some M)
  (hgo:∀i H,pX Hf1 H->i<ds.length->J.go i H) (hst:∀H,pX Hf1 H->J.stop ds.length H) (hy:∀i H x n,pX Hf1 H->i<ds.length->J.yld i H x n->∃a v1 v2 d,x = .ref a/\C5 K n a [v1,v2]/\ds[i]?=some d/\rp K Hf1 d.1 v1/\rp K Hf1 d.2 v2/\(n=H∨∃o,H a=none/\n=qw H a o))
  (q:∀Hf' n v F,yR Hf1 E Fs1 Hf' n Fs1->pZ K H₀ s Hf' S1 σ n Fs1->pV K Hf' n (.ow M) v F->xB H₀ E Fs1 Fs1 F->Q v n) :
  ∀l,E l=none->∃W:Nat->Nat->Hp->Prop,(∃m,W 0 m (qw E l (.lst [])))/\∀i m H,W i m H ->
   (J.stop i H/\Q (.ref l) H) ∨
   (J.go i H/\∃N:Hp->Prop,(∀n,N n->∃m',m'<m/\W (i+1) m' n)/\∀x n,J.yld i H x n->∀v0 v1,g2 K x (v0::v1::slots σ fr) n λσ2 E=>(∃a b,σ2=a::b::slots σ fr)/\tf σ2 E λb H2=>
    if b=true then te σ2 H2 λy H3=>∃ys,H3 l=some (.lst ys)/\ys.length<kr/\N (qw H3 l (.lst (ys++[y])))else N H2):=by
 intro l G;obtain⟨t0,R0,n1,n2,n3⟩:=R1.new (o:=.lst []) G
 let P:Nat->Hp->Prop:=λi H=>∃Hf as L U sU,pZ K H₀ s Hf S1 σ H Fs1/\yR Hf1 E Fs1 Hf H Fs1/\H l=some (.lst L)/\Hf l=none/\pR K Hf H as L U/\xB H₀ E Fs1 Fs1 (l::U.flatten)/\as.length<=i /\
  uh mf me cap (ds.drop i)=some sU/\M=as++sU
 refine⟨λi m H=>m=ds.length-i/\i<=ds.length/\P i H,⟨ds.length,by simp,bx _,Hf1,[],[],[],M,R0,t0,pB,n1,.nil,xB.one R1 G,bx _,e,rfl⟩,?_⟩
 rintro i m H ⟨rfl,hi,Hf,as,L,U,sU,R,t,ha,hfa,ra,ow,la,er,ea⟩;have hs:pX Hf1 H:=t.sf.trans R.sub
 by_cases O:i<ds.length
 .refine .inr ⟨hgo i H hs O,P (i+1),λn p=>⟨ds.length-(i+1),by lia,rfl,O,p⟩,λx n y=>?_⟩
  intro w0 w1;obtain⟨a0,u1,u2,d,rfl,hT,hd,rx1,rx2,hH⟩:=hy i H x n hs O y;rw[aC O,(gSq.mp hd).2]at er;obtain⟨b,e1,e2⟩:=oBq.mp er;have fl:=tx (cap.length+2);refine⟨a0,[u1,u2],rfl,hT,rfl,u1,[u2],rfl,u2,[],rfl,rfl,⟨some u1,some u2,rfl⟩,?_⟩;obtain⟨R,t,ha,ra⟩:pZ K H₀ s Hf S1 σ n Fs1/\yR Hf1 E Fs1 Hf n Fs1/\n l=some (.lst L)/\pR K Hf n as L U:=by
   rcases hH with rfl|⟨o,hn,rfl⟩
   .exact⟨R,t,ha,ra⟩
   .obtain⟨tn,Rn,m1,m2,m3⟩:=R.new (o:=o) hn;exact⟨Rn,t.trans tn,tn.sh _ _ ha,ra.stp (λq B=>ow.out q (mCo _ B)) tn⟩
  refine hf (J4 R ec (rx1.mono t.sf) (rx2.mono t.sf)) (b:=b.1) (S':=b.2) e1 _ λHf2 H2 Fs2 t2 R2=>?_
  obtain⟨S,R2'⟩:=R.outer R2 t2 fl;have I:H2 l=some (.lst L):=t2.sh _ _ ha;have X:Hf2 l=none:=by
   by_cases z:Hf2 l=none
   .exact z
   .rcases t2.gr l hfa z with z|z
    .rw[ha]at z;cases z
    .rw[fl]at z;cases z
  have ra2:=ra.stp (λq B=>ow.out q (mCo _ B)) S
  split at e2
  .rename_i hb;rw[hb];refine By ?_;obtain⟨a,e3,e4⟩:=oBq.mp e2;obtain⟨rest',e5,e6⟩:=oMq.mp e4;subst e6;refine he R2 (a:=a.1) (S':=a.2) e3 _ λHf3 H3 Fs3 v F t3 R3 r3 o3=>?_
   have fl2:Fs2.flatten=[]:=by
    cases hz:Fs2.flatten with
    |nil=>rfl
    |cons z zs=>
     have:=t2.own z (by rw[hz];simp)
     rw[fl]at this;cases this
   obtain⟨t3',R3'⟩:=R2'.outer R3 t3 fl2;have ha3:H3 l=some (.lst L):=t3.sh _ _ I;have Y:Hf3 l=none:=by
    by_cases z:Hf3 l=none
    .exact z
    .rcases t3.gr l X z with z|z
     .rw[I]at z;cases z
     .rw[fl2]at z;cases z
   have ra3:=ra2.stp (λq B=>ow.out q (mCo _ B)) t3'
   have u:∀q∈F,H2 q=none:=λq B=>(o3.new q B).elim id λz=>by rw[fl2]at z;cases z
   have accF:l∉F:=λm=>by rw[u l m]at I;cases I
   have accG:l∉U.flatten:=(ar.mp ow.nd).1;have tt:=(t.trans S).trans t3';refine⟨L,ha3,?_,?_⟩
   .rw[uq,←ra.1];lia
   .refine⟨Hf3,as++[a.1],L++[v],U++[F],rest',R3'.updOut n3 Y n2,⟨tt.sf,λb o eb=>?_,λ_ h=>h,tt.gr⟩,pB,Y,(ra3.keepUpd accG).snoc (r3.keepUpd accF),?_,by rw[lAq,lSq];lia,e5,by rw[ea];simp⟩
    .rw[pd λz=>by rw[z,G]at eb;cases eb]
     exact tt.sh b o eb
    .rw[fAq,bB];have oF:xB H₀ E Fs1 Fs1 F:=⟨o3.nd,o3.fr,λq B m=>(R2'.mem m).1 (u q B),λq B=>.inl ((t.trans S).sh.free (u q B))⟩
     refine(show xB H₀ E Fs1 Fs1 ((l::U.flatten)++F)from ow.app oF λq B m=>?_)
     rcases ae.mp B with z|z
     .rw[z]at m;exact accF m
     .exact(ra2.owned q z).1 (u q m)
  .rename_i hb;rw[cO]at hb;rw[hb];exact BM ⟨Hf2,as,L,U,sU,R2',t.trans S,I,X,ra2,ow,by lia,e2,ea⟩
 .have e0:i=ds.length:=by lia
  subst e0;rw[du]at er;cases er;rw[aNq]at ea;subst ea;exact .inl ⟨hst H hs,q Hf H (.ref l) _ t R (pV.news ha hfa ra) ow⟩
end
theorem Fg{te:MK}{cap:AS}(g:D×D->AV):∀{ds:List (D×D)},(∀d∈ds,∃S',te (some (.sh d.1)::some (.sh d.2)::cap)=some (g d,S'))->uh sJ te cap ds=some (ds.map g)
 | [],_=>rfl
 |d::ds,h=>by
  obtain⟨S',e⟩:=h d (by simp)
  show((sJ _).bind _)=_;rw[show sJ (some (.sh d.1)::some (.sh d.2)::cap)=some (true,some (.sh d.1)::some (.sh d.2)::cap)from rfl,bN,pH rfl,e,bN,Fg g λx l=>h x (by simp[l])]
  rfl
section
variable {K:Ζ}{H₀ Hf₀ Hf Hf' H H':Hp}{S S':AS}{σ σ':St}{Fs Fs':List Δ}
theorem GT.same(s:pX H H'):∀{path:Θ}{v w:V},GT H v path w->GT H' v path w
 | [],v,w,h=>h
 |j::js,v,w,⟨p,vs,u,h1,h2,h3,h4⟩=>⟨p,vs,u,h1,s _ _ h2,h3,GT.same s h4⟩
theorem GT.one:∀{path:Θ}{v w l:V},GT H v path w->GT H v path l->w=l
 | [],v,w,l,h,t=>h.symm.trans t
 |j::js,v,w,l,hz,hy=>by
  obtain⟨p,J,u,x,z,B,E⟩:=hz;obtain⟨L,G,M,n,g2,s,I⟩:=hy;rw[x]at n;cases n;rw[z]at g2;cases g2;rw[B]at s;cases s;exact E.one I
theorem GT.snoc:∀{path:Θ}{v:V}{p:Addr}{vs:List V}{n:Nat}{u:V},GT H v path (.ref p)->H p=some (.lst vs)->vs[n]?=some u->GT H v (path++[n]) u
 | [],v,p,vs,n,u,h,l,s=>⟨p,vs,u,h,l,s,rfl⟩
 |j::js,v,p,vs,n,u,⟨p',vs',u',g1,g2,g3,g4⟩,l,s=>⟨p',vs',u',g1,g2,g3,g4.snoc l s⟩
theorem GT.kept:∀{path:Θ}{l:AV}{v w:V}{F:Δ}{as:List AV},pV K Hf H l v F->qp l path=some as->GT H v path w->(∀q∈F,H' q=H q)->GT H' v path w
 | [],l,v,w,F,as,_,_,h,_=>h
 |j::js,l,v,w,F,as,r,e,hz,hk=>by
  obtain⟨p,L,u,s,t,x,M⟩:=hz;cases l with
  |ow n=>
   obtain⟨U,O,X,z,B,E,Y,G⟩:=r.ow_inv;rw[s]at z;cases z;rw[t]at E;cases E;obtain⟨a,I,e⟩:=oBq.mp (show(n[j]?).bind (λa=>qp a js)=some as from e)
   have P:j<n.length:=(gSq.mp I).1;have J:=gEg (G.2.1 ▸ P);have Q:=G.2.2 j a u _ I x J;refine⟨p,L,u,s,by rw[hk p (by rw[B];simp)];exact t,x,M.kept Q e λq R=>hk q ?_⟩
   rw[B];exact mCo _ (qb J R)
  |_=>cases e
def frm(H₀ H:Hp)(F:Δ):Hp:=λb=>if b∈F then H b else H₀ b
def Gv{F:Δ}{b:Addr}(h:b∈F):frm H₀ H F b=H b:=pH h
def Ab{F:Δ}{b:Addr}(h:b∉F):frm H₀ H F b=H₀ b:=pE h
def pZ.frame(R:pZ K H₀ Hf₀ Hf S σ H Fs){i:Nat}{F:Δ}(s2:Fs[i]?=some F):pZ K (frm H₀ H F) Hf₀ Hf (S.set i none) σ H (Fs.set i []):=by
 have l:=R.kill i;have t:∀q∈F,q∈Fs.flatten:=λq x=>qb s2 x
 refine⟨l.len,l.lenF,l.rep,l.emp,l.nd,λp n=>?_,l.sub,λb u e=>?_,λb B s=>?_,l.sf⟩
 .have hn:p∉F:=λz=>um R.nd s2 z n
  rw[Ab hn];exact l.fresh p n
 .by_cases hb:b∈F
  .rw[Gv hb]at e;exact e
  .rw[Ab hb]at e;exact R.fr b u e
 .by_cases hb:b∈F
  .exact(R.mem (t b hb)).2
  .rw[Ab hb]at s;exact R.lim b B s
def Gr{α:Type}{l:List α}{i:Nat}{a:α}(h:l[i]?=some a):l.set i a=l:=by
 obtain⟨hk,n⟩:=gSq.mp h;rw[←n];exact gE hk
def pZ.unframe(R:pZ K H₀ Hf₀ Hf S σ H Fs){i:Nat}{t:AV}{v:V}{F:Δ}(s2:Fs[i]?=some F)(r:pV K Hf H t v F)(nd:F.Nodup)(s:∀q∈F,H₀ q=none)
  (l:pZ K (frm H₀ H F) Hf₀ Hf' S' σ' H' Fs') (x:S'[i]?=some none) (s1:σ'[i]?=some (some v)) (sf:pX Hf Hf') :
  (∀q∈F,H' q=H q)/\pV K Hf' H' t v F/\pZ K H₀ Hf₀ Hf' (S'.set i (some t)) σ' H' (Fs'.set i F):=by
 have hk:∀q∈F,H' q=H q:=λq n=>by
  have hn:=(R.mem (qb s2 n)).1;cases E:H q with
  |none=>exact absurd E hn
  |some u=>exact l.fr q u (by rw[Gv n];exact E)
 have J:∀q∈F,Hf' q=none:=λq n=>by
  have B:=R.mem (qb s2 n);refine l.lim q ?_ (by rw[Gv n];exact B.1)
  cases L:Hf₀ q with
  |none=>rfl
  |some u=>rw[R.sf q u L]at B;exact absurd B.2 (by simp)
 have G:=r.keep sf hk J;refine⟨hk,G,?_⟩;have M:pZ K H₀ Hf₀ Hf' (S'.set i none) σ' H' (Fs'.set i []):=by
  rw[Gr x,Gr (l.emp i x)];refine⟨l.len,l.lenF,l.rep,l.emp,l.nd,λp O=>?_,l.sub,λb u e=>?_,λb P I=>?_,l.sf⟩
  .have:=l.fresh p O
   by_cases hb:p∈F
   .exact s p hb
   .rwa [Ab hb]at this
  .refine l.fr b u ?_;rw[Ab λz=>by rw[s b z]at e;cases e]
   exact e
  .refine l.lim b P ?_;rw[Ab λz=>I (s b z)]
   exact I
 refine M.again (F:=F) s1 G nd λq n=>⟨s q n,λm=>?_⟩
 rw[Gr (l.emp i x)]at m;have:=l.fresh q m;rw[Gv n]at this;exact(R.mem (qb s2 n)).1 this
end
abbrev MP:=AS->Option (List Nat×AS)
def Qs(i:Nat):MP:=λS=>(qM S i).map λ_=>([],S)
def Zb(i:Nat)(s:MP)(b:ME):MP:=λS=>(s S).bind λx=>(b x.2).bind λy=>(intOf y.1).bind λj=>(qM y.2 i).bind λl=>(qp (.ow l) x.1).bind λas=>(Ih as.length j).map λn=>(x.1++[n],y.2)
def SPh(K:Ζ)(i:Nat)(te:TE)(x:MP):Prop:=∀{H₀ l Hf:Hp}{S:AS}{σ:St}{H:Hp}{u:List Δ}{path:Θ}{S':AS},pZ K H₀ l Hf S σ H u->x S=some (path,S')->∀Q:VK,
 (∀n t s v w,yR Hf H u n t s->pZ K H₀ l n S' σ t s->σ[i]?=some (some v)->GT t v path w->Q w t)->te σ H Q
section
variable {K:Ζ}
def LN(i:Nat):SPh K i (yS i) (Qs i):=by
 intro H₀ l Hf S σ H u path x R e Q q;obtain⟨s,t,e⟩:=oMq.mp e;cases e;obtain⟨p,z,B,n,_⟩:=R.ow (qh t);exact⟨_,n,q _ _ _ _ _ .refl R n rfl⟩
def Bx{H₀ l Hf H:Hp}{S:AS}{σ:St}{t:List Δ}{i:Nat}{n as:List AV}{path:Θ}{v w:V}(R:pZ K H₀ l Hf S σ H t)(e:S[i]?=some (some (.ow n)))(s1:σ[i]?=some (some v))(u:qp (.ow n) path=some as)(h:GT H v path w) :
  ∃p vs,w = .ref p/\H p=some (.lst vs)/\vs.length=as.length:=by
 obtain⟨B,F,s,E,r,nd,_⟩:=R.move e;rw[s1]at s;cases s;obtain⟨p,vs,G,x,g2,I,z,_⟩:=r.path nd u;exact⟨p,vs,h.one x,g2,z.1.symm⟩
def Q3{i:Nat}{te tb:TE}{E:MP}{b:ME}(U:SPh K i te E)(hb:SR K tb b):SPh K i (Tz (Su K) te tb) (Zb i E b):=by
 intro H₀ l Hf S σ H Fs path S' R e Q q;obtain⟨x,X,e⟩:=oBq.mp e;obtain⟨y,Y,e⟩:=oBq.mp e;obtain⟨j,s,e⟩:=oBq.mp e;obtain⟨avs,e4,e⟩:=oBq.mp e;obtain⟨as,e5,e⟩:=oBq.mp e;obtain⟨n,t,e⟩:=oMq.mp e;cases e;refine U R (path:=x.1) (S':=x.2) X _ λHf1 H1 Fs1 v w t1 R1 G a1=>hb R1 (d:=y.1) (S':=y.2) Y _ λHf2 H2 Fs2 u I R2 J=>?_
 have hy:y.1 = .int j:=by
  cases hx:y.1 <;> rw[hx]at s <;> first|(cases s;rfl)|cases s
 rw[hy]at J;cases J;have L:=a1.same I.sh;obtain⟨p,z,rfl,M,O⟩:=Bx R2 (qh e4) G e5 L;have hix:=t;obtain⟨_,hn,_⟩:=K8 t;have B:n<z.length:=by rw[O];exact hn
 obtain⟨u,P⟩:∃u,z[n]?=some u:=⟨_,gEg B⟩;refine⟨p,z,j,u,rfl,rfl,rJ.of M,?_,q _ _ _ v _ (t1.trans I) R2 G (L.snoc M P)⟩;unfold atI;rw[O,t];exact P
end
section
variable {K:Ζ}
def pZ.grow{H₀ l Hf H:Hp}{S:AS}{σ:St}{L:List Δ}{i:Nat}{s as:List AV}{path:Θ}{v:V}{p:Addr}(R:pZ K H₀ l Hf S σ H L)(e:S[i]?=some (some (.ow s)))(s1:σ[i]?=some (some v))(en:qp (.ow s) path=some as)(h:GT H v path (.ref p)) :
  ∃vs,H p=some (.lst vs)/\as.length=vs.length/\∀(bs:List AV) (ws:List V) (n:List Δ),pR K Hf H bs ws n->n.flatten.Nodup->(∀q∈n.flatten,H₀ q=none/\q∉L.flatten) ->
   ∃E,pZ K H₀ l Hf (S.set i (some (putAt (.ow s) path (as++bs)))) σ (qw H p (.lst (vs++ws))) E:=by
 obtain⟨v',F,M,x,r,nd,O,_⟩:=R.move e;rw[s1]at M;cases M;obtain⟨p',vs,G,g1,g2,g3,P,Q,U,I,X,g8⟩:=r.path nd en;have J:V.ref p=V.ref p':=h.one g1;cases J;refine⟨vs,g2,P.1,λbs ws n rb nG u=>?_⟩
 have Y:p∉n.flatten:=λm=>(u p m).2 (qb x Q)
 have t:(G++n).flatten=G.flatten++n.flatten:=fAq;obtain⟨F',k1,k2,k3⟩:=g8 (as++bs) (vs++ws) (G++n) ((P.keepUpd U).append (rb.keepUpd Y)) (by
  rw[t];refine ar.mpr ⟨λm=>(mAq.mp m).elim U Y,nAq.mpr ⟨I,nG,λa ha b hb z=>(u b hb).2 (qb x (X b (z ▸ ha)))⟩⟩) (λq B=>by
  rw[t]at B;exact(mAq.mp B).imp id λm z=>(u q m).2 (qb x z))
 refine⟨_,R.turnAny s1 x Q k1 k2 λq B=>?_⟩
 rcases k3 q B with z|z
 .exact O q z
 .rw[t]at z;rcases mAq.mp z with z|z
  .exact O q (X q z)
  .exact⟨(u q z).1,λm=>(u q z).2 (qI m)⟩
def abO(i:Nat)(n:MP)(k:MK):MS:=λS=>(n S).bind λx=>(qM x.2 i).bind λs=>(qp (.ow s) x.1).bind λ_=>(k x.2).bind λy=>(qM y.2 i).bind λl=>(qp (.ow l) x.1).bind λas=>vi (as.length<qF) (some (.nx (y.2.set i (some (putAt (.ow l) x.1 (as++[y.1]))))))
def abW(i:Nat)(s:MP)(l:ML):MS:=λS=>(s S).bind λx=>(qM x.2 i).bind λt=>(qp (.ow t) x.1).bind λ_=>(l x.2).bind λy=>(qM y.2 i).bind λn=>(qp (.ow n) x.1).bind λas=>vi (as.length+y.1.length<=qF) (some (.nx (y.2.set i (some (putAt (.ow n) x.1 (as++y.1.map .sh))))))
def Als(x i:Nat)(path:Θ)(S:AS)(σ:St)(H:Hp):Prop:=∃v p l as,S[i]?=some (some (.ow l))/\qp (.ow l) path=some as/\σ[x]?=some (some (.ref p))/\σ[i]?=some (some v)/\GT H v path (.ref p)
def OI(K:Ζ)(x i:Nat)(t:TS)(m:Θ->MS):Prop:=∀{path:Θ}{H₀ l Hf:Hp}{S:AS}{σ:St}{H:Hp}{n:List Δ}{o:Lv},pZ K H₀ l Hf S σ H n->Als x i path S σ H->m path S=some o->∀D:An,EU K H₀ l Hf D o->t D σ H
def Tj(x i:Nat)(n:MP)(m:Θ->MS):MS:=λS=>(n S).bind λy=>(qM y.2 i).bind λl=>(qp (.ow l) y.1).bind λ_=>vi (x≠i/\x<y.2.length) (m y.1 (y.2.set x none))
def YB{x i:Nat}{te:TE}{B:MP}{t:TS}{m:Θ->MS}(L:SPh K i te B)(M:OI K x i t m):SS K (Se (EG te (rE x)) t) (Tj x i B m):=by
 intro H₀ n Hf S σ H X o R e D h;obtain⟨y,O,e⟩:=oBq.mp e;obtain⟨s,E,e⟩:=oBq.mp e;obtain⟨P,G,e⟩:=oBq.mp e;rcases pK e with⟨⟨l,u⟩,e⟩|e
 .refine L R (path:=y.1) (S':=y.2) O _ λQ Y Fs1 v w U z I J=>?_
  obtain⟨p,vs,rfl,h1,h2⟩:=Bx z (qh E) I G J;have R2:=(z.kill x).any (V.ref p);refine M R2 ⟨v,p,s,P,?_,G,?_,?_,J⟩ e D (h.mono U.sf)
  .rw[aG l];exact qh E
  .exact aN (by rw[←z.len];exact u)
  .rw[aG l];exact I
 .cases e
def Vs{x i:Nat}{t:TS}{m:MS}(h:SS K t m):OI K x i t (λ_=>m):=λR _ e D o=>h R e D o
def WO{x i:Nat}{t u:TS}{a:Θ->MS}{b:MS}(ha:OI K x i t a)(hb:SS K u b):OI K x i (Se t u) (λpath=>oQ (a path) b):=by
 intro path H₀ l Hf S σ H I o R A e D h;obtain⟨y,n,e⟩:=oBq.mp e;refine ha R A n _ ?_;cases y with
 |nx J=>exact λz B L E s G=>hb G e D (h.mono s)
 |rt a=>cases e;exact h
 |bk a=>cases e;exact h
 |ct a=>cases e;exact h
def IG(i:Nat)(c:MT)(a b:Θ->MS):Θ->MS:=λpath S=>(c S).bind λy=>(qM y.2 i).bind λl=>(qp (.ow l) path).bind λ_=>if y.1=true then a path y.2 else b path y.2
def P6{x i:Nat}{c:TT}{m:MT}{t u:TS}{a b:Θ->MS}(I:ED K c m)(ha:OI K x i t a)(hb:OI K x i u b):OI K x i (Tf c t u) (IG i m a b):=by
 intro path H₀ n Hf S σ H Y o R A e D h;obtain⟨y,J,e⟩:=oBq.mp e;obtain⟨s,L,e⟩:=oBq.mp e;obtain⟨M,O,e⟩:=oBq.mp e;obtain⟨v,p,_,_,_,_,P,Q,z⟩:=A;refine I R (b:=y.1) (S':=y.2) J _ λU X Fs1 B E=>?_
 have G:Als x i path y.2 σ X:=⟨v,p,s,M,qh L,O,P,Q,z.same B.sh⟩;split at e
 .rename_i l;rw[l];exact By (ha E G e D (h.mono B.sf))
 .rename_i l;rw[cO]at l;rw[l];exact BM (hb E G e D (h.mono B.sf))
def LC(i:Nat)(k:MK):Θ->MS:=λpath S=>(k S).bind λy=>(qM y.2 i).bind λl=>(qp (.ow l) path).bind λas=>vi (as.length<qF) (some (.nx (y.2.set i (some (putAt (.ow l) path (as++[y.1]))))))
def X6{x i:Nat}{te:TE}{k:MK}(hk:SK K te k):OI K x i (Be (SB K "list" zM (yS x) (tL te xE))) (LC i k):=by
 intro path H₀ n Hf S σ H Fs o R A e D h;obtain⟨y,G,e⟩:=oBq.mp e;obtain⟨I,J,e⟩:=oBq.mp e;obtain⟨as,L,e⟩:=oBq.mp e;rcases pK e with⟨hl,e⟩|e
 .cases e;obtain⟨v,p,a0,n0,M,O,P,B,l⟩:=A;obtain⟨p',Q,U,X,h2⟩:=Bx R M B O l;cases U;refine⟨.ref p,P,.inl ⟨rfl,Q,rJ.of X⟩,hk R (a:=y.1) (S':=y.2) G _ λY H2 Fs2 u F E R2 r2 s=>?_⟩
  obtain⟨t,g1,g2,g3⟩:=R2.grow (qh J) B L (l.same E.sh);obtain⟨Fs',R3⟩:=g3 [y.1] [u] [F] (pR.nil.snoc r2) (by rw[bB];exact s.nd) (λq z=>by rw[bB]at z;exact⟨s.fr q z,s.out q z⟩)
  exact⟨p,t,u,rfl,rfl,g1,by rw[uq,←g2];exact hl,h _ _ _ _ E.sf R3⟩
 .cases e
def abQ(i:Nat)(l:ML):Θ->MS:=λpath S=>(l S).bind λy=>(qM y.2 i).bind λn=>(qp (.ow n) path).bind λas=>vi (as.length+y.1.length<=qF) (some (.nx (y.2.set i (some (putAt (.ow n) path (as++y.1.map .sh))))))
def GR(i:Nat)(n:ME):Θ->MS:=λpath S=>(qM S i).bind λl=>(qp (.ow l) path).bind λas=>(n (S.set i none)).bind λy=>vi (y.2[i]?=some none/\as.length<qF) (some (.nx (y.2.set i (some (putAt (.ow l) path (as++[.sh y.1]))))))
def UE{x i:Nat}{te:TE}{J:ME}(hk:SM K te J):OI K x i (Be (SB K "list" zM (yS x) (tL te xE))) (GR i J):=by
 intro path H₀ z Hf S σ H Fs o R A e D h;obtain⟨l,Q,e⟩:=oBq.mp e;obtain⟨as,B,e⟩:=oBq.mp e;obtain⟨y,U,e⟩:=oBq.mp e;rcases pK e with⟨⟨hn,hl⟩,e⟩|e
 .cases e;obtain⟨v,p,a0,n0,_,_,X,t,n⟩:=A;have s:=qh Q;obtain⟨p',Y,hp,h1,h2⟩:=Bx R s t B n;cases hp;obtain⟨v',F,L,M,r,nd,oo,_⟩:=R.move s;rw[t]at L;cases L;refine⟨.ref p,X,.inl ⟨rfl,Y,rJ.of h1⟩,hk (R.frame M) (d:=y.1) (S':=y.2) U _ λHf2 H2 Fs2 u O R2 r2=>?_⟩
  obtain⟨k1,k2,R3⟩:=R.unframe M r nd (λq E=>(oo q E).1) R2 hn t O
  have G:i<y.2.length:=(gSq.mp hn).1;have e5:(y.2.set i (some (.ow l)))[i]?=some (some (.ow l)):=aN G;obtain⟨I,g1,g2,g3⟩:=R3.grow e5 t B (n.kept r B k1);obtain⟨Fs',P⟩:=g3 [.sh y.1] [u] [[]] (pR.nil.snoc (.sh r2)) (by simp) (λq E=>by simp at E)
  rw[gT]at P;exact⟨p,I,u,rfl,rfl,g1,by rw[uq,←g2];exact hl,h _ _ _ _ O P⟩
 .cases e
def Yu(K:Ζ)(J:Θ)(t:TS)(m:MS):Prop:=∀{H₀ l Hf:Hp}{S:AS}{σ:St}{H:Hp}{z:List Δ}{S':AS},pZ K H₀ l Hf S σ H z->m S=some (.nx S')->∀D:An,(∀s n x u,pX Hf s->pZ K H₀ l s S' n x u->(∀j∈J,n[j]?=σ[j]?)->D.nx n x)->t D σ H
def Ow{J:Θ}{t:TS}(h:∀D σ H,D.nx σ H->t D σ H):Yu K J t rG:=by
 intro H₀ l Hf S σ H n s R e D q;cases e;exact h _ _ _ (q _ _ _ _ (.refl _) R λ_ _=>rfl)
def Lb{J:Θ}{y:Nat}{te:TE}{k:MK}(hk:SK K te k)(t:y∉J):Yu K J (EG te (rE y)) (oY y k):=by
 intro H₀ l Hf S σ H M O R e D q;obtain⟨x,u,e⟩:=oMq.mp e;cases e;refine hk R (a:=x.1) (S':=x.2) u _ λB P Fs1 v F E G I n=>?_
 exact q _ _ _ _ E.sf (G.set y I n.nd λq s=>⟨n.fr q s,n.out q s⟩) λj L=>aG (show y≠j from λz=>t (by rw[z];exact L))
def Sf{J:Θ}{y:Nat}{te:TE}{m:ME}(hk:SM K te m)(n:y∉J):Yu K J (EG te (rE y)) (Du y m):=by
 intro H₀ l Hf S σ H I L R e D q;obtain⟨x,s,e⟩:=oMq.mp e;cases e;refine hk R (d:=x.1) (S':=x.2) s _ λt M Fs1 v u B E=>?_
 exact q _ _ _ _ u (B.setD y E) λj G=>aG (show y≠j from λz=>n (by rw[z];exact G))
def Ya{J:Θ}{c:TT}{m:MT}{t u:TS}{a b:MS}(M:ED K c m)(ha:Yu K J t a)(hb:Yu K J u b):Yu K J (Tf c t u) (A5 m a b):=by
 intro H₀ n Hf S σ H U X R e D q;obtain⟨x,O,e⟩:=oBq.mp e;refine M R (b:=x.1) (S':=x.2) O _ λP Y Fs1 I L=>?_
 split at e
 .rename_i l;rw[l];exact By (ha L e D λz B Q E s G j=>q _ _ _ _ (I.sf.trans s) G j)
 .rename_i l;rw[cO]at l;rw[l];exact BM (hb L e D λz B Q E s G j=>q _ _ _ _ (I.sf.trans s) G j)
def GS(i:Nat)(a:MS)(m:Θ->MS):Θ->MS:=λpath S=>(qM S i).bind λl=>(a (S.set i none)).bind λo=>match o with
 | .nx n=>vi (n[i]?=some none) (m path (n.set i (some (.ow l))))
 |_=>none
def Ke{x i:Nat}{t u:TS}{a:MS}{m:Θ->MS}(ha:Yu K [x,i] t a)(X:OI K x i u m):OI K x i (Se t u) (GS i a m):=by
 intro path H₀ B Hf S σ H Fs o R A e D h;obtain⟨l,Y,e⟩:=oBq.mp e;obtain⟨oo,e3,e⟩:=oBq.mp e;cases oo with
 |nx E=>
  rcases pK (show vi (E[i]?=some none) (m path (E.set i (some (.ow l))))=some o from e)with⟨hn,e⟩|e
  .obtain⟨v,p,a0,n0,n,L,s2,G,I⟩:=A;have M:=qh Y;rw[M]at n;cases n;obtain⟨v',F,O,P,r,nd,ow,_⟩:=R.move M;rw[G]at O;cases O;refine ha (R.frame P) e3 _ λHf' z H' Fs' s R' Q=>?_
   have j1:z[x]?=σ[x]?:=Q x (by simp)
   have U:z[i]?=σ[i]?:=Q i (by simp)
   obtain⟨k1,k2,R3⟩:=R.unframe P r nd (λq hq=>(ow q hq).1) R' hn (U.trans G) s
   have J:i<E.length:=(gSq.mp hn).1;exact X R3 ⟨v,p,l,n0,aN J,L,j1.trans s2,U.trans G,I.kept r L k1⟩ e D (h.mono s)
  .cases e
 |_=>cases e
end
def ZN(S:AS)(i:Nat):Qs i S=(qM S i).map λ_=>([],S):=rfl
def aa8(S:AS)(i:Nat)(s:MP)(b:ME):Zb i s b S=(s S).bind λx=>(b x.2).bind λy=>(intOf y.1).bind λj=>(qM y.2 i).bind λl=>(qp (.ow l) x.1).bind λas=>(Ih as.length j).map λn=>(x.1++[n],y.2):=rfl
def Zu(S:AS)(x i:Nat)(n:MP)(m:Θ->MS):Tj x i n m S=(n S).bind λy=>(qM y.2 i).bind λl=>(qp (.ow l) y.1).bind λ_=>vi (x≠i/\x<y.2.length) (m y.1 (y.2.set x none)):=rfl
def Zi(S:AS)(i:Nat)(c:MT)(a b:Θ->MS)(path:Θ):IG i c a b path S=(c S).bind λy=>(qM y.2 i).bind λl=>(qp (.ow l) path).bind λ_=>if y.1=true then a path y.2 else b path y.2:=rfl
def WE(S:AS)(i:Nat)(k:MK)(path:Θ):LC i k path S=(k S).bind λy=>(qM y.2 i).bind λl=>(qp (.ow l) path).bind λas=>vi (as.length<qF) (some (.nx (y.2.set i (some (putAt (.ow l) path (as++[y.1])))))):=rfl
def Th(S:AS)(i:Nat)(n:ME)(path:Θ):GR i n path S=(qM S i).bind λl=>(qp (.ow l) path).bind λas=>(n (S.set i none)).bind λy=>vi (y.2[i]?=some none/\as.length<qF) (some (.nx (y.2.set i (some (putAt (.ow l) path (as++[.sh y.1])))))):=rfl
def Zv(i:Nat)(l:List AV)(m:Θ->MS)(path:Θ):Lv->Option Lv
 | .nx n=>vi (n[i]?=some none) (m path (n.set i (some (.ow l))))
 |_=>none
def aac(S:AS)(i:Nat)(a:MS)(m:Θ->MS)(path:Θ):GS i a m path S=(qM S i).bind λl=>(a (S.set i none)).bind (Zv i l m path):=by
 unfold GS;congr 1
def U2(i:Nat)(l:List AV)(m:Θ->MS)(path:Θ)(n:AS):Zv i l m path (.nx n)=vi (n[i]?=some none) (m path (n.set i (some (.ow l)))):=rfl
def Kr(l:List AV):qp (.ow l) []=some l:=rfl
def Hw(l:List AV)(j:Nat)(n:Θ):qp (.ow l) (j::n)=(l[j]?).bind λa=>qp a n:=rfl
def KQ{l:List AV}{j:Nat}{n:Θ}{as:List AV}{a:AV}(h:l[j]?=some a):putAt (.ow l) (j::n) as = .ow (l.set j (putAt a n as)):=by
 show(match l[j]? with|some a=>_|none=>_)=_
 rw[h]
section
variable {K:Ζ}
def GJ(m:ME):MS:=λS=>(m S).map λx=>.nx x.2
def OT{te:TE}{m:ME}(h:SM K te m):SS K (Be te) (GJ m):=by
 intro H₀ l Hf S σ H z o R e D hd;obtain⟨x,n,e⟩:=oMq.mp e;cases e;exact h R (d:=x.1) (S':=x.2) n _ λs B Fs1 v t u E=>hd _ _ _ _ t u
def aco(i:Nat):MS:=λS=>(qM S i).map λl=>.nx (S.set i (some (.ow l.reverse)))
end
def Uw(S:AS)(m:ME):GJ m S=(m S).map λx=>.nx x.2:=rfl
section
variable {K:Ζ}
def rp.fd_inv{H:Hp}{ds:List (pI×D)}{v:V}(h:rp K H (.fd ds) v):∃p o kvs,v = .ref p/\H p=some (.frz o (.dK kvs))/\uF K H ds kvs:=by
 cases h with
 |fd h l e=>exact⟨_,_,_,rfl,h,l,e⟩
def Uu:D->Option (List (pI×D))
 | .fd kvs=>some kvs
 |_=>none
def UL{d:D}{kvs:List (pI×D)}(h:Uu d=some kvs):d = .fd kvs:=by
 cases d <;> first|(cases h;rfl)|cases h
def G3(a b:ME):ME:=λS=>(a S).bind λx=>(b x.2).bind λy=>(Uu x.1).bind λkvs=>(uG y.1).bind λkey=>(getD kvs key).map λd=>(d,y.2)
def RL{n tb:TE}{a b:ME}(ha:SR K n a)(hb:SR K tb b):SR K (Qg n tb) (G3 a b):=by
 intro H₀ l Hf S σ H Fs d S' R e Q q;obtain⟨x,u,e⟩:=oBq.mp e;obtain⟨y,z,e⟩:=oBq.mp e;obtain⟨B,E,e⟩:=oBq.mp e;obtain⟨key,G,e⟩:=oBq.mp e;obtain⟨d',I,e⟩:=oMq.mp e;cases e;refine ha R (d:=x.1) (S':=x.2) u _ λJ H1 Fs1 v1 L M s=>hb M (d:=y.1) (S':=y.2) z _ λO H2 Fs2 v2 t R2 P=>?_
 rw[UL E]at s;obtain⟨p,o,U,rfl,X,Y⟩:=(s.mono t.sh).fd_inv;have g:=BC (key:=key) Y;rw[I]at g;obtain⟨v,g1,g2⟩:=g;exact⟨p,v,rfl,by rw[vK G P,←g1];exact .inl ⟨U,key,.inr ⟨o,X⟩,rfl,rfl⟩,q _ _ _ _ (L.trans t) R2 g2⟩
def OP{u:Obj}{d:Addr}{kvs:List (pI×V)}{B:Nat}{tb:TS}{D:An}{σ:St}{H:Hp}(l:Nat->St->Hp->Prop)(G:l 0 σ H)(hl:∀i σ H,l i σ H->H d=some (.frz u (.dK kvs)))
  (hs:∀i p σ H,kvs[i]?=some p->l i σ H->tb { D with nx:=l (i+1),ct:=l (i+1),bk:=D.nx } (σ.set B (some (kV p.1))) H) (hd:∀σ H,l kvs.length σ H->D.nx σ H) :
  ∃W:Nat->Nat->St->Hp->Prop,(∃m,W 0 m σ H)/\∀i m σ H,W i m σ H ->
   ((Ze u d kvs).stop i H/\D.nx σ H)∨((Ze u d kvs).go i H/\∃N:St->Hp->Prop,(∀s n,N s n->∃E,E<m/\W (i+1) E s n)/\∀x n,(Ze u d kvs).yld i H x n->rE B x σ n λz I=>tb { D with nx:=N,ct:=N,bk:=D.nx } z I):=by
 refine⟨λi m σ H=>m=kvs.length-i/\i<=kvs.length/\l i σ H,⟨kvs.length,by simp,bx _,G⟩,?_⟩
 rintro i m σ H ⟨rfl,hi,p⟩;have q:=hl i σ H p
 by_cases t:i<kvs.length
 .refine .inr ⟨⟨q,kvs[i],by simp[t]⟩,l (i+1),λs n J=>⟨kvs.length-(i+1),by lia,rfl,t,J⟩,λv n y=>?_⟩
  obtain⟨rfl,x,L,rfl⟩:=y;exact hs i x σ n L p
 .have e:i=kvs.length:=by lia
  subst e;exact .inl ⟨⟨q,af _⟩,hd σ H p⟩
def LH(x i:Nat)(body:MS):MS:=λS=>(wO S i).bind λkvs=>vi (x≠i) (rF x body (kvs.map λp=>kD p.1) (S.set i (some (.sh (.fd kvs)))))
def U7{x i:Nat}{tb:TS}{body:MS}(hb:SS K tb body):SS K (Mu (VI (yS i)) (rE x) tb) (LH x i body):=by
 intro H₀ t Hf S σ H Fs o R e D h;obtain⟨z,e1,e⟩:=oBq.mp e;rcases pK e with⟨hne,e⟩|e
 .have M:=AK e1;obtain⟨p,s,s1,s2,h1,h2,h3,h4,h5⟩:=R.owd M;refine⟨_,s1,p,s,rfl,h1,λL=>?_⟩
  obtain⟨v,F,t1,t2,r,nd,oo,R1⟩:=R.move M;rw[s2]at t2;cases t2;have R2:=pZ.fix R1 (p:=p) (o:=.frz L (.dK s)) h5 h2 h4;have s3:pX Hf (qw Hf p (.frz L (.dK s))):=uD h2;have O:uF K (qw Hf p (.frz L (.dK s))) z s:=⟨h3.1,λi d v a b=>(h3.2 i d v a b).mono s3⟩
  have R3:pZ K H₀ t (qw Hf p (.frz L (.dK s))) (S.set i (some (.sh (.fd z)))) σ (qw H p (.frz L (.dK s))) (Fs.set i []):=
   R2.again (F:=[]) s1 (.sh (.fd pB O.1 O.2)) bw λq hq=>by cases hq
  have I:z.length=s.length:=by have:=congrArg bV h3.1;simpa using this
  refine OP (λn B H'=>∃u P E,pZ K H₀ t u P B H' E/\pX (qw Hf p (.frz L (.dK s))) u/\rF x body ((z.map λp=>kD p.1).drop n) P=some o) ⟨_,_,_,R3,.refl _,e⟩
   (λn B H' ⟨u,P,E,Q,J,_⟩=>Q.sub _ _ (J _ _ pB)) ?_ ?_
  .rintro n w B H' hw ⟨u,P,E,Q,J,U⟩;have hn:n<z.length:=by rw[I];exact(gSq.mp hw).1
   have hk:(z.map λp=>kD p.1)[n]?=some (kD w.1):=by
    have:=congrArg (λl=>l[n]?) h3.1
    simp only[gMq,hw,df]at this;rw[gMq];cases hd:z[n]? with
    |none=>rw[hd]at this;cases this
    |some dd=>
     rw[hd]at this;rw[df,show dd.1=w.1 from aO.inj this]
   have hlt:n<(z.map λp=>kD p.1).length:=by rw[lMq];exact hn
   rw[aC hlt,(gSq.mp hk).2]at U;obtain⟨o2,e3,e4⟩:=oBq.mp U;refine hb (Q.setD x (Va w.1)) e3 _ ?_;cases o2 with
   |nx S2=>exact λG X H2 Fs2 Y R4=>⟨G,S2,Fs2,R4,J.trans Y,e4⟩
   |ct S2=>exact λG X H2 Fs2 Y R4=>⟨G,S2,Fs2,R4,J.trans Y,e4⟩
   |bk S2=>cases e4;exact λG X H2 Fs2 Y R4=>h _ _ _ _ ((s3.trans J).trans Y) R4
   |rt a=>cases e4;exact h
  .rintro B H' ⟨u,P,E,Q,J,U⟩;rw[←I,show z.length=(z.map λp=>kD p.1).length from (lMq _).symm,du]at U
   cases U;exact h _ _ _ _ (s3.trans J) Q
 .cases e
end
def Ut(kvs:List (pI×D)):Uu (.fd kvs)=some kvs:=rfl
def SX(S:AS)(a b:ME):G3 a b S=(a S).bind λx=>(b x.2).bind λy=>(Uu x.1).bind λkvs=>(uG y.1).bind λkey=>(getD kvs key).map λd=>(d,y.2):=rfl
def Yk(S:AS)(x i:Nat)(body:MS):LH x i body S=(wO S i).bind λkvs=>vi (x≠i) (rF x body (kvs.map λp=>kD p.1) (S.set i (some (.sh (.fd kvs))))):=rfl
end Z
namespace Mr
open PySem L2
open PySem.Spec PyProof.Rows
section
variable {X:Cx}
def KW(ns:Ϝ):Prop:=(∀n∈ns,0<=n/\n<=1000000)/\ns.length<=1000000
theorem So:∀{ns:Ϝ}{k:Int},(∀n∈ns,0<=n/\n<=k)->0<=ns.sum/\ns.sum<=k*ns.length
 | [],k,_=>by simp
 |n::ns,k,h=>by
  have s:=h n (by simp)
  have t:=So (ns:=ns) (k:=k) λm l=>h m (mCo _ l)
  have e:k*((ns.length:Int)+1)=k*ns.length+k:=by rw[Int.mul_add,iP]
  rw[jD,lCq,show((ns.length+1:Nat):Int)=(ns.length:Int)+1 by lia,e]
  lia
def Nf(t:X.calm=true):uf X (.builtin "sum") (λxs H Q=>∃(a:Addr) (ns:Ϝ),xs=[.ref a]/\rJ X.K H a (ns.map V.int)/\KW ns/\Q (.int ns.sum) H):=by
 intro M s σ H xs O Q I r h;obtain⟨a,ns,rfl,x,⟨hb,P⟩,q⟩:=h;obtain⟨u,rfl,z⟩:=wG r;cases z;obtain⟨R,hl,hi,_⟩:=BD I x;obtain⟨xs,e⟩:=hi.allInts.items;have l:ns=xs.toList.map (·.1):=by
  rw[←hi.numsOf,←nums_intItems,←e]
 have n:xs.size=ns.length:=by rw[l,lMq,aq]
 rw[e]at hl;have B:∀j,0<=preSum (numAt xs) j/\preSum (numAt xs) j<=1000000*1000000:=λj=>by
  rw[preSum_eq,←l];have E:=So (ns:=ns.take j) (k:=1000000) λm G=>hb m (bP G)
  have S:(ns.take j).length<=ns.length:=by rw[lTq];lia
  refine⟨E.1,?_⟩;have:((ns.take j).length:Int)<=1000000:=by lia
  lia
 refine sum_intList (I.ok.hd t) hl (λj J=>⟨?_,?_⟩) λU Y L hk=>?_
 .rw[numAt_eq,←l];have:=hb _ (PySem.getD_mem (by rw[←n];exact J):ns.getD j 0∈ns)
  unfold InLong;lia
 .have:=B (j+1);unfold InLong;lia
 .refine⟨.int _,H,I.kept hk,⟨L,rfl⟩,?_⟩;rw[preSum_eq,←l,n,aE];exact q
end
end Mr
namespace Z
open PySem L2 Mr Xe
def T4(f:D->D->Option D)(m b:ME):ME:=λS=>(m S).bind λx=>(b x.2).bind λy=>(f x.1 y.1).bind λd=>if d.scal then some (d,y.2)else none
def acF(i:Nat)(g:Int->Int->Int)(b:ME):MS:=λS=>(oI i S).bind λx=>(intOf x.1).bind λa=>(b x.2).bind λy=>(intOf y.1).map λc=>.nx (y.2.set i (i3 (g a c)))
def KO(i:Nat)(n:MP)(s:ME):MS:=λS=>(n S).bind λx=>(qM x.2 i).bind λl=>(qp (.ow l) x.1).bind λas=>(s (x.2.set i none)).bind λy=>vi (y.2[i]?=some none/\as.length<qF) (some (.nx (y.2.set i (some (putAt (.ow l) x.1 (as++[.sh y.1]))))))
def ab8(g:MF)(f:MFx)(a:MA):MX:=λS=>(a S).bind λx=>(f (x.1.map oP)).bind (aaE λr=>(g [oP r]).map λz=>.ok (.rt z))
def Ui:List D->Option D
 | [.list ds]=>(qJ ds).bind λns=>vi (KW ns) (some (.int ns.sum))
 |_=>none
section
variable {K:Ζ}
def Y9{r:R2}{f:D->D->Option D}{n tb:TE}{m b:ME}(hr:CY K r f)(ha:SM K n m)(hb:SR K tb b):SM K (Tz r n tb) (T4 f m b):=by
 intro H₀ l Hf S σ H P d U R e Q q;obtain⟨x,u,e⟩:=oBq.mp e;obtain⟨y,B,e⟩:=oBq.mp e;obtain⟨z,E,e⟩:=oBq.mp e;split at e
 .rename_i hs;cases e;refine ha R (d:=x.1) (S':=x.2) u _ λG X Fs1 Y I s J=>hb s (d:=y.1) (S':=y.2) B _ λL H2 Fs2 v2 t R2 M=>?_
  exact hr ((J.mono s.sub).mono t.sh) M E λv O=>q _ _ _ v (I.trans t.sf) R2 (O.scal hs)
 .cases e
def Rr{i:Nat}{L te:TE}{M:MP}{O:ME}(Y:SPh K i L M)(hk:SM K te O):SS K (Be (SB K "list" zM L (tL te xE))) (KO i M O):=by
 intro H₀ B Hf S σ H Fs o R e D h;obtain⟨x,e1,e⟩:=oBq.mp e;obtain⟨l,e2,e⟩:=oBq.mp e;obtain⟨as,E,e⟩:=oBq.mp e;obtain⟨y,e4,e⟩:=oBq.mp e;rcases pK e with⟨⟨hn,hl⟩,e⟩|e
 .cases e;refine Y R (path:=x.1) (S':=x.2) e1 _ λHf1 H1 Fs1 v w t1 t z n=>?_
  have s:=qh e2;obtain⟨p,vs,rfl,h1,h2⟩:=Bx t s z E n;obtain⟨v',F,P,Q,r,nd,oo,_⟩:=t.move s;rw[z]at P;cases P;refine⟨.inl ⟨rfl,vs,rJ.of h1⟩,hk (t.frame Q) (d:=y.1) (S':=y.2) e4 _ λHf2 H2 Fs2 u U R2 r2=>?_⟩
  obtain⟨k1,k2,R3⟩:=t.unframe Q r nd (λq G=>(oo q G).1) R2 hn z U
  have I:i<y.2.length:=(gSq.mp hn).1;have e5:(y.2.set i (some (.ow l)))[i]?=some (some (.ow l)):=aN I;obtain⟨J,g1,g2,g3⟩:=R3.grow e5 z E (n.kept r E k1);obtain⟨Fs',X⟩:=g3 [.sh y.1] [u] [[]] (pR.nil.snoc (.sh r2)) (by simp) (λq G=>by simp at G)
  rw[gT]at X;exact⟨p,J,u,rfl,rfl,g1,by rw[uq,←g2];exact hl,h _ _ _ _ (t1.sf.trans U) X⟩
 .cases e
def XG:Oy K (λxs H Q=>∃(a:Addr) (ns:Ϝ),xs=[.ref a]/\rJ K H a (ns.map V.int)/\KW ns/\Q (.int ns.sum) H) Ui:=by
 intro x H Q z d r e q;unfold Ui at e;split at e
 .obtain⟨v,B,rfl,l,s⟩:=r.cons_inv;rw[s.nil_inv];obtain⟨ns,t,e⟩:=oBq.mp e;rcases pK e with⟨hs,e⟩|e
  .cases e;rw[uN t]at l;obtain⟨p,E,rfl,n,u⟩:=l.list_inv;rw[rn u]at n;exact⟨p,ns,rfl,rJ.of n,hs,q _ .int⟩
  .cases e
 .cases e
end
def Z9(S:AS)(f:D->D->Option D)(m b:ME):T4 f m b S=(m S).bind λx=>(b x.2).bind λy=>(f x.1 y.1).bind λd=>if d.scal then some (d,y.2)else none:=rfl
def TU(S:AS)(i:Nat)(n:MP)(s:ME):KO i n s S=(n S).bind λx=>(qM x.2 i).bind λl=>(qp (.ow l) x.1).bind λas=>(s (x.2.set i none)).bind λy=>vi (y.2[i]?=some none/\as.length<qF) (some (.nx (y.2.set i (some (putAt (.ow l) x.1 (as++[.sh y.1])))))):=rfl
end Z
local macro_rules | `(tactic| simp_arith $c:optConfig [$ls,*]$[$l:location]?) => `(tactic| simp $c:optConfig only [Z.vU,Z.Zo,Z.Zj,Z.aaf,Z.ZR,Z.ZV,Z.aal,Z.Zg,Z.aa0,Z.aaC,Z.ZL,Z.rC_,Z.abh,Z.abp,Z.ZX,Z.W6,Z.aaB,Z.WY,Z.abD,Z.ZH,Z.abd,Z.TN,Z.aay,Z.Wz,Z.WA,Z.UO,Z.ZU,Z.Zr,Z.ZS,Z.Wf,Z.XM,Z.NC,Z.abF,Z.abu,Z.abx,Z.Xc,Z.XX,Z.XI,Z.UQ,Z.OH,Z.Rc,Z.VM,Z.Vx,Z.XN,Z.Z1,Z.abJ,Z.Y2,Z.Zc,Z.YJ,Z.Iu,Z.NK,Z.Y5,Z.Sh,Z.Yz,Z.Wv,Z.Y3,Z.Ua,Z.Xi,Z.Yt,Z.X3,Z.Zz,Z.abi,Z.Nw,Z.KI,Z.O0,Z.N4,Z.V7,Z.Tv,Z.Uj,Z.UW,Z.Py,Z.abj,Z.ZE,Z.Xa,Z.YD,Z.abz,Z.X7,Z.Rv,Z.ZW,Z.Uk,Z.X5,Z.Q5,Z.Zh,Z.Qj,Z.Te,Z.O8,Z.RN,Z.Uq,Z.RK,Z.Ug,Z.RP,Z.UR,Z.Tt,Z.Sy,Z.Wh,Z.Ye,Z.p57,Z.p59,Z.p60,Z.Dl,Z.GP,Z.UK,Z.Vd,Z.UG,Z.GF,Z.TZ,Z.T9,Z.UB,Z.MV,Z.Qi,Z.PP,Z.RB,Z.Gg,Z.PU,Z.TY,Z.UD,Z.QK,Z.Ur,Z.Qm,Z.N9,Z.pW,Z.qX,Z.zK,Z.aag,Z.rB,Z.EC,Z.M3,fi,Z.gt1,Z.gt2,Z.gt3,Z.gt4,cJ,Z.st1,Z.CZ,Z.st3,Z.st4,Option.join_some,df,bN,lCq,eJ,au,fU,cX,dW,lMq,Bool.not_true,Bool.not_false,cK,decide_true,decide_false,bK,List.replicate_zero,aNq,Z.XE,Z.YE,Z.Pl,Z.X1,Z.Wt,Z.WJ,Z.PY,Z.WL,Z.XF,Z.Wx,Z.V6,Z.Wg,Z.Ta,Z.SY,Z.X9,Z.ZN,Z.aa8,Z.Zu,Z.Zi,Z.WE,Z.Th,Z.aac,Z.U2,Z.Kr,Z.Uw,Z.Ut,Z.SX,Z.Yk,Z.Z9,Z.TU,Nat.reduceAdd,Nat.reduceSub,Nat.reduceEqDiff,Nat.reduceLeDiff,List.reduceReplicate,↓reduceIte,reduceCtorEq,$ls,*]$[$l:location]?)
namespace Mo
open PySem PyProof.Rows Mr
section
variable {K:Type}[DecidableEq K]
def fz(ks:List K)(ws:Ξ)(j:Nat):List (K×Value):=((ks.zip ws).take j).foldl (λm p=>stored m p.1 p.2) []
end
end Mo
namespace Z
open PySem L2 Mr Xe
def SW(K:Ζ)(te:TE)(m:MK):Prop:=∀{H₀ l Hf:Hp}{S:AS}{σ:St}{H:Hp}{u:List Δ}{a:AV}{S':AS},pZ K H₀ l Hf S σ H u->m S=some (a,S')->∀Q:VK,
 (∀n t s v F,pX Hf n->pZ K H₀ l n S' σ t s->pV K n t a v F->F.Nodup->(∀q∈F,H₀ q=none/\q∉s.flatten)->Q v t)->te σ H Q
end Z
namespace Ms
open PySem
def Up(xs:Array Nat):Prop:=∀a b u v:Nat,xs[a]?=some u->xs[b]?=some v->a<b->u<v
def Up.list{xs:Array Nat}(h:xs.toList.Pairwise (· < ·)):Up xs:=λa b u v ha hb hl=>by
 rw[←aw]at ha hb;obtain⟨la,l⟩:=gSq.mp ha;obtain⟨lb,n⟩:=gSq.mp hb;have:=bI.mp h a b la lb hl;rw[l,n]at this;exact this
def Up.pw{xs:Array Nat}(h:Up xs):xs.toList.Pairwise (· < ·):=bI.mpr λa b la lb hl=>h a b _ _ (by rw[←aw];exact gEg la) (by rw[←aw];exact gEg lb) hl
theorem DW{xs:Array Nat}{j:Nat}(hs:Up xs):∀(fuel lo hi:Nat),hi-lo<=fuel->lo<=hi->hi<=xs.size->(∀k v,xs[k]?=some v->k<lo->v<j)->(∀k v,xs[k]?=some v->hi<=k->j<=v) ->
  ∃i,SetTable.below.go xs j fuel lo hi=i/\i<=xs.size/\(∀k v,xs[k]?=some v->k<i->v<j)/\∀k v,xs[k]?=some v->i<=k->j<=v
 |0,lo,hi,u,hl,hh,n,s=>⟨lo,by rw[SetTable.below.go],by lia,n,λk v e hk=>s k v e (by lia)⟩
 |fuel+1,lo,hi,u,hl,hh,n,s=>by
  rw[SetTable.below.go]
  by_cases c:lo<hi
  .rw[pH c];have l:(lo+hi) / 2<xs.size:=by lia
   have t:xs[(lo+hi) / 2]?=some (xs[(lo+hi) / 2]'l):=ag l;have x:xs.getD ((lo+hi) / 2) j=xs[(lo+hi) / 2]'l:=by simp[gj,l]
   show ∃i,(if xs.getD ((lo+hi) / 2) j<j then SetTable.below.go xs j fuel ((lo+hi) / 2+1) hi else SetTable.below.go xs j fuel lo ((lo+hi) / 2))=i/\_
   rw[x]
   by_cases d:xs[(lo+hi) / 2]'l<j
   .rw[pH d];refine DW hs fuel _ _ (by lia) (by lia) hh (λk v e hk=>?_) s
    by_cases q:k=(lo+hi) / 2
    .subst q;rw[t]at e;cases e;exact d
    .exact jg (hs _ _ _ _ e t (by lia)) d
   .rw[pE d];refine DW hs fuel _ _ (by lia) (by lia) (by lia) n λk v e hk=>?_
    by_cases q:k=(lo+hi) / 2
    .subst q;rw[t]at e;cases e;lia
    .have:=hs _ _ _ _ t e (by lia)
     lia
  .rw[pE c];exact⟨lo,rfl,by lia,n,λk v e hk=>s k v e (by lia)⟩
def Bf{xs:Array Nat}(hs:Up xs)(j:Nat):SetTable.below xs j<=xs.size/\(∀k v,xs[k]?=some v->k<SetTable.below xs j->v<j)/\∀k v,xs[k]?=some v->SetTable.below xs j<=k->j<=v:=by
 obtain⟨i,e,l,n,s⟩:=DW (j:=j) hs xs.size 0 xs.size (by lia) (bx _) (af _) (λk v _ hk=>absurd hk (cW _)) (λk v e hk=>by
  have:=(bj.mp e).1;lia)
 have:SetTable.below xs j=i:=e;rw[this];exact⟨l,n,s⟩
def Jz{xs:Array Nat}(hs:Up xs){i v:Nat}(h:xs[i]?=some v):SetTable.below xs (v+1)=i+1:=by
 obtain⟨s,l,n⟩:=Bf hs (v+1);generalize SetTable.below xs (v+1)=b at s l n;have hi:=(bj.mp h).1
 by_cases c:b<=i
 .have:=n i v h c;lia
 .by_cases d:i+1<b
  .have hb:i+1<xs.size:=by lia
   have e:=ag hb;have a:=l _ _ e d;have:=hs _ _ _ _ h e (dS i);lia
  .lia
def Jw{xs:Array Nat}(hs:Up xs):SetTable.below xs 0=0:=by
 obtain⟨n,l,s⟩:=Bf hs 0;generalize SetTable.below xs 0=b at n l s
 by_cases c:b=0
 .exact c
 .have hb:0<xs.size:=by lia
  have:=l 0 _ (ag hb) (by lia)
  lia
def MD{xs:Array Nat}(hs:Up xs){j:Nat}(hn:∀k:Nat,xs[k]? ≠ some j):Up (SetTable.insertAt xs (SetTable.below xs j) j):=by
 refine Up.list ?_;rw[SetTable.toList_insertAt];obtain⟨B,s,t⟩:=Bf hs j;generalize SetTable.below xs j=b at B s t;have x:=hs.pw;rw[aR];refine⟨x.sublist (bE _ _),fQ.mpr ⟨λv n=>?_,x.sublist (bW _ _)⟩,λu E v n=>?_⟩
 .obtain⟨k,hk⟩:=ay.mp n;rw[cf,aw]at hk;have a:=t _ v hk (by lia)
  have:v≠j:=λz=>hn _ (z ▸ hk)
  lia
 .obtain⟨k,hk⟩:=ay.mp E;rw[hV]at hk;split at hk
  .rename_i q;rw[aw]at hk;have a:=s k u hk q;rcases ae.mp n with z|z
   .rw[z];exact a
   .obtain⟨G,l⟩:=ay.mp z;rw[cf,aw]at l;exact hs _ _ _ _ hk l (by lia)
  .cases hk
def Xg:Up #[]:=λa b u v h=>by simp at h
def Qq(n:Nat):Up (Array.range n):=λa b u v ha hb hl=>by
 rw[Array.getElem?_range]at ha hb;split at ha <;> split at hb
 .cases ha;cases hb;exact hl
 .cases hb
 .cases ha
 .cases ha
structure Tb (led:Bool)(t:SetTable):Prop where
 up:Up t.place
 dm:t.dummies=#[]
 led:t.led=led
theorem Tb.fresh(led:Bool):Tb led (.fresh 0 0 led):=⟨Xg,rfl,rfl⟩
theorem Tb.standIn{led:Bool}{t:SetTable}(h:Tb led t)(n:Nat):Tb led (t.standIn n):=⟨Qq n,rfl,h.led⟩
theorem Tb.orStandIn{led:Bool}{t:SetTable}(h:Tb led t)(n:Nat):Tb led (t.orStandIn n):=by
 unfold SetTable.orStandIn;split
 .exact h
 .exact h.standIn n
theorem Tb.plain{led:Bool}{t:SetTable}(h:Tb led t)(b:Bool):Tb led { t with plain:=b }:=⟨h.up,h.dm,h.led⟩
theorem En{t:SetTable}(hd:t.dummies=#[]){h:Int}:∀(fuel:Nat) (p:SetTable.Probe) (m:SetTable.Met),p.dummy=none->SetTable.probe.go t (λ_=>h+1) h fuel p=some m->∃j,m = .empty j none/\t.slot j = .empty
 |0,p,m,_,e=>by rw[SetTable.probe.go]at e;cases e
 |fuel+1,p,m,n,e=>by
  rw[SetTable.probe.go]at e;have l:(t.advance p).dummy=none:=by
   unfold SetTable.advance;split <;> exact n
  cases hs:t.slot p.j with
  |empty=>
   rw[hs]at e;cases e;exact⟨p.j,by rw[n],hs⟩
  |dummy=>
   exfalso;unfold SetTable.slot at hs;simp only at hs;split at hs
   .cases hs
   .split at hs
    .rename_i q;unfold SetTable.has at q;rw[hd]at q;simp at q
    .cases hs
  |live i=>
   rw[hs]at e;have:((h+1:Int) == h)=false:=by
    rw[beq_eq_false_iff_ne];lia
   simp only[this,cK,if_false]at e;exact En hd fuel _ m l e
def N5{t:SetTable}(hs:Up t.place){j:Nat}(h:t.slot j = .empty):∀k:Nat,t.place[k]? ≠ some j:=by
 intro k hk;obtain⟨s,l,n⟩:=Bf hs j;unfold SetTable.slot at h;simp only at h;have hi:=(bj.mp hk).1;have e:k=SetTable.below t.place j:=by
  rcases fu k (SetTable.below t.place j)with c|c|c
  .have:=l k j hk c;lia
  .exact c
  .have hb:=ag (jg c hi);have a:=n _ _ hb (af _);have:=hs _ _ _ _ hb hk c;lia
 rw[←e,hk]at h;simp at h
def YM{led:Bool}{t:SetTable}(h:Tb led t)(es:Array (Int×Value))(hh:Int)(x:Value):Tb led (layNew t es hh x).2.1:=by
 unfold layNew;split
 .rename_i slot wd e;refine Tb.orStandIn ?_ _;unfold SetTable.freeSlot at e;split at e
  .rename_i j d l;obtain⟨z,n,s⟩:=En h.dm _ _ _ rfl l;cases n;cases e;have u:=N5 h.up s;refine⟨MD h.up u,?_,h.led⟩;show(if SetTable.has t.dummies j then SetTable.eraseAt t.dummies (SetTable.below t.dummies j)else t.dummies)=#[]
   rw[h.dm];have:SetTable.has #[] j=false:=by simp[SetTable.has]
   rw[this];rfl
  .cases e
 .exact h.standIn _
def QG{led:Bool}{t:SetTable}(h:Tb led t)(es:Array (Int×Value))(n:Nat):Tb led (nv t es n).2.1:=by
 unfold nv;split
 .rename_i E l e;dsimp only;split
  .unfold SetTable.relaid SetTable.laid at e;obtain⟨ow,G,u⟩:=oBq.mp e;cases u;refine⟨Up.list ?_,rfl,h.led⟩;show(((az _).filterMap λj=>(ow.getD j none).map λx=>(j,x)).map (·.1)).Pairwise (· < ·)
   rw[aV,List.pairwise_filterMap];refine bq.imp ?_ gu;intro a b s x z y B;obtain⟨_,_,rfl⟩:=oMq.mp z;obtain⟨_,_,rfl⟩:=oMq.mp B;exact s
  .exact h.standIn _
 .exact h.standIn _
end Ms
namespace Ms
open PySem PyProof.Rows Mr
def SI(prog:ku)(w:ky)(h:Heap)(a:Addr)(F:Ϝ):Prop:=
 ∃o es ep t,h.get? a=some o/\o.ExactSet/\o.data = .set es ep t/\ElemsOf (lU prog w) es.toList/\(∀e∈es.toList,∃k u,e.2 = .int k u)/\(es.toList.map λe=>Mr.intOf e.2).Perm F/\es.size<lF/\t.fits es.size=true/\Tb (!w.params.followText "set-order") t
noncomputable def zH(F:Ϝ)(k:Int):Ϝ:=if k∈F then F else F++[k]
section
variable {prog:ku}{w:ky}{A:Around}{E:Ψ}{s:Shared}
def SI.keep{h h':Heap}{a:Addr}{F:Ϝ}(x:SI prog w h a F)(k:∀o,h.get? a=some o->h'.get? a=some o):SI prog w h' a F:=by
 obtain⟨o,l,n,t,u,r⟩:=x;exact⟨o,l,n,t,k o u,r⟩
def Jj{h:Heap}{a:Addr}{o:Obj}{es:Array (Int×Value)}{ep:Nat}{t:SetTable}(n:h.get? a=some o)(hd:o.data = .set es ep t)(l:Array (Int×Value))(t':SetTable) :
  (h.update a (Obj.putSet l t')).get? a=some { o with data:=.set l (ep+1) t' }:=by
 have:=gF (Obj.putSet l t') n (by rw[putSet_of l t' hd];rfl)
 rw[putSet_of l t' hd]at this;exact this
def Xf{a:Addr}{F:Ϝ}{k:Int}{u:Tok}{Q:Bool->Shared->Prop}(hS:SI prog w s.heap a F)(hroom:F.length+1<lF)
  (h:∀b h',bZ a s.heap h'->SI prog w h' a (zH F k)->Q b { s with heap:=h' }) :
  ki (kj prog w) A (setAddHashed a (.int k u) ((lU prog w).hash k)) Q E s:=by
 obtain⟨o,J,ep,t,ho,hex,hd,M,O,hp,hb,hf,hT⟩:=hS;have S:=oe prog w k u;have hsz:J.size=F.length:=by
  have:=hp.length_eq
  rwa [lMq,aq]at this
 have his:∀e∈J.toList,(lU prog w).is k e.2=true->Mr.intOf e.2=k:=λe U hk=>by
  obtain⟨m,v,ev⟩:=O e U;rw[ev]at hk ⊢;exact(lU prog w).inj _ _ _ (oe prog w m v) hk
 unfold setAddHashed setAddHashedIn;refine lu (jZ (kO ho hd hf ?_));dsimp only;rw[byScan_of (knd:=lU prog w) rfl hb M];simp only[↓reduceIte];unfold setAddByScan;refine jZ ?_;refine jZ (oa ?_);refine jZ (wpAny_setScan_of S ho hd hf M ?_);cases hr:List.findIdx? (λe=>(lU prog w).is k e.2) J.toList with
 |some j=>
  dsimp only;obtain⟨hj,hpj,_⟩:=List.findIdx?_eq_some_iff_getElem.mp hr;have hm:k∈F:=hp.mem_iff.mp (mMq.mpr ⟨_,gRq hj,his _ (gRq hj) hpj⟩);refine kf (kf ?_);have e:s={ s with heap:=s.heap }:=by cases s;rfl
  rw[e];refine h _ s.heap (bZ.refl a s.heap) ?_;unfold zH;rw[pH hm];exact⟨o,J,ep,t,ho,hex,hd,M,O,hp,hb,hf,hT⟩
 |none=>
  dsimp only;have hm:k∉F:=λz=>by
   obtain⟨e,U,ek⟩:=mMq.mp (hp.mem_iff.mpr z);have:=List.findIdx?_eq_none_iff.mp hr e U;obtain⟨m,v,ev⟩:=O e U;rw[ev]at ek this;have ek':m=k:=ek;rw[ek',oe]at this;cases this
  have hgw:∀(b:Bool) {z:Shared}{Q':Unit->Shared->Prop},Q' () z->ki (kj prog w) A (match b with|true=>rule "set.scan.the-table-gave-way" |false=>pure ()) Q' E z:=λb z Q' hq=>by cases b <;> first|exact kf hq|exact oa hq
  have n:=layNew_perm t J ((lU prog w).hash k) (.int k u);have B:=layNew_fits t J ((lU prog w).hash k) (.int k u);have I:=YM hT J ((lU prog w).hash k) (.int k u);generalize hL:layNew t J ((lU prog w).hash k) (.int k u)=L at n B I ⊢;obtain⟨l,t1,H,gave⟩:=L;dsimp only at n B I ⊢;rw[dJ]at n;have X:ElemsOf (lU prog w) l.toList:=(M.push S rfl).perm n;have Y:∀e∈l.toList,∃k u,e.2 = .int k u:=λe U=>by
   rcases mAq.mp (n.mem_iff.mp U)with z|z
   .exact O e z
   .rw[mSq.mp z];exact⟨k,u,rfl⟩
  have hp1:(l.toList.map λe=>Mr.intOf e.2).Perm (zH F k):=by
   unfold zH;rw[pE hm];refine(n.map _).trans ?_;rw[mBq];exact hp.append_right _
  have hz1:l.size=J.size+1:=by
   have:=n.length_eq
   rwa [lAq,aq,aq]at this
  have P:l.size<lF:=by rw[hz1,hsz];exact hroom
  refine jZ (hgw _ ?_);have fin:∀{G:SetTable},G.fits l.size=true->Tb (!w.params.followText "set-order") G->∀{R:Option Bool->Shared->Prop},(∀h',bZ a s.heap h'->SI prog w h' a (zH F k)->R (some true) { s with heap:=h' }) ->
    ki (kj prog w) A (do
     storeSet a l G
     if (!H && G.tooFull)=true then do
       (match (nv G l (SetTable.grown l.size)).2.2 with|true=>rule "set.scan.the-table-gave-way" |false=>pure ())
       storeSet a (nv G l (SetTable.grown l.size)).1 (nv G l (SetTable.grown l.size)).2.1
       pure (some true)
      else pure (some true)) R E s:=by
   intro G hf2 hT2 R hR;refine jZ (wpAny_storeSet_of ho hd ?_ (nh P));have g1:=Jj ho hd l G;have sb1:=bZ.update s.heap a (Obj.putSet l G);split
   .have q1:=relayAll_perm G l (SetTable.grown l.size);have q2:=relayAll_fits G l (SetTable.grown l.size);have q3:=QG hT2 l (SetTable.grown l.size);generalize nv G l (SetTable.grown l.size)=V at q1 q2 q3 ⊢;obtain⟨es2,t3,gv⟩:=V;dsimp only at q1 q2 q3 ⊢;have hz2:es2.size=l.size:=by
     have:=q1.length_eq
     rwa [aq,aq]at this
    refine jZ (hgw _ ?_);refine jZ (wpAny_storeSet_of g1 rfl ?_ (nh (by rw[hz2];exact P)))
    have g2:=Jj g1 rfl es2 t3;exact kf (hR _ (sb1.trans (bZ.update _ a _)) ⟨_,es2,_,t3,g2,hex,rfl,X.perm q1,λe U=>Y e (q1.mem_iff.mp U),(q1.map _).trans hp1,by rw[hz2];exact P,q2,q3⟩)
   .exact kf (hR _ sb1 ⟨_,l,_,G,g1,hex,rfl,X,Y,hp1,P,hf2,hT2⟩)
  split
  .refine jZ ?_;rw[hashByValue_scannable 8 (x:=.int k u) rfl];refine kf ?_;refine fin ?_ ?_ λh' sb hS'=>?_
   .split
    .exact B
    .exact SetTable.fits_plain_off B
   .split
    .exact I
    .exact I.plain false
   .dsimp only;exact kf (h _ h' sb hS')
  .refine jZ (kf ?_);simp only[↓reduceIte];refine fin B I λh' sb hS'=>?_
   dsimp only;exact kf (h _ h' sb hS')
end
def dd(ns:Ϝ):Ϝ:=ns.foldl zH []
def Uh(ns:Ϝ)(k:Int):dd (ns++[k])=zH (dd ns) k:=by
 unfold dd;rw[iu];rfl
def Qu(F:Ϝ)(k:Int):(zH F k).length<=F.length+1:=by
 unfold zH;split
 .lia
 .simp
def RV{F:Ϝ}{k x:Int}:x∈zH F k↔x∈F∨x=k:=by
 unfold zH;split
 .rename_i h;exact⟨.inl,λq=>q.elim id λq=>q ▸ h⟩
 .simp
def U9{F:Ϝ}{k:Int}(h:F.Nodup):(zH F k).Nodup:=by
 unfold zH;split
 .exact h
 .rename_i q;rw[nAq];exact⟨h,by simp,λx l y n z=>q (by rw[mSq.mp n]at z;rw[←z];exact l)⟩
theorem BN:∀(ns F:Ϝ),(ns.foldl zH F).length<=F.length+ns.length/\(∀x,x∈ns.foldl zH F↔x∈F∨x∈ns)/\(F.Nodup->(ns.foldl zH F).Nodup)
 | [],F=>⟨by simp,by simp,λh=>h⟩
 |n::ns,F=>by
  obtain⟨t,l,s⟩:=BN ns (zH F n);have:=Qu F n;rw[cZ,lCq];refine⟨by lia,λx=>?_,λh=>s (U9 h)⟩
  rw[l x,RV,ae,or_assoc]
def KM(ns:Ϝ):(dd ns).length<=ns.length:=by
 have:=(BN ns []).1;simpa[dd]using this
def QA{ns:Ϝ}{x:Int}:x∈dd ns↔x∈ns:=by
 have:=(BN ns []).2.1 x;simpa[dd]using this
def Y4(ns:Ϝ):(dd ns).Nodup:=(BN ns []).2.2 bw
section
variable {prog:ku}{w:ky}{A:Around}{E:Ψ}{s:Shared}{R:nX->Shared->Prop}{l I S:Addr}{vs:Ξ}{ns:Ϝ}
def R6(hh:A.handled=none)(hi:kK vs ns)(L:l≠I)(t:S≠I)(M:S≠l)(hb:ns.length+1<lF):∀(k j:Nat) (z:Shared),vs.length-j=k->j<=vs.length->z.heap.IsListIter I l j->z.heap.IsList l vs.toArray->SI prog w z.heap S (dd (ns.take j)) ->
  (∀h' G,SI prog w h' S (dd ns)->(∀b o,b≠I->b≠S->z.heap.get? b=some o->h'.get? b=some o)->R (.ok (.ret .none)) { z with heap:=h',toks:=G }) ->
  lV (kj prog w) A (.builtin "set.update.loop" ⟨[.ref S,.ref I],[]⟩) R z:=by
 have W:=Walks.list (prog:=prog) (w:=w) (A:=A.in1) hh I l L vs.toArray;have vl:vs.toArray.size=vs.length:=aF ..;have hln:=hi.length;intro k
 induction k with
 |zero=>
  intro j z hk hj x O H P;have Q:j=vs.toArray.size:=by rw[vl];lia
  refine kL PyProof.Rows.F.entry_set_update_loop ?_;rw[Around.under_plainId PyProof.Rows.F.plain_set_update_loop _];show ki _ A.in1 (mD (.ref I) >>= _) _ _ z;refine jZ (W.done z _ _ ⟨Q ▸ x,O⟩ λh' G kp=>?_)
  show ki _ A.in1 (ret gh) _ _ _;refine kf (P h' G ?_ λb o J _ e=>kp b o (by simpa using J) e)
  rw[cw (by lia)]at H
  exact H.keep λo e=>kp S o (by simpa using t) e
 |succ k ih=>
  intro j z hk hj x O H P;have U:j<vs.toArray.size:=by rw[vl];lia
  refine kL PyProof.Rows.F.entry_set_update_loop ?_;rw[Around.under_plainId PyProof.Rows.F.plain_set_update_loop _];show ki _ A.in1 (mD (.ref I) >>= _) _ _ z;refine jZ (W.item j z _ _ U ⟨x,O⟩ λv h' G hP CZ kp=>?_)
  obtain⟨n,hn⟩:∃n,ns[j]?=some n:=⟨_,gEg (by lia)⟩
  obtain⟨u,hu⟩:=hi.get j n hn;have hv:vs[j]?=some v:=by simpa using hP
  rw[hu]at hv;cases hv;have X:SI prog w h' S (dd (ns.take j)):=H.keep λo e=>kp S o (by simpa using t) e
  show ki _ A.in1 (holding [fY n u] (setAdd S (.int n u)) >>= _) _ _ _;refine jZ (lu ?_);unfold setAdd;refine lu ?_;refine jZ ((lU prog w).pyHash (k:=n) (oe _ _ _ _) ?_);have Y:(dd (ns.take j)).length+1<lF:=by
   have a:=KM (ns.take j);rw[lTq]at a;lia
  refine Xf X Y λb h2 sb B=>?_
  have ht:ns.take (j+1)=ns.take j++[n]:=by rw[bF,hn];rfl
  rw[←Uh,←ht]at B;refine kf ⟨mB PyProof.Rows.F.plain_set_update_loop _,ih (j+1) _ (by lia) (by lia) (CZ.1.extBut sb.extBut (Ne.symm t)) (CZ.2.extBut sb.extBut (Ne.symm M)) B λh3 tk3 hS3 kp3=>?_⟩
  exact P h3 tk3 hS3 λb o J nS e=>kp3 b o J nS (sb.extBut b o nS (kp b o (by simpa using J) e))
def Q8(a:Value){Q1:Ψ}
  (h:Q1 (.ref s.heap.objs.size) { s with heap:=s.heap.push { cls:=.type "set", dict:=none,data:=.set #[] 0 (.fresh 0 0 (!w.params.followText "set-order")) } }) :
  lV (kj prog w) A (.call (.builtin "set.__new__") ⟨[.type "set", a],[]⟩) (wants Q1 E) s:=by
 refine codeAny_of_tree ?_;show ki _ A.in1 (do checkBuiltinCall "set.__new__" ⟨[.type "set", a],[]⟩;again (.builtin "set.__new__" ⟨[.type "set", a],[]⟩)) _ _ s
 refine jZ (oA (PySem.F.newCall_set_1 a) (kf ⟨mB iR _,kL PySem.F.entry_set_new ?_⟩));rw[Around.under_plainId iR _];unfold Builtin.«set.__new__» Builtin.Frozenset.newClass;have n:=sub_set_self;obtain⟨t,g,d,u,os⟩:=s;dsimp only
 wp_walk
 refine nu (kf ?_);dsimp only;simp only[newObj];refine jZ (wpAny_alloc (kf ?_));exact kf h
theorem SI.fresh{h:Heap}{a:Addr}(t:h.get? a=some { cls:=.type "set", dict:=none,data:=.set #[] 0 (.fresh 0 0 (!w.params.followText "set-order")) }):SI prog w h a []:=
 ⟨_,#[],0,_,t,⟨rfl,rfl,rfl⟩,rfl,λe n=>by simp at n,λe n=>by simp at n,.refl _,by unfold lF;decide,rfl,Tb.fresh _⟩
def PH{Q:Ψ}(hh:A.handled=none)(hl:s.heap.IsList l vs.toArray)(hi:kK vs ns)(hb:ns.length+1<lF)
  (h:∀(h':Heap) (x:Nat),SI prog w h' s.heap.objs.size (dd ns)->(∀b o,s.heap.get? b=some o->h'.get? b=some o)->Q (.ref s.heap.objs.size) { s with heap:=h',toks:=x }) :
  ki (kj prog w) A (call (.type "set") [.ref l]) Q E s:=by
 obtain⟨c,tl,hmro⟩:=cL.mro;have O:=cL.made;have hsub:=cL.sub;refine wpAny_call (codeAny_of_tree ?_);show ki _ _ (callAny (.type "set") _) _ _ _;refine kf ⟨Code.quiet_builtin _ (by trivial),kL PySem.F.entry_type_call ?_⟩
 rw[Around.under_plain (weight_type_call_type "set" [.ref l] []) rfl];have h1:=cL.notType;have h2:=cL.canCreate;have hct:=PySem.F.typeCall_set_1 (.ref l)
 repeat (any_goals (first|assumption|wp_step))
 generalize n:s.heap.push { cls:=.type "set", dict:=none,data:=.set #[] 0 (.fresh 0 0 (!w.params.followText "set-order")) }=t;have P:t.objs.size=s.heap.objs.size+1:=by rw[←n];exact iX ..
 have k1:∀b o,s.heap.get? b=some o->t.get? b=some o:=λb o e=>by rw[←n];exact ah _ e
 have o1:t.get? s.heap.objs.size=some { cls:=.type "set", dict:=none,data:=.set #[] 0 (.fresh 0 0 (!w.params.followText "set-order")) }:=by rw[←n];exact aH _ rfl
 refine mU (Q8 (.ref l) (E:=E) (Q1:=λobj z=>obj = .ref s.heap.objs.size/\z={ s with heap:=t }) ⟨rfl,by rw[n]⟩) λr z hr=>?_
 cases r with
 |error e=>exact hr
 |ok fl=>
  cases fl with
  |ret obj=>
   obtain⟨rfl,rfl⟩:=hr;have hT:Shared.TypeIs { s with heap:=t } (.ref s.heap.objs.size) "set" := ⟨_,o1,rfl⟩
   have hli:=cL.init.lookup;have hbi:=cL.init.bind (.ref s.heap.objs.size)
   repeat (any_goals (first|assumption|wp_step))
   refine mU (codeAny_call_builtin (R:=wants (λr y=>r = .none/\∃h' x,y={ s with heap:=h',toks:=x }/\SI prog w h' s.heap.objs.size (dd ns)/\∀b o,s.heap.get? b=some o->h'.get? b=some o) E) cL.init.plain PySem.F.entry_set_init (check_set_init_1 hT ?_)) λr2 y u=>?_
   .obtain⟨⟨oc,od,odt,osl⟩,B,G,nl,H⟩:=hl;simp only at G H;subst G;subst H;have J:=k1 l _ B;have n1:=PySem.F.sub_list_set;have n2:=PySem.F.sub_list_frozenset;have n3:(eF "list" == eF "dict")=false:=by decide
    have L:t.IsList l vs.toArray:=⟨_,J,rfl,nl,rfl⟩;unfold Builtin.«set.__init__» noKeywords Builtin.Frozenset.updateFrom;generalize U:pyIter=PI
    wp_walk
    subst U;refine wpAny_pyIter_list L ?_;refine jZ (nP ?_);have M:l<s.heap.objs.size:=ao B;have X:A.in1.in1.handled=none:=by simp[hh]
    have lI:l≠t.objs.size:=by rw[P];exact aD (cB M)
    have sI:s.heap.objs.size≠t.objs.size:=by rw[P];exact aD (dS _)
    refine R6 (prog:=prog) (w:=w) (vs:=vs) (ns:=ns) X hi lI sI (eI M) hb _ 0 _ rfl (bx _) ⟨_,aH _ rfl,rfl,rfl⟩ (L.push _) (SI.fresh (ah _ o1)) λh' x hS kp=>?_
    show ki _ _ _ _ _ _;refine kf ?_;show ki _ _ (ret gh) _ _ _;refine kf ⟨rfl,h',x,rfl,hS,λb o e=>kp b o ?_ ?_ (ah _ (k1 b o e))⟩
    .have:=ao e;rw[P];exact aD (cB this)
    .exact aD (ao e)
   .cases r2 with
    |error e=>exact u
    |ok Y=>
     cases Y with
     |ret r=>
      obtain⟨rfl,h',x,rfl,hS',hk'⟩:=u
      repeat (any_goals (first|assumption|wp_step))
      exact h _ _ hS' hk'
     |_=>exact u.elim
  |_=>exact hr.elim
end
def sr:Slot "set_iterator" "__next__" "set_iterator.__next__" :=
 .of (owner:= "set_iterator") (n:= "__next__") (by rw[typeLookup_type,nO];kernel_rfl) (by trivial) (by trivial) (by trivial) (.inl (by trivial)) (by rw[mn];kernel_rfl)
def yI:entryFor table "set_iterator.__next__" = some Builtin.«set_iterator.__next__»:=entryFor_of_tree (by kernel_rfl)
def Ae(a:Value):argsOk "set_iterator.__next__" ⟨[a],[]⟩:=by unfold argsOk;kernel_rfl
def FD:Slot "set_iterator" "__iter__" "set_iterator.__iter__" :=
 .of (owner:= "set_iterator") (n:= "__iter__") (by rw[typeLookup_type,nO];kernel_rfl) (by trivial) (by trivial) (by trivial) (.inl (by trivial)) (by rw[mn];kernel_rfl)
def Jt:entryFor table "set_iterator.__iter__" = some Builtin.«dict_keyiterator.__iter__»:=entryFor_alias (id':= "dict_keyiterator.__iter__") (by kernel_rfl) rfl (by trivial) (by kernel_rfl)
def NS(a:Value):argsOk "set_iterator.__iter__" ⟨[a],[]⟩:=by unfold argsOk;kernel_rfl
def Jy:entryFor table "set.__iter__" = some Builtin.«frozenset.__iter__»:=entryFor_alias (id':= "frozenset.__iter__") (by kernel_rfl) rfl (by trivial) (by kernel_rfl)
def SA(h:Heap)(a:Addr)(es:Array (Int×Value))(ep:Nat)(t:SetTable):Prop:=∃o,h.get? a=some o/\o.ExactSet/\o.data = .set es ep t
def IA(h:Heap)(I:Addr)(f:Value)(i:Nat)(a:Addr)(n ep:Nat):Prop:=h.get? I=some { cls:=.type "set_iterator", dict:=none,data:=.fields #[f,kE i,.ref a,kE n,kE ep],slots:=#[] }
section
variable {prog:ku}{w:ky}{A:Around}{E:Ψ}{s:Shared}{I a T:Addr}{es:Array (Int×Value)}{ep i n:Nat}{t:SetTable}{f:Value}
noncomputable def IA.type(h:IA s.heap I f i a n ep):s.TypeIs (.ref I) "set_iterator" := ⟨_,h,rfl⟩
def IA.self{Q:Ψ}(h:IA s.heap I f i a n ep)(q:Q (.ref I) s):ki (kj prog w) A (pyIter (.ref I)) Q E s:=by
 refine wpAny_pyIter_slot h.type FD (kN FD h.type Jt ?_ (NS _));show ki _ _ (ret (.ref I)) _ _ s;exact kf ⟨_,rfl, "set_iterator", _,h.type,sr.lookup,q⟩
def vQ{Q:Array (Int×Value)->Shared->Prop}(l:SA s.heap a es ep t)(u:t.fits es.size=true)(h:Q es s):ki (kj prog w) A (mV a) Q E s:=by
 obtain⟨o,x,_,hd⟩:=l;unfold mV;exact jZ (kO x hd u (kf h))
def G0{Q:Bool->Shared->Prop}(h:Q (w.params.followText "set-order") s):ki (kj prog w) A setsByText Q E s:=by
 unfold setsByText;exact jZ (nu (kf h))
def MU{sl nx:Nat}{x:Value}{Q:Υ->Shared->Prop}(l:IA s.heap I (kE sl) i a n ep)(z:SA s.heap a es ep t)(B:t.fits es.size=true)(hn:es.size=n)
  (G:∀(H:Around) (J:Ψ) (u:Option (Value×Nat)->Shared->Prop),u (some (x,nx)) s->ki (kj prog w) H (mP a sl i ep) u J s)
  (L:∀h',IA h' I (kE nx) (i+1) a n ep->bZ I s.heap h'->Q (some x) { s with heap:=h' }):ki (kj prog w) A (mD (.ref I)) Q E s:=by
 unfold mD;refine jZ (mM (lO (name:=Str.ofString "__next__") l.type sr (kN sr l.type yI ?_ (Ae _))));unfold Builtin.«set_iterator.__next__»;refine jZ (kf ?_);refine jZ (mX l rfl ?_);show ki _ _ (mV a >>= _) _ _ s;refine jZ (vQ z B ?_);rw[pE (by rw[hn];simp)]
 show ki _ _ (mP a ((sl:Int)).toNat ((i:Int)).toNat ((ep:Int)).toNat >>= _) _ _ s;rw[bA,bA,bA];refine jZ (G _ _ _ ?_);show ki _ _ (setField (.ref I) 0 (kE nx) >>= _) _ _ s;refine jZ (kZ l (by simp) λR M b1=>?_)
 show ki _ _ (setField (.ref I) 1 (kE ((i:Int)+1)) >>= _) _ _ _;refine jZ (kZ M (by simp) λO P b2=>?_)
 show ki _ _ (ret x) _ _ _;exact kf ⟨_,rfl,kf (L O (by simpa[IA]using P) (bZ.trans b1 b2))⟩
def MN{sl:Nat}{Q:Υ->Shared->Prop}(hh:A.handled=none)(l:IA s.heap I (kE sl) i a n ep)(x:SA s.heap a es ep t)(z:t.fits es.size=true)(hn:es.size=n)
  (B:∀(G:Around) (H:Ψ) (u:Option (Value×Nat)->Shared->Prop),u none s->ki (kj prog w) G (mP a sl i ep) u H s)
  (J:∀h',jS I s.heap h'->Q none { s with heap:=h' }):ki (kj prog w) A (mD (.ref I)) Q E s:=by
 unfold mD;refine jZ (mM (lO (name:=Str.ofString "__next__") l.type sr (kN sr l.type yI ?_ (Ae _))));unfold Builtin.«set_iterator.__next__»;refine jZ (kf ?_);refine jZ (mX l rfl ?_);show ki _ _ (mV a >>= _) _ _ s;refine jZ (vQ x z ?_);rw[pE (by rw[hn];simp)]
 show ki _ _ (mP a ((sl:Int)).toNat ((i:Int)).toNat ((ep:Int)).toNat >>= _) _ _ s;rw[bA,bA,bA];refine jZ (B _ _ _ ?_);show ki _ _ (setField (.ref I) 2 .none >>= _) _ _ s;refine jZ (kZ l (by simp) λL M b1=>?_)
 show ki _ _ (newExc (.type "StopIteration") [] >>= _) _ _ _;refine jZ ?_;simp only[newExc,newTuple];refine jZ (ly ?_ (by size_fits))
 refine jZ (m:=mY _ _) (oA (a:=gh) (by first|rfl|(simp only[mY];rfl)) ?_)
 refine ly ?_ (by size_fits)
 simp only[raiseNew];refine jZ (wpAny_handled ?_);rw[show A.in1.handled=none from hh]
 refine jZ (kf (wpAny_throw ?_));refine jZ (nt (T:= "StopIteration") (b:=true) ⟨_,aH _ rfl,rfl⟩ isSubtype_stop ?_);exact kf (J _ ((b1.extBut.push _).push _))
def J0{ps:Ω}{p:Nat}{u:Tok}{e:Int×Value}{Q:Υ->Shared->Prop}(l:IA s.heap I (.ref T) i a n ep)(B:SA s.heap a es ep t)(G:t.fits es.size=true)(hn:es.size=n)(H:s.heap.IsTuple T ps)(J:ps[i]?=some (.int (p:Int) u))(L:es[p]?=some e)
  (M:∀h',IA h' I (.ref T) (i+1) a n ep->bZ I s.heap h'->Q (some e.2) { s with heap:=h' }):ki (kj prog w) A (mD (.ref I)) Q E s:=by
 unfold mD;refine jZ (mM (lO (name:=Str.ofString "__next__") l.type sr (kN sr l.type yI ?_ (Ae _))));unfold Builtin.«set_iterator.__next__»;refine jZ (kf ?_);refine jZ (mX l rfl ?_);show ki _ _ (mV a >>= _) _ _ s;refine jZ (vQ B G ?_);rw[pE (by rw[hn];simp)]
 obtain⟨U,x,O,m,z⟩:=H;show ki _ _ (seqItems? (.ref T) >>= _) _ _ s;refine jZ (wpAny_seqItems x z ?_);simp only[bA,J];obtain⟨o,P,_,hd⟩:=B;refine jZ ?_;unfold setNextDrawn;refine jZ (kO P hd G ?_);simp only[bne_self_eq_false,cK,if_false,bA,L];refine kf ?_;show ki _ _ (setField (.ref I) 1 (kE ((i:Int)+1)) >>= _) _ _ _;refine jZ (kZ l (by simp) λR S b2=>?_)
 exact kf ⟨_,rfl,kf (M R (by simpa[IA]using S) b2)⟩
def JU{ps:Ω}{Q:Υ->Shared->Prop}(hh:A.handled=none)(l:IA s.heap I (.ref T) i a n ep)(z:SA s.heap a es ep t)(B:t.fits es.size=true)(hn:es.size=n)(G:s.heap.IsTuple T ps)(H:ps[i]?=none)
  (J:∀h',jS I s.heap h'->Q none { s with heap:=h' }):ki (kj prog w) A (mD (.ref I)) Q E s:=by
 unfold mD;refine jZ (mM (lO (name:=Str.ofString "__next__") l.type sr (kN sr l.type yI ?_ (Ae _))));unfold Builtin.«set_iterator.__next__»;refine jZ (kf ?_);refine jZ (mX l rfl ?_);show ki _ _ (mV a >>= _) _ _ s;refine jZ (vQ z B ?_);rw[pE (by rw[hn];simp)]
 obtain⟨P,u,L,m,x⟩:=G;show ki _ _ (seqItems? (.ref T) >>= _) _ _ s;refine jZ (wpAny_seqItems u x ?_);simp only[bA,H];refine jZ (kZ l (by simp) λR M O=>?_)
 refine jZ (kZ M (by simp) λS U b1=>?_)
 show ki _ _ (newExc (.type "StopIteration") [] >>= _) _ _ _;refine jZ ?_;simp only[newExc,newTuple];refine jZ (ly ?_ (by size_fits))
 refine jZ (m:=mY _ _) (oA (a:=gh) (by first|rfl|(simp only[mY];rfl)) ?_)
 refine ly ?_ (by size_fits)
 simp only[raiseNew];refine jZ (wpAny_handled ?_);rw[show A.in1.handled=none from hh]
 refine jZ (kf (wpAny_throw ?_));refine jZ (nt (T:= "StopIteration") (b:=true) ⟨_,aH _ rfl,rfl⟩ isSubtype_stop ?_);exact kf (J _ (((bZ.trans O b1).extBut.push _).push _))
theorem erase_perm{α:Type}:∀(l:List α) (i:Nat) (h:i<l.length),(l[i]::l.eraseIdx i).Perm l
 |x::l,0,_=>.refl _
 |x::l,i+1,h=>(aL.swap _ _ _).trans (.cons x (erase_perm l i (by simpa using h)))
noncomputable def Nq{l:Source}{m:Nat}{Q:Nat->Shared->Prop}(u:m≠0)(h:∀i d',i<m->Q i { s with drawn:=d' }):ki (kj prog w) A (choose l m) Q E s:=λΓ p x=>by
 show Sem.wp _ _ (Sem.choose l m Sem.pure) _ _ _ _;rw[Sem.wp_choose];exact⟨u,h _ _ (jb _ (fR u))⟩
theorem L8{α:Type}:∀(m:Nat) (xs:List α) (s:Shared) (Q:List α->Shared->Prop),m=xs.length->(∀ys d',ys.Perm xs->Q ys { s with drawn:=d' })->ki (kj prog w) A (drawOrder m xs) Q E s
 |0,xs,s,Q,l,h=>by
  have:xs=[]:=bU.mp l.symm;subst this;unfold drawOrder;exact kf (h [] s.drawn (.refl _))
 |m+1,[],s,Q,l,h=>by cases l
 |m+1,x::xs,s,Q,l,h=>by
  unfold drawOrder;refine jZ (Nq (by simp) λi d' hi=>?_)
  have e:(x::xs)[i]?=some ((x::xs)[i]'hi):=gEg hi;rw[e];refine jZ (L8 m _ _ _ (by rw[dF,pH hi];simp at l ⊢;lia) λys z u=>kf (h _ _ ?_))
  exact(aL.cons _ u).trans (erase_perm _ _ hi)
theorem L7{α:Type}(nx:Nat->Nat):∀(m k:Nat) (xs:List α) (out:Array α),m=xs.length->(pickOrder.go nx m k xs out).toList.Perm (out.toList++xs)
 |0,k,xs,out,l=>by
  have:xs=[]:=bU.mp l.symm;subst this;rw[pickOrder.go,aNq]
 |m+1,k,xs,out,l=>by
  have hi:nx k % xs.length<xs.length:=jb _ (by lia)
  rw[pickOrder.go];rw[gEg hi];dsimp only;refine(L7 nx m (k+1) _ _ (by rw[dF,pH hi];lia)).trans ?_
  rw[dJ,aa];exact aL.append_left _ (erase_perm _ _ hi)
def Nk{α:Type}(nx:Nat->Nat)(xs:Array α):(pickOrder nx xs).toList.Perm xs.toList:=by
 have:=L7 nx xs.size 0 xs.toList #[] (by rw[aq])
 simpa[pickOrder]using this
end
def SA.keep{h h':Heap}{a:Addr}{es:Array (Int×Value)}{ep:Nat}{t:SetTable}(x:SA h a es ep t)(k:∀o,h.get? a=some o->h'.get? a=some o):SA h' a es ep t:=by
 obtain⟨o,l,r⟩:=x;exact⟨o,k o l,r⟩
section
variable {prog:ku}{w:ky}{A:Around}{E:Ψ}{s:Shared}{I a T:Addr}{es:Array (Int×Value)}{ep:Nat}{t:SetTable}
def FP{items:Ξ}{sl:Nat->Nat}(hh:A.handled=none)(G:a≠I)(H:t.fits es.size=true)(hn:es.size=items.length)
  (J:∀(i:Nat) (n:Around) (u:Ψ) (l:Option (Value×Nat)->Shared->Prop) (z:Shared),i<=items.length->SA z.heap a es ep t->l (items[i]?.map λx=>(x,sl (i+1))) z->ki (kj prog w) n (mP a (sl i) i ep) l u z) :
  Walks prog w A I [I,a] [I] items.length (λi v=>items[i]?=some v) (λi h=>i<=items.length/\IA h I (kE (sl i)) i a items.length ep/\SA h a es ep t) where
 sub:=λb hb=>by rw[mSq.mp hb];simp
 frame:=λi h h' st k=>⟨st.1,k I (by simp) _ st.2.1,st.2.2.keep λo e=>k a (by simp) o e⟩
 item:=λi s Q E hi st B=>by
  have e:=gEg hi;refine MU st.2.1 st.2.2 H hn (nx:=sl (i+1)) (x:=items[i]) (λn u l q=>J i n u l s st.1 st.2.2 (by rw[e];exact q)) λh' L sb=>?_
  exact B _ h' s.toks e ⟨hi,L,st.2.2.keep λo q=>sb.extBut a o G q⟩ λb o hb q=>sb.extBut b o (by simpa using hb) q
 done:=λs Q E st B=>by
  have e:items[items.length]?=none:=bo (af _);exact MN hh st.2.1 st.2.2 H hn (λn u l q=>J _ n u l s st.1 st.2.2 (by rw[e];exact q)) λh' M=>B h' s.toks λb o hb q=>M b o (by simpa using hb) q
 self:=λi s Q E st B=>st.2.1.self B
def Kw{items:Ξ}{ps:Θ}(hh:A.handled=none)(n:a≠I)(z:T≠I)(H:t.fits es.size=true)(hn:es.size=items.length)(hl:ps.length=items.length)(J:∀i p:Nat,ps[i]?=some p->∃e:Int×Value,es[p]?=some e/\items[i]?=some e.2) :
  Walks prog w A I [I,a,T] [I] items.length (λi v=>items[i]?=some v) (λi h=>i<=items.length/\IA h I (.ref T) i a items.length ep/\SA h a es ep t/\h.IsTuple T (ps.map λp:Nat=>kE p).toArray) where
 sub:=λb hb=>by rw[mSq.mp hb];simp
 frame:=λi h h' st k=>⟨st.1,k I (by simp) _ st.2.1,st.2.2.1.keep λo e=>k a (by simp) o e,let ⟨o,B,r⟩:=st.2.2.2;⟨o,k T (by simp) o B,r⟩⟩
 item:=λi s Q E hi st l=>by
  have G:i<ps.length:=by rw[hl];exact hi
  have e:=gEg G;obtain⟨x,L,M⟩:=J i _ e;refine J0 (u:=0) (p:=ps[i]) (e:=x) st.2.1 st.2.2.1 H hn st.2.2.2 (by rw[iS,gMq,e];rfl) L λh' O sb=>?_
  exact l _ h' s.toks M ⟨hi,O,st.2.2.1.keep λo q=>sb.extBut a o n q,let ⟨o,B,r⟩:=st.2.2.2;⟨o,sb.extBut T o z B,r⟩⟩ λb o hb q=>sb.extBut b o (by simpa using hb) q
 done:=λs Q E st l=>JU hh st.2.1 st.2.2.1 H hn st.2.2.2 (by rw[iS];exact bo (by rw[lMq,hl];exact af _)) λh' P=>l h' s.toks λb o hb q=>P b o (by simpa using hb) q
 self:=λi s Q E st l=>st.2.1.self l
def VC(t:SetTable)(i:Nat):Nat:=if i=0 then 0 else t.place.getD (i-1) 0+1
def NT(l:Up t.place){i:Nat}(hi:i<=t.place.size):SetTable.below t.place (VC t i)=i:=by
 unfold VC
 by_cases c:i=0
 .rw[pH c,c];exact Jw l
 .rw[pE c];have hl:i-1<t.place.size:=by lia
  have e:=ag hl;have n:t.place.getD (i-1) 0=t.place[i-1]'hl:=by simp[gj,hl]
  rw[n,Jz l e];lia
def PB(u:t.fits es.size=true)(B:Tb true t)(hw:w.params.followText "set-order" = false)(hd:(!t.plain && decide (es.size>1))=false){i:Nat}(hi:i<=es.size)(G:SA s.heap a es ep t){Q:Option (Value×Nat)->Shared->Prop}
  (h:Q ((es[i]?).map λe=>(e.2,VC t (i+1))) s):ki (kj prog w) A (mP a (VC t i) i ep) Q E s:=by
 obtain⟨o,H,_,x⟩:=G;have l:t.place.size=es.size:=by
  simp only[SetTable.fits,fD,beq_iff_eq,decide_eq_true_eq]at u;exact u.1
 unfold mP;refine jZ (kO H x u ?_);refine jZ (G0 ?_);rw[hw];show ki _ _ (if (false:Bool)=true then _ else _) _ _ s
 rw[pE aJ];refine lY (λz=>absurd (show(!t.plain && decide (es.size>1))=true from z) (by rw[hd];decide)) (λ_=>?_)
 refine jZ ?_;refine lY (λz=>absurd (show(!t.led && !es.isEmpty)=true from z) (by rw[B.led];simp)) (λ_=>kf ?_)
 rw[NT B.up (by rw[l];exact hi)]
 refine kf ?_
 by_cases c:i<es.size
 .have n:=ag c;have J:=ag (show i<t.place.size by rw[l];exact c)
  have L:VC t (i+1)=t.place[i]'(by rw[l];exact c)+1:=by
   unfold VC;rw[pE (by lia),fj]
   simp[gj,show i<t.place.size by rw[l];exact c]
  rw[n,L]at h;rw[n,J];exact h
 .have n:es[i]?=none:=Array.getElem?_eq_none (iB c);rw[n]at h;rw[n];exact h
def NF(n:t.fits es.size=true)(hw:w.params.followText "set-order" = true){i:Nat}(x:SA s.heap a es ep t){Q:Option (Value×Nat)->Shared->Prop}
  (h:Q (((pickOrder (w.params.setOrder a ep) es)[i]?).map λe=>(e.2,0)) s):ki (kj prog w) A (mP a 0 i ep) Q E s:=by
 obtain⟨o,u,_,l⟩:=x;unfold mP;refine jZ (kO u l n ?_);refine jZ (G0 ?_);rw[hw];show ki _ _ (if (true:Bool)=true then _ else _) _ _ s
 rw[pH rfl];refine lY (λz=>absurd z (by simp)) (λ_=>?_)
 refine jZ ?_;unfold setWalk;refine jZ (kO u l n ?_);refine jZ (G0 ?_);rw[hw];show ki _ _ (if (true:Bool)=true then _ else _) _ _ s
 rw[pH rfl];refine jZ (nu ?_);exact kf (kf h)
end
def Ca{es:List (Int×Value)}{F:Ϝ}{vs:Ξ}(l:∀e∈es,∃k u,e.2 = .int k u)(s:(es.map λe=>Mr.intOf e.2).Perm F)(n:vs.Perm (es.map (·.2))):(∀v∈vs,∃k u,v = .int k u)/\(vs.map Mr.intOf).Perm F:=by
 refine⟨λv t=>?_,(n.map _).trans ?_⟩
 .obtain⟨e,x,rfl⟩:=mMq.mp (n.mem_iff.mp t);exact l e x
 .rw[mPq];exact s
section
variable {prog:ku}{w:ky}{A:Around}{E:Ψ}{s:Shared}{a:Addr}{F:Ϝ}
def Sd{Q:Ψ}(hS:SI prog w s.heap a F)
  (h:∀(I:Addr) (h1:Heap) (d':Drawn) (fp:Δ) (vs:Ξ) (St:Nat->Heap->Prop),(∀A':Around,A'.handled=none->Walks prog w A' I fp [I] vs.length (λi v=>vs[i]?=some v) St)->St 0 h1->(∀b o,s.heap.get? b=some o->h1.get? b=some o)->s.heap.objs.size<=I->(∀b∈fp,b=a∨s.heap.objs.size<=b) ->
   (∀v∈vs,∃k u,v = .int k u)->(vs.map Mr.intOf).Perm F->Q (.ref I) { s with heap:=h1,drawn:=d' }):ki (kj prog w) A (pyIter (.ref a)) Q E s:=by
 obtain⟨o,n,G,t,M,hex,hd,hel,X,P,hb,R,hT⟩:=hS;have hTy:s.TypeIs (.ref a) "set" := ⟨o,M,hex.1⟩;have Y:a<s.heap.objs.size:=ao M;have O:SA s.heap a n G t:=⟨o,M,hex,hd⟩;have fits:n.size<=kr:=nh hb;refine wpAny_pyIter_slot hTy iT (kN iT hTy Jy ?_ (PySem.F.args_set_iter_1 _));unfold Builtin.«frozenset.__iter__»;show ki _ _ (Builtin.Frozenset.sizeOf a >>= _) _ _ s;refine jZ ?_;unfold Builtin.Frozenset.sizeOf;refine jZ (vQ O R (kf ?_));show ki _ _ (setDrawn a >>= _) _ _ s;refine jZ ?_;unfold setDrawn;refine jZ (kO M hd R ?_);refine jZ (G0 (kf ?_));have fin:∀(f:Value) (z:Shared),z.heap.get? a=some o->Q (.ref z.heap.objs.size) { z with heap:=z.heap.push { cls:=.type "set_iterator", data:=.fields #[f,kE (0:Nat),.ref a,kE n.size,kE G] } } ->
   ki (kj prog w) A.in1 (setEpoch a >>= λe=>newFields "set_iterator" [f,kE 0,.ref a,kE n.size,kE e] >>= λv=>ret v) (λfin z=>∃v,fin = .done (.ret v)/\∃T' r,z.TypeIs v T'/\typeLookup (.type T') "__next__" = pure (some r)/\Q v z) E z:=λf z hz q=>by
  unfold setEpoch;refine jZ (jZ (kO hz hd R (kf ?_)));unfold newFields;exact jZ (ly (kf ⟨_,rfl, "set_iterator", _,⟨_,aH _ rfl,rfl⟩,sr.lookup,q⟩))
 have s0:s={ s with heap:=s.heap,drawn:=s.drawn }:=by cases s;rfl
 cases hw:w.params.followText "set-order" with
 |true=>
  show ki _ _ (if (!true && _)=true then _ else _) _ _ s
  rw[pE (by simp)]
  refine jZ (kf ?_);have H:=Nk (w.params.setOrder a G) n;have hl:n.size=((pickOrder (w.params.setOrder a G) n).toList.map (·.2)).length:=by rw[lMq,H.length_eq,aq]
  obtain⟨v1,v2⟩:=Ca X P (H.map (·.2));refine fin (kE 0) s M ?_;have J:∀b∈[s.heap.objs.size,a],b=a∨s.heap.objs.size<=b:=λb hb=>(ae.mp hb).elim (λz=>.inr (fA z.symm)) λz=>.inl (by simpa using z)
  have ia:IA (s.heap.push { cls:=.type "set_iterator", data:=.fields #[kE 0,kE (0:Nat),.ref a,kE n.size,kE G] }) s.heap.objs.size (kE (0:Nat)) 0 a ((pickOrder (w.params.setOrder a G) n).toList.map (·.2)).length G:=by
   rw[←hl];exact aH _ rfl
  refine h _ _ s.drawn [s.heap.objs.size,a] _ _ (λA' hh=>FP (items:=(pickOrder (w.params.setOrder a G) n).toList.map (·.2)) (sl:=λ_=>0) hh (aD Y) R hl λi A2 E2 Q2 z hi hz q=>NF R hw hz ?_) ⟨bx _,ia,O.keep λo e=>ah _ e⟩ (λb o e=>ah _ e) (af _) J v1 v2
  rw[gMq,aw]at q;cases L:(pickOrder (w.params.setOrder a G) n)[i]? with
  |none=>rw[L]at q;exact q
  |some x=>rw[L]at q;exact q
 |false=>
  have hT':Tb true t:=by rw[hw]at hT;exact hT
  by_cases hdr:(!t.plain && decide (n.size>1))=true
  .show ki _ _ (if (!false && (!t.plain && decide (n.size>1)))=true then _ else _) _ _ s
   rw[pH (by rw[hdr];rfl)]
   refine jZ (L8 n.size (az n.size) s _ (by rw[aB]) λS d' hy=>jZ ?_)
   have yl:S.length=n.size:=by rw[hy.length_eq,aB]
   refine wpAny_newTuple ?_ (by rw[lMq,yl];exact fits)
   generalize hg:s.heap.push { cls:=.type "tuple", data:=.seq (S.map λi:Nat=>kE i).toArray }=g
   have kg:∀b o,s.heap.get? b=some o->g.get? b=some o:=λb o e=>by rw[←hg];exact ah _ e
   have zg:g.objs.size=s.heap.objs.size+1:=by rw[←hg];exact iX ..
   have tg:g.IsTuple s.heap.objs.size (S.map λi:Nat=>kE i).toArray:=by rw[←hg];exact⟨_,aH _ rfl,rfl,_,rfl⟩
   refine fin (.ref s.heap.objs.size) { s with heap:=g,drawn:=d' } (kg a o M) ?_
   let B:Ξ:=S.filterMap λp=>(n[p]?).map (·.2)
   have ev:S.map (λp=>(n[p]?).map (·.2))=B.map some:=by
    show _=(S.filterMap λp=>(n[p]?).map (·.2)).map some
    have:∀l:Θ,(∀p∈l,p<n.size)->l.map (λp=>(n[p]?).map (·.2))=(l.filterMap λp=>(n[p]?).map (·.2)).map some:=by
     intro l
     induction l with
     |nil=>intro _;rfl
     |cons p l ih=>
      intro hl;have P:=ag (hl p (by simp))
      rw[au,List.filterMap_cons_some (b:=(n[p]'(hl p (by simp))).2) (by rw[P];rfl),au,ih λq L=>hl q (by simp[L]),P]
      rfl
    exact this S λp P=>by
     have:=hy.mem_iff.mp P;exact bD.mp this
   have il:B.length=n.size:=by
    have:=congrArg bV ev;rw[lMq,lMq]at this;rw[←this,yl]
   have ip:B.Perm (n.toList.map (·.2)):=by
    refine(hy.filterMap _).trans ?_;have:=filterMap_getElem?_range n;rw[←this,List.map_filterMap]
   obtain⟨v1,v2⟩:=Ca X P ip;have J:∀b∈[g.objs.size,a,s.heap.objs.size],b=a∨s.heap.objs.size<=b:=λb hb=>by
    simp only[ae,cM,or_false]at hb;rcases hb with z|z|z
    .rw[z,zg];exact .inr (cg _)
    .exact .inl z
    .rw[z];exact .inr (af _)
   have ia:IA (g.push { cls:=.type "set_iterator", data:=.fields #[.ref s.heap.objs.size,kE (0:Nat),.ref a,kE n.size,kE G] }) g.objs.size (.ref s.heap.objs.size) 0 a B.length G:=by
    rw[il];exact aH _ rfl
   refine h _ _ d' [g.objs.size,a,s.heap.objs.size] B _ (λA' hh=>Kw (ps:=S) hh (by rw[zg];exact aD (cB Y)) (by rw[zg];exact aD (dS _)) R il.symm (by rw[yl,il]) λi p e=>?_) ⟨bx _,ia,(O.keep λo e=>kg a o e).keep λo e=>ah _ e,let ⟨o,M,r⟩:=tg;⟨o,ah _ M,r⟩⟩ (λb o e=>ah _ (kg b o e)) (by rw[zg];exact cg _) J v1 v2
   have hpl:p<n.size:=bD.mp (hy.mem_iff.mp (mGq e));have hx:=ag hpl;refine⟨_,hx,?_⟩;have:=congrArg (λl:List Υ=>l[i]?) ev
   simp only[gMq,e,df,hx]at this;cases L:B[i]? with
   |none=>rw[L]at this;cases this
   |some y=>rw[L]at this;exact congrArg some (aO.inj (aO.inj this)).symm
  .show ki _ _ (if (!false && (!t.plain && decide (n.size>1)))=true then _ else _) _ _ s
   have U:(!t.plain && decide (n.size>1))=false:=by simpa using hdr
   rw[pE (by rw[U];decide)]
   refine jZ (kf ?_);have hl:n.size=(n.toList.map (·.2)).length:=by rw[lMq,aq]
   obtain⟨v1,v2⟩:=Ca X P (.refl _);refine fin (kE 0) s M ?_;have J:∀b∈[s.heap.objs.size,a],b=a∨s.heap.objs.size<=b:=λb hb=>(ae.mp hb).elim (λz=>.inr (fA z.symm)) λz=>.inl (by simpa using z)
   have ia:IA (s.heap.push { cls:=.type "set_iterator", data:=.fields #[kE 0,kE (0:Nat),.ref a,kE n.size,kE G] }) s.heap.objs.size (kE (VC t 0)) 0 a (n.toList.map (·.2)).length G:=by
    rw[←hl];exact aH _ rfl
   refine h _ _ s.drawn [s.heap.objs.size,a] _ _ (λA' hh=>FP (items:=n.toList.map (·.2)) (sl:=VC t) hh (aD Y) R hl λi A2 E2 Q2 z hi hz q=>PB R hT' hw U (by rw[hl];exact hi) hz ?_) ⟨bx _,ia,O.keep λo e=>ah _ e⟩ (λb o e=>ah _ e) (af _) J v1 v2
   rw[gMq,aw]at q;cases L:n[i]? with
   |none=>rw[L]at q;exact q
   |some x=>rw[L]at q;exact q
end
end Ms
namespace Ms
open PySem PySem.W PyProof.Rows Mr MrS
section
variable {prog:ku}{w:ky}{A:Around}{E:Ψ}{s:Shared}{a:Addr}{F:Ϝ}
noncomputable def Qw{r:Addr}{Q:Bool->Shared->Prop}(t:s.TypeIs (.ref r) "set")(h:Q false s):ki (kj prog w) A (Builtin.List.listLengthHint (.ref r)) Q E s:=by
 unfold Builtin.List.listLengthHint;refine jZ (wpAny_specialOf t PySem.F.slot_set_len.lookup ?_);generalize n:("set.__len__" : String)=id0
 wp_delta
 rw[show splitId id0=some ("set","__len__")from by subst n;decide +kernel]
 subst n;refine jZ (nt (T:= "set") (b:=true) t (by rw[mn];kernel_rfl) ?_)
 refine lY (λl=>absurd l (by decide)) (λ_=>?_)
 refine lY (λ_=>?_) (λl=>absurd (by trivial) l)
 refine jZ (oq t ?_);exact kf h
def Um{R:nX->Shared->Prop}{S:Addr}{res:Value}{c0:Nat}(hh:A.handled=none)(B:SI prog w s.heap a F)(G:S≠a)(hS:s.heap.get? S=some { cls:=.type "list", data:=.seq #[] c0 })(hn:F.length<=kr)
  (hR:∀h' P d' l x,(∀b o,b≠S->s.heap.get? b=some o->h'.get? b=some o)->h'.get? S=some { cls:=.type "list", dict:=none,data:=.seq l x,slots:=#[] }->(∀v∈l.toList,∃k u,v = .int k u)->(l.toList.map Mr.intOf).Perm F->R (.ok (.ret res)) { s with heap:=h',toks:=P,drawn:=d' }) :
  ki (kj prog w) A.in1 (Builtin.List.listExtendWith (.ref S) (.ref a) res)
   (λfin Q=>match fin with|.done f=>R (.ok f) Q|.again x=>x.quiet=true/\lV (kj prog w) A x R Q) (λe Q=>R (.error e) Q) s:=by
 have H:S<s.heap.objs.size:=ao hS;have hT:s.TypeIs (.ref a) "set" := by
  obtain⟨o,_,_,_,U,X,_⟩:=B;exact⟨o,U,X.1⟩
 unfold Builtin.List.listExtendWith;refine jZ (oq (T:= "set") hT ?_);have h1:Builtin.List.listSameRef (.ref S) (.ref a)=false:=by simp[Builtin.List.listSameRef,G]
 have h2:(eF "set" == eF "list")=false:=by decide
 have h3:(eF "set" == eF "tuple")=false:=by decide
 simp only[h1,h2,h3,Bool.or_false,cK,if_false];refine jZ (Sd B λI g d' fp Y St W st kp hI hfp v1 v2=>?_)
 have J:S∉fp:=λm=>by
  rcases hfp S m with z|z
  .exact G z
  .exact absurd H (Nat.not_lt.mpr z)
 have vn:Y.length<=kr:=by
  have:=v2.length_eq;rw[lMq]at this;rw[this];exact hn
 have hIS:I≠S:=eI (aK H hI);have key:∀(h:Heap) (c1 P:Nat),St 0 h->(∀b o,b≠S->s.heap.get? b=some o->h.get? b=some o) ->
   h.get? S=some { cls:=.type "list", data:=.seq #[] c1 }->lV (kj prog w) A (.builtin "list.extend.loop" ⟨[.ref S,.ref I,res],[]⟩) R { s with heap:=h,toks:=P,drawn:=d' }:=by
  intro h c1 P hst hk n;refine codeAny_extend_loopS (W A.in1 hh).toS vn S J res Y.length 0 _ #[] c1 rfl (bx _) hst n (ItemsOf.nil _) λz l x hm hS' t=>?_
  rw[Moved.eq_with hm];have ea:l.toList=Y:=by
   refine cV λj=>?_
   rw[aw];cases hq:l[j]? with
   |none=>
    have:l.size<=j:=Array.getElem?_eq_none_iff.mp hq;rw[bo (by rw[←t.1];exact this)]
   |some v=>exact(t.2 j v hq).symm
  refine hR z.heap z.toks d' l x (λb o hb e=>hm.heap b o (λL=>?_) (hk b o hb e)) hS' (by rw[ea];exact v1) (by rw[ea];exact v2)
  rcases ae.mp L with e'|e'
  .exact hb e'
  .rw[mSq.mp e']at e;exact absurd (ao e) (Nat.not_lt.mpr hI)
 have n:=kp S _ hS;refine jZ (lu (Qw (let ⟨o,U,hc⟩:=hT;⟨o,kp a o U,hc⟩) ?_))
 refine lY (λ_=>?_) (λ_=>kf ⟨mB iw _,key _ c0 _ st (λb o _ e=>kp b o e) n⟩)
 refine jZ (oa ?_);refine jZ ?_;show ki _ _ (updateSeq S (·.push .none) >>= λ_=>updateSeq S (·.pop)) _ _ _
 refine jZ (wpAny_updateSeq n rfl ?_);have M:=gF (Obj.mapSeq (·.push gh)) n rfl;refine wpAny_updateSeq (hz:=by seq_fits) M rfl ?_
 have hS3:=gF (Obj.mapSeq (·.pop)) M rfl;refine kf ⟨mB iw _,key _ _ _ ?_ (λb o hb e=>?_) hS3⟩
 .refine(W A.in1 hh).frame 0 _ _ st λb hb o e=>?_
  have O:b≠S:=λh=>J (h ▸ hb)
  exact(dQ _ _ (Ne.symm O)).trans ((dQ _ _ (Ne.symm O)).trans e)
 .exact(dQ _ _ (Ne.symm hb)).trans ((dQ _ _ (Ne.symm hb)).trans (kp b o e))
def Hu{Q:Ξ->Shared->Prop}(hh:A.handled=none)(l:SI prog w s.heap a F)(hn:F.length<=kr)
  (h:∀h' n d' vs,(∀b o,s.heap.get? b=some o->h'.get? b=some o)->s.heap.objs.size<h'.objs.size->(∀v∈vs,∃k u,v = .int k u)->(vs.map Mr.intOf).Perm F->Q vs { s with heap:=h',toks:=n,drawn:=d' }) :
  ki (kj prog w) A (collect (.ref a)) Q E s:=by
 have t:a<s.heap.objs.size:=let ⟨_,_,_,_,I,_⟩:=l;ao I
 unfold collect;refine jZ (nP (kL nZ ?_));show ki _ _ (do again (.builtin "list.__iadd__" ⟨[←nq [],.ref a],[]⟩)) _ _ s
 refine jZ (mw (kf ⟨Code.quiet_builtin _ (by trivial),kL entry_list_iadd' ?_⟩))
 show ki _ _ (Builtin.List.listExtendWith (.ref s.heap.objs.size) (.ref a) (.ref s.heap.objs.size)) _ _ { s with heap:=s.heap.push (kC "list" #[] 0) }
 have x:(s.heap.push (kC "list" #[] 0)).get? s.heap.objs.size=some (kC "list" #[] 0):=aH _ rfl;refine Um (A:=A) (R:=λr G=>match r with
   | .ok (.ret v)=>ki (kj prog w) A (match v with
    | .ref a=>do
     let o ←load a
     match o.data with
     | .seq z _=>pure z.toList
     |_=>lC "internal:collect"
    |_=>lC "internal:collect") Q E G
   | .ok _=>False
   | .error e=>E e G) (s:={ s with heap:=s.heap.push (kC "list" #[] 0) }) hh (l.keep λo e=>ah _ e) (eI t) x hn λh' n d' B c hk H J L=>?_
 show ki (kj prog w) A (do
   let o ←load s.heap.objs.size
   match o.data with
   | .seq z _=>pure z.toList
   |_=>lC "internal:collect") Q E { s with heap:=h',toks:=n,drawn:=d' }
 refine jZ (wpAny_load H ?_);exact kf (h h' n d' B.toList (λb o e=>hk b o (aD (ao e)) (ah _ e)) (ao H) J L)
def Kq{Q:Ψ}(hh:A.handled=none)(P:SI prog w s.heap a F)(hn:F.length<=kr)
  (h:∀(out:Ξ) (h':Heap) (p:Addr) (H n':Nat) (d':Drawn),(∀v∈out,∃k u,v = .int k u)->out.map Mr.intOf=qQ F->(∀b o,s.heap.get? b=some o->h'.get? b=some o)->s.heap.objs.size<=p->h'.get? p=some (kC "list" out.toArray n')->Q (.ref p) { s with heap:=h',toks:=H,drawn:=d' }) :
  ki (kj prog w) A (call (.builtin "sorted") [.ref a]) Q E s:=by
 refine Calls.call_function_entry oC ot ox (oy _) ?_;unfold Builtin.«sorted»;refine jZ (m:=checkCount "sorted" 1 1 _) (kf ?_);refine jZ (Hu hh P hn λz H d' l J B R v2=>?_)
 have hs:l.length<=kr:=by
  have:=v2.length_eq;rw[lMq]at this;rw[this];exact hn
 refine jZ (mw ?_ hs);have n:(z.push (kC "list" l.toArray 0)).get? z.objs.size=some (kC "list" l.toArray 0):=aH _ rfl;show ki _ _ _ _ _ { s with heap:=z.push (kC "list" l.toArray 0),toks:=H,drawn:=d' }
 have L:s.heap.objs.size<=z.objs.size:=cC B;have k1:∀b o,s.heap.get? b=some o->(z.push (kC "list" l.toArray 0)).get? b=some o:=λb o e=>ah _ (J b o e)
 have I:∀b o,s.heap.get? b=some o->b≠z.objs.size:=λb o e=>aD (ao (J b o e))
 generalize z.push (kC "list" l.toArray 0)=G at n k1 ⊢
 clear B
 generalize z.objs.size=p at n L I ⊢;have k2:∀b o,s.heap.get? b=some o->(tE G p l).get? b=some o:=λb o e=>by
  refine ah _ (ah _ ?_);rw[de _ _ _ _ (I b o e)];exact k1 b o e
 have S:2<=l.length->∀Q:kR->Shared->Prop,Q mi { s with heap:=tE G p l,toks:=H,drawn:=d' }->ki (kj prog w) A.in1.in1 (oh l.toArray) Q E { s with heap:=tE G p l,toks:=H,drawn:=d' }:=λM Q q=>by
  have hi:kK l (l.map Mr.intOf):=C3 (by rw[lMq]) λj v m U e2=>by
   obtain⟨k,u,rfl⟩:=R v (mGq U);rw[gMq,U]at e2;cases e2;exact⟨u,rfl⟩
  match l,hi,M with
  | [],_,M=>simp at M
  | [_],_,M=>simp at M
  |v₁::v₂::sU,hi,_=>
   rw[ou hi];exact kf q
 refine jZ (lu (kN nQ ⟨_,n,rfl⟩ nB (xl (s:={ s with heap:=G,toks:=H,drawn:=d' }) (Pk:=λx:ke=>∃a t,x.1=fY a t) (lt:=ltI) n hs S (XO _ _ _ _) (λx hx=>?_) λO a1 a2=>⟨_,rfl,?_⟩) (nT _)))
 .obtain⟨m1,m2⟩:=uZ hx;exact R _ m1
 .obtain⟨o1,o2⟩:=zI a1 a2;obtain⟨U,X⟩:=Gw l n;obtain⟨n1,g1⟩:=Gj (O.map (·.2)) X;have Y:∀v∈(O.map (·.2)).toList,∃a t,v=fY a t:=λv m=>R v (o1.mem_iff.mp m)
  refine kf ⟨_,rfl,h _ (mL G p l (O.map (·.2))) p H n1 d' Y (G9 ((o1.map _).trans v2) ?_) (λb o e=>?_) L ?_⟩
  .rw[aV];refine o2.imp_of_mem λ{x y} mx my hq=>?_
   obtain⟨c,t,rfl⟩:=Y x mx;obtain⟨b,u,rfl⟩:=Y y my;have h':¬ b<c:=of_decide_eq_false hq;show c<=b;lia
  .unfold mL;rw[de _ _ _ _ (I b o e)];exact k2 b o e
  .rw[show(O.map (·.2)).toList.toArray=O.map (·.2)from gK]
   exact g1
end
end Ms
namespace Mr
open PySem PySem.Spec PyProof.Rows L2
def abr{X:Cx}{l:Φ}{σ:St}{H:Hp}{s:Shared}(I:Inv X l σ H s)(d:Drawn):Inv X l σ H { s with drawn:=d }:=⟨I.ok,I.os,I.bare,I.base,I.loc,I.cell,I.free,I.freeC,I.pin,I.hok,I.len⟩
section
variable {X:Cx}
def VR(K:Ζ)(xs:List V)(H:Hp)(Q:VK):Prop:=∃(a:Addr) (ns:Ϝ),xs=[.ref a]/\rJ K H a (ns.map V.int)/\ns.length+1<lF/\∀p,H p=none->Q (.ref p) (qw H p (.lst ((qQ (Ms.dd ns)).map V.int)))
def Vg{e:Expr}{M:TA}{S p l pos:Pos}(O:X.calm=true)(U:Gl X "sorted")(Y:X.mg "sorted" = none)(hg:Gl X "set")(hm:X.mg "set" = none)(ha:PA X [e] M)
  (P:kA [.Call (.Name "set" p) [e] [] pos] X.env=(false,eval (.Call (.Name "set" p) [e] [] pos) X.env)::kA [] X.env:=by rfl) (hs:kA [e] X.env=[(false,eval e X.env)]:=by rfl) :
  PE X (.Call (.Name "sorted" S) [.Call (.Name "set" p) [e] [] pos] [] l) (Ot (VR X.K) M):=by
 intro oH s σ H Q I h;refine lW (xk I U Y boot_sorted ?_ (by decide) (by decide))
 refine gH ?_ P (by rfl)
 rw[P];show ki _ _ (spliced ((false,eval (.Call (.Name "set" p) [e] [] pos) X.env)::mK l (kA [] X.env))) _ _ s;refine Calls.spliced_cons ?_;refine Call_ (xk I hg hm boot_set (bR (thn (ha pos oH s σ H _ I h) λus R z=>?_) hs rfl))
 obtain⟨vs,H1,n,r1,a,B,e1,hS,hb,q⟩:=z;subst e1;obtain⟨u,rfl,ru⟩:=wG r1;cases ru;obtain⟨ws,hl,hi,_⟩:=BD n hS;have hd:=Ms.KM B;refine Ms.PH (n.ok.hd O) hl hi hb λh1 tk t kp=>Calls.spliced_nil ?_
 refine Ms.Kq (s:={ R with heap:=h1,toks:=tk }) (n.ok.hd O) t (by have:lF=4096:=rfl;rw[kJ];lia) λout h2 p E n' d' hv ho G hp hx=>?_
 have x:R.heap.objs.size<=p:=bY (cC (let ⟨_,_,_,_,J,_⟩:=t;ao J)) hp
 have L:H1 p=none:=n.hok.fresh x;have hz:((qQ (Ms.dd B)).map V.int).length<=kr:=by
  have:lF=4096:=rfl;rw[lMq,(qT _).length_eq,kJ];lia
 refine⟨.ref p,_,abr (n.laid (t':=E) (λb o e=>G b o (kp b o e)) x (show qR X.prog X.w _ h2 _ (.lst ((qQ (Ms.dd B)).map V.int))from ⟨hz,out,n',?_,hx⟩)) d',rfl,q _ L⟩
 rw[←ho];exact Mr.vals_ints hv
end
end Mr
namespace Z
open PySem L2 Mr
def OZ(l:ML):MK:=λS=>(l S).bind λx=>(qJ x.1).bind λns=>vi (ns.length<=4000) (some (.ow ((qQ (Ms.dd ns)).map λn=>.sh (.int n)),x.2))
def TF{K:Ζ}{te:TE}{l:ML}(hl:SQ K te l):SK K (Ot (VR K) (tL te xE)) (OZ l):=by
 intro H₀ n Hf S σ H Y av S' R e Q q;obtain⟨x,I,e⟩:=oBq.mp e;obtain⟨s,J,e⟩:=oBq.mp e;rcases pK e with⟨t,e⟩|e
 .cases e;refine hl R (ds:=x.1) (S':=x.2) I _ λL H1 Fs1 M O u z B E=>?_
  rw[uN J]at E;rw[rn E]at B;refine⟨M,s,rfl,B,by unfold lF;lia,λp G=>?_⟩
  obtain⟨P,U,X,n2,n3⟩:=z.new (o:=.lst ((qQ (Ms.dd s)).map V.int)) G;rw[wK]at q;exact q _ _ _ (.ref p) [p] (u.trans P) U (pV.new pB X (tq _)) ((xB.one z G).back u)
 .cases e
def OS(l:ML)(S:AS):OZ l S=(l S).bind λx=>(qJ x.1).bind λns=>vi (ns.length<=4000) (some (.ow ((qQ (Ms.dd ns)).map λn=>.sh (.int n)),x.2)):=rfl
end Z
namespace Mr
open PySem PySem.Spec PyProof.Rows L2
section
variable {X:Cx}
def Pt(xs:List V)(H:Hp)(Q:VK):Prop:=∃j:Int,xs=[.int j]/\(-(2 ^ 62)<=j/\j<2 ^ 62)/\j.toNat<=kr/\∀l,H l=none->Q (.ref l) (qw H l (.lst ((az j.toNat).map λk:Nat=>V.int (0+k))))
def Jf{b:Expr}{U:TA}{p0 p x pos:Pos}(hc:X.calm=true)(gl:Gl X "list")(ml:X.mg "list" = none)(hg:Gl X "range")(hm:X.mg "range" = none)(ha:PA X [b] U)
  (Y:kA [.Call (.Name "range" p) [b] [] pos] X.env=(false,eval (.Call (.Name "range" p) [b] [] pos) X.env)::kA [] X.env:=by rfl) (J:kA [b] X.env=[(false,eval b X.env)]:=by rfl) :
  PE X (.Call (.Name "list" p0) [.Call (.Name "range" p) [b] [] pos] [] x) (Ot Pt U):=by
 intro oH s σ H Q I h;refine lW (xk I gl ml boot_list ?_ (by decide) (by decide))
 refine bR ?_ Y (by rfl)
 rw[Y];show ki _ _ (spliced ((false,eval (.Call (.Name "range" p) [b] [] pos) X.env)::mK x (kA [] X.env))) _ _ s;refine Calls.spliced_cons ?_;refine Call_ (xk I hg hm boot_range (bR (thn (ha pos oH s σ H _ I h) λus B L=>?_) J rfl))
 obtain⟨vs,H1,M,r1,j,G,⟨q3,q4⟩,hn,q⟩:=L;subst G;obtain⟨u,rfl,ru⟩:=wG r1;obtain⟨t,rfl⟩:=ru;have O:((j.toNat:Nat):Int)=Builtin.Range.rangeSize 0 j 1:=by rw[rangeSize_one];split <;> lia
 have P:j.toNat<=2 ^ 24:=by rw[kJ]at hn;exact hn
 refine call_range_1 (Calls.spliced_nil ?_);refine call_list_range (n:=j.toNat) (M.ok.hd hc) (IsRange.new ..) (small_one (by decide) (by decide) q3 q4) O.symm P λh' tk l c hk R z=>?_
 have E:(B.heap.push { cls:=.type "range", data:=.fields #[.int 0 B.toks,.int j t,.int 1 (B.toks+1)] }).objs.size=B.heap.objs.size+1:=by first|rfl|simp[Heap.push]
 dsimp only at hk R;rw[E]at R;have S:qc ((az j.toNat).map λk:Nat=>V.int (0+k)) l.toList:=by
  have hl:l.toList.length=j.toNat:=by rw[aq];exact z.1
  have key:kK l.toList ((az j.toNat).map λk:Nat=>0+(k:Int)):=C3 (by simp[hl]) λk v n G e2=>by
   rw[aw]at G;obtain⟨tv,rfl⟩:=z.2 k v G;rw[gMq]at e2;obtain⟨m,e3,e4⟩:=oMq.mp e2;obtain⟨_,e5⟩:=gSq.mp e3;rw[List.getElem_range]at e5;subst e5;subst e4;exact⟨tv,by simp⟩
  have:=L2.vals_ints key;rw[mPq]at this;exact this
 refine⟨.ref (B.heap.objs.size+1),qw H1 (B.heap.objs.size+1) (.lst _),M.laid (t':=tk) (λb o e=>hk b o (ah _ e)) (cg _) (show qR X.prog X.w _ h' _ (.lst _)from ⟨by simpa using hn,l.toList,c,S,by simpa using R⟩),by rw[E];rfl,q _ (M.hok.fresh (cg _))⟩
end
end Mr
namespace Z
open PySem L2 Mr
def Gf(a:ML):MK:=λS=>(a S).bind λx=>(CV x.1).bind λds=>vi (ds.length<=qF) (some (.ow (ds.map .sh),x.2))
section
variable {K:Ζ}{te:TE}{l:ML}
def Ri{u:TA}{a:ML}(ha:SN K u a):SK K (Ot Pt u) (Gf a):=by
 intro H₀ s Hf S σ H Y av S' R e Q q;obtain⟨x,I,e⟩:=oBq.mp e;obtain⟨ds,n,e⟩:=oBq.mp e;rcases pK e with⟨hl,e⟩|e
 .cases e;refine ha R (ds:=x.1) (S':=x.2) I _ λJ H1 Fs1 vs z B E=>?_
  unfold CV at n;split at n
  .rename_i j L;rw[L]at E;rcases pK n with⟨M,n⟩|n
   .cases n;obtain⟨v,ws,rfl,O,P⟩:=E.cons_inv;cases P.nil_inv;cases O;rw[pY]at hl;refine⟨j,rfl,M,by rw[uq];exact hl,λp G=>?_⟩
    obtain⟨U,R2,X,n2,n3⟩:=B.new (o:=.lst ((az j.toNat).map λk:Nat=>V.int (0+k))) G
    refine q _ _ _ (.ref p) [p] (z.trans U) R2 (pV.new pB X ?_) ((xB.one B G).back z);refine⟨by rw[pY,lMq,aB],λi d v t g2=>?_⟩
    have hi:i<j.toNat:=by
     have:=(gSq.mp t).1
     rwa [pY]at this
    rw[yn hi]at t;rw[gMq,dh hi]at g2;cases t;cases g2;exact .int
   .cases n
  .cases n
 .cases e
end
def GB(S:AS)(a:ML):Gf a S=(a S).bind λx=>(CV x.1).bind λds=>vi (ds.length<=qF) (some (.ow (ds.map .sh),x.2)):=rfl
end Z
namespace Z
open PySem PySem.Spec PyProof.Rows L2 Mr
section
variable {K:Ζ}
def MM(f g:D->D->Option D)(a b c:ME):ME:=λS=>(a S).bind λx=>(b x.2).bind λy=>(f x.1 y.1).bind λd=>match d with
 | .bl true=>(c y.2).bind λz=>if y.1.scal=true then (g y.1 z.1).map λd'=>(d',z.2)else none
 | .bl false=>some (.bl false,y.2)
 |_=>none
def Q9{r r':R2}{f g:D->D->Option D}{s tb t:TE}{a b c:ME}(J:CY K r f)(L:CY K r' g)(ha:SR K s a)(hb:SR K tb b)(M:SR K t c)(l:∀x y d,f x y=some d->x.scal=true):SR K (JH r r' s tb t) (MM f g a b c):=by
 intro H₀ n Hf S σ H Fs d S' R e Q q;obtain⟨x,O,e⟩:=oBq.mp e;obtain⟨y,P,e⟩:=oBq.mp e;obtain⟨k,u,e⟩:=oBq.mp e;refine ha R (d:=x.1) (S':=x.2) O _ λU H1 Fs1 v1 B X Y=>hb X (d:=y.1) (S':=y.2) P _ λHf2 H2 Fs2 v2 E R2 G=>?_
 refine J (Y.scal (l _ _ _ u)) G u λv I=>?_
 split at e
 .cases I;refine⟨true,rfl,By ?_⟩;obtain⟨z,e4,e⟩:=oBq.mp e;split at e
  .rename_i hy;obtain⟨d',e5,e⟩:=oMq.mp e;cases e;refine M R2 (d:=z.1) (S':=z.2) e4 _ λHf3 H3 Fs3 v3 t3 R3 r3=>?_
   exact L (G.scal hy) r3 e5 λw rw=>q _ _ _ w ((B.trans E).trans t3) R3 rw
  .cases e
 .cases I;cases e;exact⟨false,rfl,BM (q _ _ _ _ (B.trans E) R2 .bl)⟩
 .cases e
def VS(x y d:D)(h:A8 x y=some d):x.scal=true:=by
 cases x <;> first|rfl|cases h
def FI(f g:D->D->Option D)(a b c:ME)(S:AS):MM f g a b c S=(a S).bind λx=>(b x.2).bind λy=>(f x.1 y.1).bind λd=>match d with
 | .bl true=>(c y.2).bind λz=>if y.1.scal=true then (g y.1 z.1).map λl=>(l,z.2)else none
 | .bl false=>some (.bl false,y.2)
 |_=>none:=rfl
end
end Z
namespace Z
open PySem L2 Mr Xe
def Uz(H:Hp)(G:Δ):Hp:=λb=>if b∈G then none else H b
def Lw{H:Hp}{G:Δ}{b:Addr}(h:b∈G):Uz H G b=none:=pH h
def xN{H:Hp}{G:Δ}{b:Addr}(h:b∉G):Uz H G b=H b:=pE h
section
variable {K:Ζ}
def Wu{Hf H:Hp}{as:List AV}{vs:List V}{l:List Δ}(N:List Str)(s:pX Hf H)(r:pR K Hf H as vs l)(nd:l.flatten.Nodup) :
  pZ K (Uz H l.flatten) Hf Hf (as.map some++bu (N.length-as.length) none) (L2.vk N vs) H (l++bu (N.length-as.length) []):=by
 obtain⟨n,z,h⟩:=r;have fl:(l++bu (N.length-as.length) []).flatten=l.flatten:=by rw[fAq,tx,aNq]
 refine⟨by simp[L2.vk,n],by simp[z],λi B e=>?_,λi e=>?_,by rw[fl];exact nd,λp t=>?_,s,λb o e=>?_,λb h _=>h,pX.refl _⟩
 .by_cases hi:i<as.length
  .rw[gZq (by simpa using hi),gMq]at e
   obtain⟨a,E,G⟩:=oMq.mp e;cases G;have u:=gEg (show i<vs.length by lia)
   have x:=gEg (show i<l.length by lia)
   refine⟨_,_,?_,?_,h i B _ _ E u x⟩
   .unfold L2.vk;rw[gZq (by simpa[←n]using hi),gMq,u]
    rfl
   .rw[gZq (by lia)]
    exact x
  .rw[gYq (by simpa using hi)]at e
   have I:=dD (mGq e);cases I
 .by_cases hi:i<as.length
  .rw[gZq (by simpa using hi),gMq,gEg hi]at e
   cases e
  .have hl:=(gSq.mp e).1;rw[lAq,lMq,bT]at hl;rw[gYq (by lia),bM,pH (by lia)]
 .rw[fl]at t;exact Lw t
 .by_cases m:b∈l.flatten
  .rw[Lw m]at e;cases e
  .rw[xN m]at e;exact e
def pZ.chg{H₀ n Hf s H B:Hp}{S:AS}{σ:St}{z:List Δ}{G:Δ}(R:pZ K H₀ n Hf S σ H z)(E:∀q∈G,H₀ q=none/\q∉z.flatten)(sf:pX Hf s)(hs:∀b,b∉G->∀o,H b=some o->B b=some o)(sub:pX s B)(l:∀b,Hf b=none->H b≠none->b∉G->s b=none):pZ K H₀ n s S σ B z:=by
 have out:∀q∈z.flatten,q∉G:=λq x m=>(E q m).2 x
 refine⟨R.len,R.lenF,λi M e=>?_,R.emp,R.nd,R.fresh,sub,λb o e=>?_,λb O I=>?_,R.sf.trans sf⟩
 .obtain⟨v,F,P,J,r⟩:=R.rep i M e;refine⟨v,F,P,J,r.keep sf (λq x=>?_) λq x=>?_⟩
  .have t:=qb J x;have hn:=(R.mem t).1;cases L:H q with
   |none=>exact absurd L hn
   |some u=>exact hs q (out q t) u L
  .have t:=qb J x;exact l q (R.mem t).2 (R.mem t).1 (out q t)
 .exact hs b (λm=>by rw[(E b m).1]at e;cases e) o (R.fr b o e)
 .refine l b (R.lim b O I) (Lq R.fr I) λm=>I (E b m).1
end
section
variable {K:Ζ}{J:Θ}{te tf tb tn tp:TE}{k:MK}{b n:ME}{t u:TS}{m m' body:MS}{x y i:Nat}
def Ue{i:Nat}(hk:SW K te k):SS K (EG te (rE i)) (oY i k):=by
 intro H₀ l Hf S σ H M o R e D h;obtain⟨x,s,e⟩:=oMq.mp e;cases e;exact hk R (a:=x.1) (S':=x.2) s _ λz O Fs1 v F B E G I L=>h _ _ _ _ B (E.set i G I L)
end
abbrev YW:=List AV->Option AV
def Nb(l n:Nat)(m:MS):YW:=λas=>if as.length=l then (m (as.map some++bu (n-as.length) none)).bind λo=>match o with
  | .rt a=>some a
  | .nx _=>some (.sh .non)
  |_=>none
 else none
def T3(K:Ζ)(f:YW):Sp:=λvs H Q _=>∃(Hf:Hp) (as:List AV) (n:List Δ) (r:AV),pX Hf H/\pR K Hf H as vs n/\n.flatten.Nodup/\f as=some r /\
 ∀l s v F,pX Hf l->(∀b,b∉n.flatten->∀o,H b=some o->s b=some o)->pX l s->(∀b,Hf b=none->H b≠none->b∉n.flatten->l b=none)->pV K l s r v F->F.Nodup->(∀q∈F,H q=none∨q∈n.flatten)->Q v s
section
variable {K:Ζ}{t:TS}{m:MS}{np n:Nat}{vs:List V}{H:Hp}{Q:VK}{E:XK}
def NM(N:List Str)(h:SS K t m)(hs:T3 K (Nb np N.length m) vs H Q E):t { nx:=λ_ x=>Q .non x,rt:=Q } (L2.vk N vs) H:=by
 obtain⟨Hf,as,B,r,s,M,nd,e,q⟩:=hs;have un:∀q,Uz H B.flatten q=none->H q=none∨q∈B.flatten:=λq h=>by
  by_cases m:q∈B.flatten
  .exact .inr m
  .rw[xN m]at h;exact .inl h
 unfold Nb at e;split at e
 .obtain⟨o,O,z⟩:=oBq.mp e;refine h (Wu N s M nd) O _ ?_;cases o with
  |rt a'=>
   cases z;exact λu x v F J P S l r nd fr=>q u x v F J (λb hb o e=>P b o (by rw[xN hb];exact e)) S (λb G I hb=>l b G (by rw[xN hb];exact I)) r nd λq U=>un q (fr q U)
  |nx L=>
   cases z;exact λu X x Y J R=>q u x .non [] R.sf (λb hb o e=>R.fr b o (by rw[xN hb];exact e)) R.sub (λb G I hb=>R.lim b G (by rw[xN hb];exact I)) (.sh .non) bw λq h=>(by cases h)
  |bk L=>cases z
  |ct L=>cases z
 .cases e
def TC(hs:T3 K (Nb np n m) vs H Q E):vs.length=np:=by
 obtain⟨Hf,u,x,r,s,l,nd,e,q⟩:=hs;unfold Nb at e;split at e
 .rename_i h;rw[←l.1,h]
 .cases e
def Gu(f:YW)(a:MA):MK:=λS=>(a S).bind λx=>(f x.1).map λr=>(r,x.2)
def LG(f:YW)(a:MA)(S:AS):Gu f a S=(a S).bind λx=>(f x.1).map λr=>(r,x.2):=rfl
def Qe{f:YW}{J:TA}{a:MA}(ha:SA K J a):SW K (FR (T3 K f) [] E0 J) (Gu f a):=by
 intro H₀ B Hf S σ H Fs M S' R e Q q;obtain⟨x,O,e⟩:=oBq.mp e;obtain⟨r,P,e⟩:=oMq.mp e;cases e;refine ha R (as:=x.1) (S':=x.2) O _ λG H1 Fs1 vs U X u Y s=>?_
 rw[aNq];refine⟨G,x.1,U,M,u.sub,Y,s.nd,P,λI H' v F sf hs sub l rv nd new=>?_⟩
 have R2:=u.chg (λq L=>⟨s.fr q L,s.out q L⟩) sf hs sub l
 refine q I H' Fs1 v F (X.sf.trans sf) R2 rv nd λp hp=>?_
 rcases new p hp with z|z
 .exact⟨u.fr.free z,λm=>(u.mem m).1 z⟩
 .exact⟨s.fr p z,s.out p z⟩
def QY(f:D->Option D)(m:ME):ME:=λS=>(m S).bind λx=>(f x.1).bind λz=>if z.scal=true then some (z,x.2)else none
def Oz(f:D->Option D)(m:ME)(S:AS):QY f m S=(m S).bind λx=>(f x.1).bind λz=>if z.scal=true then some (z,x.2)else none:=rfl
def VT{r:V->Hp->VK->Prop}{f:D->Option D}{s:TE}{m:ME}(hr:UnD K r f)(ha:SM K s m):SM K (tUn r s) (QY f m):=by
 intro H₀ l Hf S σ H O d P R e Q q;obtain⟨x,B,e⟩:=oBq.mp e;obtain⟨z,G,e⟩:=oBq.mp e;split at e
 .rename_i hs;cases e;exact ha R (d:=x.1) (S':=x.2) B _ λI U Fs1 X J u L=>hr (L.mono u.sub) G λv M=>q _ _ _ v J u (M.scal hs)
 .cases e
end
end Z
namespace Z
open PySem PySem.Spec PyProof.Rows L2 Mr Xe
section
variable {X:Cx}
def Fy:uf X (.type "int") (λxs H Q=>∃b,xs=[.bl b]/\Q (.int (if b=true then 1 else 0)) H):=by
 intro n s σ H xs t Q I r h;obtain⟨b,rfl,q⟩:=h;obtain⟨u,rfl,l⟩:=wG r;cases l;exact call_int_bool ⟨.int (if b=true then 1 else 0),H,I.tok _,⟨_,rfl⟩,q⟩
end
def Dq:List D->Option D
 | [.bl b]=>some (.int (if b=true then 1 else 0))
 |_=>none
def P2(b:Bool):Dq [.bl b]=some (.int (if b=true then 1 else 0)):=rfl
def U1{K:Ζ}:Oy K (λxs H Q=>∃b,xs=[.bl b]/\Q (.int (if b=true then 1 else 0)) H) Dq:=by
 intro s H Q t d r e q;unfold Dq at e;split at e
 .obtain⟨v,u,rfl,l,n⟩:=r.cons_inv;rw[n.nil_inv];cases l;cases e;exact⟨_,rfl,q _ .int⟩
 .cases e
end Z
namespace Z
open PySem L2 Mr Xe
def GW(k l:MK)(fr:Θ)(tf:MT)(te:MK):MK:=λS=>(sQ k S).bind λy=>(sQ l y.2).bind λw=>(qU (oP y.1)).bind λds=>(qU (oP w.1)).bind λes=>(fzAll fr w.2).bind λs=>(Cd s fr).bind λcap=>vi (ds.length=es.length/\ds.length<=qF) ((uh tf te cap (ds.zip es)).map λn=>(.ow n,s))
def La(S:AS)(k l:MK)(fr:Θ)(tf:MT)(te:MK):GW k l fr tf te S=(sQ k S).bind λy=>(sQ l y.2).bind λw=>(qU (oP y.1)).bind λds=>(qU (oP w.1)).bind λes=>(fzAll fr w.2).bind λs=>(Cd s fr).bind λcap=>vi (ds.length=es.length/\ds.length<=qF) ((uh tf te cap (ds.zip es)).map λn=>(.ow n,s)):=rfl
section
variable {K:Ζ}{tf:TT}{te:TE}{mf:MT}{me:MK}{fr:Θ}
def RS{tl J:TE}{k l:MK}(hk:SK K tl k)(hm:SK K J l)(hf:ED K tf mf)(he:SK K te me):SK K (Kp K (WB K (tL tl (tL J xE))) fr tf te) (GW k l fr mf me):=by
 intro H₀ U Hf S σ H Fs av S' R e Q q;obtain⟨z,e0,e⟩:=oBq.mp e;obtain⟨w,E,e⟩:=oBq.mp e;obtain⟨L,e2,e⟩:=oBq.mp e;obtain⟨es,G,e⟩:=oBq.mp e;obtain⟨S2,e3,e⟩:=oBq.mp e;obtain⟨cap,e4,e⟩:=oBq.mp e;rcases pK e with⟨⟨n,hl⟩,e⟩|e
 .obtain⟨avs,e5,e⟩:=oMq.mp e;cases e;have X:SK K tl (sQ k):=SK.frz hk;have Y:SK K J (sQ l):=SK.frz hm;refine X R (a:=z.1) (S':=z.2) e0 _ λHf1 H1 Fs1 v F t1 R1 r1 o1=>Y R1 (a:=w.1) (S':=w.2) E _ λHf2 H2 Fs2 v2 F2 t2 R2 r2 o2=>?_
  obtain⟨d,hd⟩:=wu (te:=tl) e0;obtain⟨d2,I⟩:=wu (te:=J) E;rw[hd]at r1;rw[hd,pW]at e2;rw[I]at r2;rw[I,pW]at G;obtain⟨Hf3,Fs3,M,R3⟩:=R2.fzAll e3;obtain⟨a,u,rfl,O,g2⟩:=uO e2 ((r1.sh_inv.2.mono t2.sf).mono M.sf);obtain⟨b,B,rfl,P,g4⟩:=uO G (r2.sh_inv.2.mono M.sf);have lz:(L.zip es).length=L.length:=by rw[jt,n,jJ]
  have lv:u.length=L.length:=g2.1.symm;have lw:B.length=L.length:=by rw[←g4.1,n]
  refine⟨a,b,rfl,⟨u,R3.sub.seq O⟩,⟨B,R3.sub.seq P⟩,JM (K:=K) hf he R3 e4 (by rw[lz];exact hl) e5 (λi H s hi=>⟨u,B,u[i]'(by lia),B[i]'(by lia),s.seq O,s.seq P,gEg (by lia),gEg (by lia)⟩) (λH s=>⟨u,B,s.seq O,s.seq P,by lia⟩) (λi H x H' s hi y=>?_) λHf' H' v F t R' r o=>q _ _ _ v F (((t1.trans t2).trans M).trans t) R' r (o.back ((t1.trans t2).trans M))⟩
  obtain⟨T,x',y',hT,rfl,rfl,hx,hy⟩:=y;obtain⟨di,h1,h2⟩:=g2.get' (hx u (s.seq O));obtain⟨ei,h3,h4⟩:=g4.get' (hy B (s.seq P));refine⟨T,x',y',(di,ei),rfl,C5.of pB,?_,h2,h4,.inr ⟨_,hT,rfl⟩⟩;rw[eP];exact⟨h1,h3⟩
 .cases e
end
end Z
namespace Z
open PySem PySem.Spec PyProof.Rows L2 Mr Xe
section
variable {X:Cx}{a b:Expr}{ta tb:TE}{pos:Pos}{sU:List Expr}
def aam(K:Ζ)(ta tb:TE):TE:=λσ H Q=>ta σ H λx l=>∃k,T5 K x l k/\if k=true then Q x l else tb σ l Q
def Xp(ha:PE X a ta)(hb:PE X (.BoolOp .Or (b::sU) pos) tb):PE X (.BoolOp .Or (a::b::sU) pos) (aam X.K ta tb):=by
 intro n s σ H Q I h;refine BoolOp_or (thn (ha n s σ H _ I h) λv G t=>?_)
 obtain⟨x,J,L,z,k,M,B⟩:=t;refine thn (QB n G σ J x v (λc l=>(c=true->Q x l)/\(c=false->tb σ l Q)) L z ⟨k,M,?_⟩) λc O u=>?_
 .cases k with
  |true=>exact⟨λ_=>B,λh=>by cases h⟩
  |false=>exact⟨λh=>(by cases h),λ_=>B⟩
 .obtain⟨l,E,P,R⟩:=u;cases c with
  |false=>exact hb n O σ l Q E (R rfl)
  |true=>exact⟨x,l,E,z,P rfl⟩
end
section
variable {K:Ζ}{ta tb:TE}{k l:MK}
def XY(k l:MK):MK:=λS=>(k S).bind λx=>match x.1 with
 | .ow n=>if n.isEmpty=true then l x.2 else some x
 |_=>none
def VP(k l:MK)(S:AS):XY k l S=(k S).bind λx=>match x.1 with
 | .ow n=>if n.isEmpty=true then l x.2 else some x
 |_=>none:=rfl
def W1(ha:SK K ta k)(hb:SK K tb l):SK K (aam K ta tb) (XY k l):=by
 intro H₀ z Hf S σ H Fs s t R e Q q;obtain⟨x,B,e⟩:=oBq.mp e;refine ha R (a:=x.1) (S':=x.2) B _ λJ H1 Fs1 v F E G u L=>?_
 split at e
 .rename_i n I;rw[I]at u;obtain⟨p,M,Gs,rfl,rfl,O,h2,P⟩:=u.ow_inv;refine⟨!n.isEmpty,.inl ⟨M,rJ.of O,wL P.1⟩,?_⟩;cases c:n.isEmpty with
  |true=>
   rw[c]at e;have e:l x.2=some (s,t):=e;refine BM ?_;exact hb G (a:=s) (S':=t) e _ λU H2 Fs2 v2 F2 X R2 Y o2=>q _ _ _ _ _ (E.trans X) R2 Y (o2.back E)
  |false=>
   rw[c]at e;have e:x=(s,t):=aO.inj e;refine By ?_;have B:x.1=s:=by rw[e]
   have e2:x.2=t:=by rw[e]
   rw[←I,B]at u;rw[e2]at G;exact q _ _ _ _ _ E G u L
 .cases e
end
end Z
namespace Mr
open PySem PySem.W PySem.Spec PyProof.Rows L2
section
variable {X:Cx}{scope:kY}{cl:List (Str×Addr)}{N:List Str}{fr:Θ}{x x2:Str}{px px2 pos tp:Pos}{tk:Nat}{elt iter:Expr}{ifs:List Expr}{tf:TT}{te:TE}
def QH{wi:TI}{y:Str}{i:Nat}{py B:Pos}(hc:X.calm=true)(hN:X.N.Nodup)(YT:X.N[i]?=some y)(R:VL X.env.scope y)(E:og scope X.env=pure cl)(G:∀y∈scope.names,y.2 ≠ .cell)(l:scope.kind = .function)
  (n:∀y∈scope.names,y.2 = .local->scope.names.lookup y.1=some .local)
  (hx:scope.names.lookup x=some .local) (hy:scope.names.lookup x2=some .local) (hF:AE X scope cl x x2 N fr) (hi:PI X (.Tuple [.Name x px,.Name x2 px2] tk tp) iter wi) (hf:∀C s H fp,PF (qK X scope cl N C s H fp) ifs tf) (he:∀C s H fp,PE (qK X scope cl N C s H fp) elt te)
  (S:mZ (.ListComp elt [⟨.Tuple [.Name x px,.Name x2 px2] tk tp,iter,ifs,0⟩] scope pos) (some (.Name y py)) B.line X.env=pure true:=by rfl) (hs:∀x,mj iter X.env x=pure x:=by intro _;rfl)
  (U:X.fn y=true∨X.env.scope.names.lookup y=some .local:=by trivial) :
  PS X (.Assign [.Name y py] (.ListComp elt [⟨.Tuple [.Name x px,.Name x2 px2] tk tp,iter,ifs,0⟩] scope pos) B) (EG (Kp X.K wi fr tf te) (rE i)):=by
 intro O s σ H D I h;rw[nK _ _ _ _ S];refine jZ (oi (jZ ?_));show ki _ X.A (do let _ ←comprehension (.ListComp elt [⟨.Tuple [.Name x px,.Name x2 px2] tk tp,iter,ifs,0⟩] scope pos) scope X.env _ (nq []) false (eval iter X.env) (some (nc (.Name y py) X.env))) _ _ s
 refine jZ (kM (lK (use:=some (nc (.Name y py) X.env)) (Q:=λ_ L=>SP X O D .next L) rfl hs E l n
  (thn (hi O s σ H _ I h) λv s1 h1=>thn h1 λitv s2 h2=>?_)) (λ_ L hq=>kf (kf hq)) λ_ _ e=>e)
 obtain⟨it,fp,tn,J,H2,e,P,T,CZ,f2,Y⟩:=h2;subst e;refine CH (RR:=λt C=>compPost (kj X.prog X.w) X.A X.xe (some (nc (.Name y py) X.env)) (λ_ L=>SP X O D .next L) t C) (Q:=λv H'=>D.nx (σ.set i (some v)) H') hc G l hx hy hF hf he P T CZ f2 Y ?_
 intro t C L Hf m I' hm M q;obtain⟨o,es,ep,ho,hd,r⟩:=id hm;have I1:Inv X (O++[(C,o)]) σ Hf L:=I'.pins_of λp hp=>(mAq.mp hp).elim (λz=>I'.pin p (aj _ z)) λz=>by
  have e:p=(C,o):=by simpa using z
  subst e;exact⟨ho,M.1,M.2.1,M.2.2.1,λv z=>by rw[hd]at z;cases z⟩
 refine thn (Ai (X:=X) (i:=i) (pos:=py) hN YT R U _ L σ Hf (.ref t) (.ref t) _ I1 rfl q) λ_ s2 hz1=>?_
 obtain⟨σ2,H2,P,Y⟩:=hz1;have pC:=P.pin (C,o) (aj _ (aj _ (by simp)))
 refine⟨m,⟨o,es,ep,pC.1,hd,r⟩,λh' sb=>⟨σ2,H2,?_,Y⟩⟩
 exact P.unpinned.turned (t':=s2.toks) (λb u hb e=>(sb.2 b hb).trans e) pC.2.1 M.2.1 M.2.2.2.1 M.2.2.2.2.1 M.2.2.2.2.2
end
end Mr
namespace Xe
open PySem PySem.Spec PyProof.Rows L2 Mr
variable {X:Cx}{a b c d:Expr}{ta tb tc td:TE}{pos:Pos}
def Mf(r r' l:R2)(ta tb tc td:TE):TE:=λσ H Q=>ta σ H λx t=>tb σ t λy u=>r x y u λz n=>∃k,z = .bl k /\
 (if k=true then tc σ n λw H4=>r' y w H4 λB H5=>∃s,B = .bl s/\(if s=true then td σ H5 λE H6=>l w E H6 Q else Q (.bl false) H5)else Q (.bl false) n)
def FN{op n l:CmpOp}{r r' B:R2}(ho:BZ X (kG op) r)(G:BZ X (kG n) r')(E:BZ X (kG l) B)(ha:PE X a ta)(hb:PE X b tb)(hc:PE X c tc)(hd:PE X d td)
  (hm:lastMarks [op,n,l] [b,c,d]=false:=by with_unfolding_all rfl):PE X (.Compare a [op,n,l] [b,c,d] pos) (Mf r r' B ta tb tc td):=by
 intro t s σ H Q I h;refine Compare_chain (thn (ha t s σ H _ I h) λv s1 ⟨x,H1,I1,r1,q1⟩=>chain_link (thn (hb t s1 σ H1 _ I1 q1) λu s2 ⟨y,H2,I2,J,q2⟩=>
  thn (ho t s2 σ H2 x y v u _ I2 r1 J q2) λd s3 ⟨z,L,M,r3,k,e,O⟩=>?_)) hm
 subst e;cases r3;refine kF ?_;cases k with
 |false=>exact ite_ff ⟨.bl false,L,M,rfl,O⟩
 |true=>
  refine ite_tt (chain_link (thn (hc t s3 σ L _ M O) λP s4 ⟨R,H4,I4,S,q4⟩=>thn (G t s4 σ H4 y R u P _ I4 J S q4) λd' s5 ⟨z2,H5,U,r5,k',e',Y⟩=>?_))
  subst e';cases r5;refine kF ?_;cases k' with
  |false=>exact ite_ff ⟨.bl false,H5,U,rfl,Y⟩
  |true=>exact ite_tt (chain_last (thn (hd t s5 σ H5 _ U Y) λw2 s6 ⟨z3,H6,I6,r6,q6⟩=>E t s6 σ H6 R z3 P w2 Q I6 S r6 q6))
end Xe
namespace Z
open PySem L2 Mr Xe
def DZ(f g h:D->D->Option D)(a b c d:ME):ME:=λS=>(a S).bind λx=>(b x.2).bind λy=>(f x.1 y.1).bind λk=>match k with
 | .bl true=>(c y.2).bind λz=>if y.1.scal=true then (g y.1 z.1).bind λl=>match l with
   | .bl true=>(d z.2).bind λw=>if z.1.scal=true then (h z.1 w.1).map λd'=>(d',w.2)else none
   | .bl false=>some (.bl false,z.2)
   |_=>none
  else none
 | .bl false=>some (.bl false,y.2)
 |_=>none
section
variable {K:Ζ}
def Uc{r r' l:R2}{f g h:D->D->Option D}{E tb G I:TE}{a b c d:ME}(X:CY K r f)(Y:CY K r' g)(hh:CY K l h)(ha:SR K E a)(hb:SR K tb b)(hc:SR K G c)(hd:SR K I d)(n:∀x y d,f x y=some d->x.scal=true):SR K (Mf r r' l E tb G I) (DZ f g h a b c d):=by
 intro H₀ s Hf S σ H Fs dd S' R e Q q;obtain⟨x,e1,e⟩:=oBq.mp e;obtain⟨y,e2,e⟩:=oBq.mp e;obtain⟨k,J,e⟩:=oBq.mp e;refine ha R (d:=x.1) (S':=x.2) e1 _ λHf1 H1 Fs1 v1 t R1 r1=>hb R1 (d:=y.1) (S':=y.2) e2 _ λHf2 H2 Fs2 v2 u R2 L=>?_
 refine X (r1.scal (n _ _ _ J)) L J λv M=>?_
 split at e
 .cases M;refine⟨true,rfl,By ?_⟩;obtain⟨z,e4,e⟩:=oBq.mp e;split at e
  .rename_i hy;obtain⟨k',e5,e⟩:=oBq.mp e;refine hc R2 (d:=z.1) (S':=z.2) e4 _ λHf3 H3 Fs3 v3 O P U=>?_
   refine Y (L.scal hy) U e5 λw rw=>?_
   split at e
   .cases rw;refine⟨true,rfl,By ?_⟩;obtain⟨z2,e6,e⟩:=oBq.mp e;split at e
    .rename_i hz;obtain⟨d',e7,e⟩:=oMq.mp e;cases e;refine hd P (d:=z2.1) (S':=z2.2) e6 _ λHf4 H4 Fs4 v4 t4 R4 r4=>?_
     exact hh (U.scal hz) r4 e7 λw2 B=>q _ _ _ w2 (((t.trans u).trans O).trans t4) R4 B
    .cases e
   .cases rw;cases e;exact⟨false,rfl,BM (q _ _ _ _ ((t.trans u).trans O) P .bl)⟩
   .cases e
  .cases e
 .cases M;cases e;exact⟨false,rfl,BM (q _ _ _ _ (t.trans u) R2 .bl)⟩
 .cases e
def aaA(x y d:D)(h:B0 x y=some d):x.scal=true:=by
 cases x <;> first|rfl|cases h
def Xw(f g h:D->D->Option D)(a b c d:ME)(S:AS):DZ f g h a b c d S=(a S).bind λx=>(b x.2).bind λy=>(f x.1 y.1).bind λk=>match k with
 | .bl true=>(c y.2).bind λz=>if y.1.scal=true then (g y.1 z.1).bind λl=>match l with
   | .bl true=>(d z.2).bind λw=>if z.1.scal=true then (h z.1 w.1).map λn=>(n,w.2)else none
   | .bl false=>some (.bl false,z.2)
   |_=>none
  else none
 | .bl false=>some (.bl false,y.2)
 |_=>none:=rfl
end
end Z
namespace Mr
open PySem PySem.Spec PyProof.Rows L2
section
variable {X:Cx}{pos:Pos}{i:Nat}{x:Str}{N P:List Str}{sc:kY}
def qi{e:Expr}{te:TE}{l:Pos}(S:oZ N P sc)(n:PE X e te)(s:X.N=N:=by rfl)(hi:X.N[i]?=some x:=by rfl)(t:VL X.env.scope x:=by first|exact jc rfl|exact gQ rfl)(hs:mZ e (some (.Name x l)) pos.line X.env=pure false:=by rfl)(u:X.fn x=true∨X.env.scope.names.lookup x=some .local:=by trivial) :
  PS X (.Assign [.Name x l] e pos) (EG te (rE i)):=YK (s ▸ S.nd) hi t n hs u
def xR(S:oZ N P sc)(l:X.N=N:=by rfl)(hi:X.N[i]?=some x:=by rfl)(n:VL X.env.scope x:=by first|exact jc rfl|exact gQ rfl)(s:X.fn x=true∨X.env.scope.names.lookup x=some .local:=by trivial):PG X (.Name x pos) (rE i):=Ai (l ▸ S.nd) hi n s
end
section
variable {X:Cx}{k n:Nat}{f:Addr}{fd:kH}{ps:List Str}{sp:Sp}{x:Str}{p pos:Pos}{e:Expr}{es:List Expr}{t:TA}{st:Stmt}
def rX(G:Fn X.prog X.w X.K X.mg X.base k x st ps sp f fd)(hr:uW n X.A)(ha:PA X (e::es) t)(hk:k<=n:=by decide)(u:Gl X x:=by rfl)(l:(x == ("__debug__" : Str))=false:=by decide)
  (z:kA (e::es) X.env=(false,eval e X.env)::kA es X.env:=by rfl) (s:(mK pos (kA es X.env)).any (·.1)=false:=by rfl) :
  PE X (.Call (.Name x p) (e::es) [] pos) (FR sp [] E0 t):=Z0 G (hr.mono hk) ha u l z s
end
def sC{N P:List Str}{l:kY}(a:l.kind = .function:=by rfl)(b:l.isCoroutine=false:=by rfl)(c:l.isGenerator=false:=by rfl)(d:N.Nodup:=by trivial)(e:N.take P.length=P:=by rfl)(f:∀x∈P,l.names.lookup x=some .local∨l.names.lookup x=some .cell:=by trivial)(g:∀y∈l.names,y.2 ≠ .free:=by trivial):oZ N P l:=⟨a,b,c,d,e,f,g⟩
def VD{P:ku}{w:ky}{K:Ζ}{mg:Str->Υ}{base:Heap}{k:Nat}{x:Str}{st:Stmt}{ps N:List Str}{f:Addr}{fd:kH}{m:Z.MS}(D:xX K mg x st ps f fd)(S:oZ N ps (oN st))
  (h:∀(l:Value) (A:Around) (outer:List Env) (s:Shared) (H:Hp) (E:XK),uW k (A.deeper (mh x (oN st) s.heap.objs.size f l))->(A.deeper (mh x (oN st) s.heap.objs.size f l)).units+64<lB->(A.deeper (mh x (oN st) s.heap.objs.size f l)).units+65<lB ->
   ∃t,Jr (Hx Tw P w K mg base N x (oN st) f l A outer s H E).nox (tV st) t/\Z.SS K t m):Fn P w K mg base (k+1) x st ps (Z.rO K (Z.rQ ps.length N.length m)) f fd:=
 ⟨D,D.F.ok S (λn H Q E h=>Z.Re h) λl A outer s H n Q E hr hh=>by
  obtain⟨t,a,b⟩:=h l A outer s H E hr hr.units (uW.units65 hr);exact⟨t,a,Z.HL N b hh⟩⟩
def Cv{P:ku}{w:ky}{K:Ζ}{mg:Str->Υ}{base:Heap}{k:Nat}{x:Str}{st:Stmt}{ps N:List Str}{f:Addr}{fd:kH}{m:Z.MS}(D:xX K mg x st ps f fd)(S:oZ N ps (oN st))
  (h:∀(l:Value) (A:Around) (outer:List Env) (s:Shared) (H:Hp) (E:XK),oZ N ps (oN st)->uW k (A.deeper (mh x (oN st) s.heap.objs.size f l))->(A.deeper (mh x (oN st) s.heap.objs.size f l)).units+64<lB->(A.deeper (mh x (oN st) s.heap.objs.size f l)).units+65<lB ->
   ∃t,Z.SS K t m/\Jr (Hx Tw P w K mg base N x (oN st) f l A outer s H E).nox (tV st) t):Fn P w K mg base (k+1) x st ps (Z.rO K (Z.rQ ps.length N.length m)) f fd:=
 ⟨D,D.F.ok S (λn H Q E h=>Z.Re h) λl A outer s H n Q E hr hh=>by
  obtain⟨t,b,a⟩:=h l A outer s H E S hr hr.units (uW.units65 hr);exact⟨t,a,Z.HL N b hh⟩⟩
def Xh{X:Cx}{i o:Expr}{ty l:TE}{pos:Pos}(n:X.A.units+1<lB)(hi:PE X i ty)(s:PE X o l)(t:mC .NotIn o=false):PT X (.Compare i [.NotIn] [o] pos) (tB (FZ ty l)):=KU (FE n hi s) t
end Mr
namespace Mr
open PySem L2
variable {K:Ζ}{h:Heap}{mg:Str->Υ}{x z:Str}{st:Stmt}{f O:Addr}{fd:kH}
structure At (K:Ζ)(x:Str)(st:Stmt)(f:Addr)(fd:kH):Prop where
 a:W.nsIn K kx x=some (some (.ref f))
 F:Vp K x x st f fd
section
variable {oc kV doc pm wC ct:Value}{od an:Option Addr}{osl:Array Υ}
def Zt(a:W.nsIn K kx x=some (some (.ref f)))(l:K.lookup f=some ⟨oc,od,.func (W.fnOf x x (vE st) (tV st) (oN st) .none kV doc pm an wC ct),osl⟩)
  (c:W.codeIn K wC x=true) (k:W.keepIn K (.ref f)=true):At K x st f (W.fnOf x x (vE st) (tV st) (oN st) .none kV doc pm an wC ct):=⟨a,JQ l c k⟩
end
abbrev BA(x q:Str)(st:Stmt)(ps:List Str)(n:Ξ):Prop:=∀(kV l pm:Value) (s:Option Addr) (t ct:Value),bindArgs (W.fnOf x q (vE st) (tV st) (oN st) .none kV l pm s t ct) ⟨n,[]⟩=pure (ps.zip n)
section
variable {q a b c d:Str}(F:Vp K x q st f fd)
include F
def b1(h:∀u,BA x q st [a] [u]:=by exact λ_ _ _ _ _ _ _=>rfl):Av K fd [a] []:=F.binds λ_ _ _ _ _ _ n hl=>by
 obtain - | ⟨u, - | ⟨v,l⟩⟩:=n <;> cases hl
 apply h
def b2(h:∀u v,BA x q st [a,b] [u,v]:=by exact λ_ _ _ _ _ _ _ _=>rfl):Av K fd [a,b] []:=F.binds λ_ _ _ _ _ _ n hl=>by
 obtain - | ⟨u, - | ⟨v, - | ⟨w,l⟩⟩⟩:=n <;> cases hl
 apply h
def b3(h:∀u v w,BA x q st [a,b,c] [u,v,w]:=by exact λ_ _ _ _ _ _ _ _ _=>rfl):Av K fd [a,b,c] []:=F.binds λ_ _ _ _ _ _ n hl=>by
 obtain - | ⟨u, - | ⟨v, - | ⟨w, - | ⟨y,l⟩⟩⟩⟩:=n <;> cases hl
 apply h
end
def Ag{ps:List Str}(X:K.In h)(G:h.Ns kx mg)(a:At K x st f fd)(b:Av K fd ps []):xX K mg x st ps f fd:=⟨a.F,W.mg_of X G a.a,b⟩
end Mr
namespace Zl
open PySem L2 Mr Z
def BX:MS:=(oQ (A5 (ug (pO B0 (uY rH (oJ (oI 0) oS)) (rC (.int 0)))) (rm (rY pP)) rG)
 (oQ (oY 1 (kSc (YS "list" xA (oI 0) (oJ (uY N7 (oJ (oI 0) oS)) oS))))
 (rm (QQ (lOf (SC (vh 0) (yQ (oI 1)) Cs)) (lOf (SC (vh 0) Cs (yQ (oI 1))))))))
def xP:MF:=rQ 1 2 BX
def vZ:MS:=(Qd 1 (HC 2))
def BQ:MS:=(oQ (oY 1 (rY pP))
 (oQ (wD 2 (oX 0) vZ)
 (rm (zE 1))))
def xf:MF:=rQ 1 3 BQ
def yi:MS:=(oQ (A5 (ug (pO A8 (oI 1) (uY rH (oJ (oI 0) oS)))) (rm (kSc (pO E7 (oI 0) (oI 1)))) rG)
 (rm (kSc (rC (.int 0)))))
def oV:MF:=rQ 2 2 yi
def xF:MS:=(rm (Gh (wU (Dp (oX 0)) [] sJ (ql Zl.xP (oW (oX 0) pP)))))
def tQ:MF:=rQ 1 1 xF
def Ex:MS:=(rm (KD (lOf (ql Zl.xf (oW (oX 0) pP)))))
def xI:MF:=rQ 1 1 Ex
def CC:MS:=(rm (wU (Dp (ql Zl.xI (oW (oX 0) pP))) [] (ug (pO Oq (oI 0) (rC (.int 0)))) (oX 0)))
def wg:MF:=rQ 1 1 CC
def vV:MS:=(xW 1 (oI 4) (oX 2))
def we:MS:=(wD 4 (oX 3) vV)
def Ba:MS:=(oQ (oY 1 zi)
 (oQ (HA 2 3 (oX 0) we)
 (rm (zE 1))))
def sL:MF:=rQ 1 5 Ba
def wQ(ns:Ϝ){k:Int}(h:0<=k):oV [.scr ns,.int k]=i3 (cell ns k.toNat):=by
 by_cases c:k<(ns.length:Int)
 .have hk:k.toNat<ns.length:=by lia
  have e:ns.getD k.toNat 0=ns[k.toNat]:=wR hk
  simp_arith [oV,yi,c,Ma h,gEg hk,cell,e]
 .have hk:ns.length<=k.toNat:=by lia
  have e:ns.getD k.toNat 0=0:=by rw[gDq,bo hk];rfl
  simp_arith [oV,yi,c,cell,e]
def V1(ns:Ϝ):oV [.scr ns,.int 0]=i3 (cell ns 0):=wQ ns (by decide)
def Zf(ns:Ϝ):oV [.scr ns,.int 1]=i3 (cell ns 1):=wQ ns (by decide)
def aar(ns:Ϝ):oV [.scr ns,.int 2]=i3 (cell ns 2):=wQ ns (by decide)
def FJ{n:Int}{ns:Ϝ}:ns.foldl min n∈n::ns/\∀x∈n::ns,ns.foldl min n<=x:=⟨xu ns n,λx l=>(ae.mp l).elim (λe=>e ▸ (vD ns n).1) ((vD ns n).2 x)⟩
def Nj{ns:Ϝ}(hl:ns.length<=500000):xP [dI ns]=some (aI (good ns)):=by
 cases ns with
 |nil=>
  have t:((0:Nat):Int)=0:=rfl
  simp_arith [xP,BX,t]
  rfl
 |cons n ns=>
  obtain⟨t,x⟩:=FJ (n:=n) (ns:=ns);have e:=ze t x;have l:=Ds (n::ns);have u:¬ ((n::ns).length:Int)=0:=by simp only[lCq];lia
  have z:N7 [dI (n::ns)]=some (.int (ns.foldl min n)):=by
   show(qJ ((n::ns).map D.int)).bind (λns=>(Hj ns).map D.int)=_
   rw[rB];rfl
  have B:xA (dI (n::ns)) [.int (ns.foldl min n)]=some (.int (pQ (n::ns) (n::ns).length:Nat)):=by
   show(qJ ((n::ns).map D.int)).bind _=_;rw[rB];show(if _ then _ else _)=_
   rw[pH t,e]
  generalize E:n::ns=N at *;have s:(N.drop (pQ N N.length)).length+(N.take (pQ N N.length)).length<=qF:=by rw[aQ,lTq];show _<=16777216;lia
  simp_arith [xP,BX,u,z,B,xK,G7 N _ l,B7 N _ l,s,←mBq,Dl]
  rfl
def rh{rs:Λ}{i:Nat}{r:Ϝ}(h:rs[i]?=some r):(rs.take (i+1)).flatten=(rs.take i).flatten++r:=by
 rw[bF,h,fAq];simp
def tU(rs:Λ)(i:Nat):(rs.take i).flatten.length<=rs.flatten.length:=by
 have:=congrArg bV (congrArg List.flatten (aS i rs));rw[fAq,lAq]at this;lia
def Dk{rs:Λ}{i:Nat}{d:D}(h:(rs.map dI)[i]?=some d):∃r,rs[i]?=some r/\d=dI r:=by
 rw[gMq]at h;obtain⟨r,l,n⟩:=oMq.mp h;exact⟨r,l,n.symm⟩
def G5{ns:Ϝ}{i:Nat}{d:D}(h:(ns.map D.int)[i]?=some d):∃z,ns[i]?=some z/\d = .int z:=by
 rw[gMq]at h;obtain⟨r,l,n⟩:=oMq.mp h;exact⟨r,l,n.symm⟩
def Ve{rs:Λ}(hl:rs.flatten.length<=500000):xf [dM rs]=some (aI rs.flatten):=by
 have key:=rZ (x:=2) (body:=vZ) (λi S=>∃v,S=[some (.sh (dM rs)),some (aI (rs.take i).flatten),v]) (ds:=rs.map dI) (S:=[some (.sh (dM rs)),some (.ow []),none]) ⟨none,by simp⟩ (by
  rintro i d S hd ⟨v,rfl⟩;obtain⟨r,hr,rfl⟩:=Dk hd;have l:=rh hr;have n:=tU rs (i+1);rw[l,lAq]at n;have s:(rs.take i).flatten.length+r.length<=qF:=by show _<=16777216;lia
  refine⟨_,?_,some (.sh (dI r)),rfl⟩;rw[l]
  simp_arith [vZ,s,Dl,←mBq])
 obtain⟨t,e,v,rfl⟩:=key;rw[lMq,aE]at e
 simp_arith [xf,BQ,e]
def DF{rs:Λ}{d:D}(h:d∈rs.map dI):∃r∈rs,d=dI r:=by
 obtain⟨r,l,n⟩:=mMq.mp h;exact⟨r,l,n.symm⟩
def A4:D->Ϝ
 | .list ds=>(qJ ds).getD []
 |_=>[]
def vz(r:Ϝ):A4 (dI r)=r:=by
 show(qJ (r.map D.int)).getD []=r;rw[rB];rfl
def Sm{β:Type}(g:Ϝ->β)(rs:Λ):(rs.map dI).map (λd=>g (A4 d))=rs.map g:=by
 rw[mPq];exact mCq λr _=>by show g (A4 (dI r))=g r;rw[vz]
def Jm{rs:Λ}(hl:∀r∈rs,r.length<=500000):rL sJ (ql xP (oW (oX 0) pP)) [] (rs.map dI)=some ((rs.map good).map aI):=by
 rw[uA (λd=>aI (good (A4 d)))]
 .rw[Sm (λr=>aI (good r)),mPq]
  rfl
 .intro d hd;obtain⟨r,hr,rfl⟩:=DF hd;refine⟨[some (.sh (dI r))],?_⟩
  simp_arith [Nj (hl r hr),vz]
def Za{l:Λ}{a:Nat}(h:a<l.length):atI (l.map dI) (a:Int)=some (dI (l.getD a [])):=by
 rw[S9,Ma (by lia),bA,gDq,gEg h]
 rfl
def K4{rs:Λ}(hl:rs.flatten.length<=500000):xI [dM rs]=some (aI (qQ rs.flatten)):=by
 simp_arith [xI,Ex,Ve hl]
def RZ(ns:Ϝ):rL (ug (pO Oq (oI 0) (rC (.int 0)))) (oX 0) [] (ns.map D.int)=some ((ns.filter λz=>decide (0<z)).map λn=>.sh (.int n)):=by
 rw[Z.wM (λd=>match d with|.int z=>decide (0<z)|_=>false) (λd=>.sh d)]
 .rw[gM,mPq];rfl
 .intro d hd;obtain⟨z,l,rfl⟩:=mMq.mp hd;refine⟨[i3 z],?_,λ_=>⟨[i3 z],?_⟩⟩
  .simp_arith []
  .simp_arith []
def roads_ok{rs:Λ}(hl:rs.flatten.length<=500000):wg [dM rs]=some (aI ((qQ rs.flatten).filter λz=>decide (0<z))):=by
 have l:(qQ rs.flatten).length<=qF:=tJ (by rw[(qT _).length_eq];lia)
 simp_arith [wg,CC,K4 hl,l,RZ]
def vb(p:Nat)(r:Ϝ):List (pI×D):=r.map λe=>(.inl e,.int (p:Int))
def qj:Nat->Λ->List (pI×D)
 |_,[]=>[]
 |p,r::rs=>vb p r++qj (p+1) rs
theorem CD(r:Ϝ):∀(rs:Λ) (p:Nat),qj p (rs++[r])=qj p rs++vb (p+rs.length) r
 | [],p=>by simp[qj]
 |s::rs,p=>by
  show vb p s++qj (p+1) (rs++[r])=(vb p s++qj (p+1) rs)++_;rw[CD r rs (p+1),aa,lCq,show p+1+rs.length=p+(rs.length+1) by lia]
theorem zF:∀(rs:Λ) (p:Nat),(qj p rs).map (·.1)=rs.flatten.map aA
 | [],p=>rfl
 |r::rs,p=>by
  show(vb p r++qj (p+1) rs).map (·.1)=_;rw[mBq,zF rs (p+1),fCq,mBq];congr 1;unfold vb;rw[mPq];rfl
def Ju(rs:Λ)(p:Nat):(qj p rs).length=rs.flatten.length:=by
 have:=congrArg bV (zF rs p)
 rwa [lMq,lMq]at this
def BI{kvs:List (pI×D)}{k:pI}{d:D}(h:k∉kvs.map (·.1)):xn kvs k d=kvs++[(k,d)]:=by
 unfold xn;rw[pE];intro e;obtain⟨kv,hk,e⟩:=fF.mp e;exact h (mMq.mpr ⟨kv,hk,of_decide_eq_true e⟩)
theorem getD_app{k:pI}:∀{a b:List (pI×D)},k∉a.map (·.1)->Z.getD (a++b) k=Z.getD b k
 | [],b,_=>rfl
 |x::a,b,h=>by
  unfold Z.getD;rw[dW,dX (by
   intro e;exact h (by rw[←of_decide_eq_true e];simp))]
  exact getD_app (k:=k) (a:=a) (b:=b) λm=>h (by simp only[au,ae];exact .inr m)
theorem Jg{p:Nat}{e:Int}{b:List (pI×D)}:∀{r:Ϝ},e∈r->Z.getD (vb p r++b) (.inl e)=some (.int p)
 | [],h=>by cases h
 |x::r,h=>by
  unfold Z.getD;show((((aA x:pI),D.int (p:Int))::(vb p r++b)).find? _).map _=_
  by_cases c:x=e
  .subst c;rw[fo (by simp)]
   rfl
  .rw[dX (by simp[c])]
   exact Jg (r:=r) ((ae.mp h).resolve_left λz=>c z.symm)
theorem zX{e:Int}{r:Ϝ}:∀{rs:Λ}{i:Nat}(p:Nat),rs.flatten.Nodup->rs[i]?=some r->e∈r->Z.getD (qj p rs) (.inl e)=some (.int ((p+i:Nat):Int))
 | [],i,p,_,h,_=>by simp at h
 |s::rs,0,p,hn,h,he=>by
  simp at h;subst h;exact Jg he
 |s::rs,i+1,p,hn,h,he=>by
  rw[fCq,nAq]at hn;have l:rs[i]?=some r:=by simpa using h
  have:=zX (rs:=rs) (i:=i) (p+1) hn.2.1 l he;rw[show p+1+i=p+(i+1) by lia]at this
  rw[←this];refine getD_app ?_;unfold vb;rw[mPq];intro m;obtain⟨x,n,t⟩:=mMq.mp m;cases t;exact hn.2.2 _ n _ (mFq.mpr ⟨r,mGq l,he⟩) rfl
def yL{rs:Λ}(hn:rs.flatten.Nodup)(hl:rs.flatten.length<=500000):sL [dM rs]=some (.owd (qj 0 rs)):=by
 have key:=K0 (x:=2) (y:=3) (k:=0) (body:=we) (λi S=>∃E G l,S=[some (.sh (dM rs)),some (.owd (qj 0 (rs.take i))),E,G,l]) (ds:=rs.map dI) (S:=[some (.sh (dM rs)),some (.owd []),none,none,none]) ⟨none,none,none,rfl⟩ (by
  rintro i d S hd ⟨E,G,l,rfl⟩;rw[bK];obtain⟨r,hr,rfl⟩:=Dk hd;have s:=rh hr;have H:=tU rs (i+1);have hi:i<rs.length:=(gSq.mp hr).1;have t:((rs.take i).flatten++r).Nodup:=by
   rw[←s];have J:rs.flatten=(rs.take (i+1)).flatten++(rs.drop (i+1)).flatten:=by rw[←fAq,aS]
   rw[J]at hn;exact(nAq.mp hn).1
  rw[s,lAq]at H;have L:=rZ (x:=4) (body:=vV) (λj S=>∃l,S=[some (.sh (dM rs)),some (.owd (qj 0 (rs.take i)++vb i (r.take j))),i3 i,some (.sh (dI r)),l]) (ds:=r.map D.int) (S:=[some (.sh (dM rs)),some (.owd (qj 0 (rs.take i))),i3 i,some (.sh (dI r)),l]) ⟨l,by simp[vb]⟩ (by
   rintro j d S hd ⟨l,rfl⟩;obtain⟨z,B,rfl⟩:=G5 hd;have Q:j<r.length:=(gSq.mp B).1;have M:(qj 0 (rs.take i)++vb i (r.take j)).length<qF:=Pg (by
    rw[lAq,Ju];unfold vb;rw[lMq,lTq];lia)
   have u:xn (qj 0 (rs.take i)++vb i (r.take j)) (.inl z) (.int (i:Int))=qj 0 (rs.take i)++vb i (r.take (j+1)):=by
    rw[BI]
    .unfold vb;rw[qf B,mBq,aa];rfl
    .rw[mBq,zF];intro m;have O:r.take (j+1)=r.take j++[z]:=qf B;rcases mAq.mp m with m|m
     .obtain⟨x,I,n⟩:=mMq.mp m;cases n;exact(nAq.mp t).2.2 _ I _ (mGq B) rfl
     .unfold vb at m;rw[mPq]at m;obtain⟨x,I,n⟩:=mMq.mp m;cases n;have:=bq.sublist (bE (j+1) r) (nAq.mp t).2.1;rw[O]at this;exact(nAq.mp this).2.2 _ I _ (by simp) rfl
   refine⟨_,?_,i3 z,rfl⟩
   simp_arith [vV,M,u])
  obtain⟨R,n,P,rfl⟩:=L;rw[lMq,aE]at n;refine⟨_,?_,i3 i,some (.sh (dI r)),P,rfl⟩;rw[qf hr,CD,lTq,fk (by lia),bK]
  simp_arith [we,n])
 obtain⟨U,e,E,G,l,rfl⟩:=key;rw[bK,lMq,aE]at e
 simp_arith [sL,Ba,e]
theorem ur{c:MT}{body:MS}(P:AS->Prop)(μ:AS->Nat)(u:AS->Prop)(h:∀S,P S->∃b s,c S=some (b,s)/\(b=true->∃t,body s=some (.nx t)/\P t/\μ t<μ S)/\(b=false->u s)) :
  ∀(l:Nat) (S:AS),P S->μ S<l->∃S',rz c body l S=some (.nx S')/\u S'
 |0,S,_,x=>absurd x (cW _)
 |n+1,S,z,x=>by
  obtain⟨b,s,B,E,G⟩:=h S z;rw[Ud,B,bN];cases b with
  |true=>
   obtain⟨t,H,I,J⟩:=E rfl;rw[pH rfl,H];exact ur P μ u h n t I (by lia)
  |false=>
   rw[pE (by simp)]
   exact⟨s,rfl,G rfl⟩
end Zl
namespace Zl
open PySem L2 Mr Z Xe
def wd(ws:Θ):List AV:=ws.map λk:Nat=>AV.sh (.int (k:Int))
def plc(rs:Λ)(e:Int):Nat:=rs.findIdx λr=>decide (e∈r)
def same_place{rs:Λ}(hn:rs.flatten.Nodup){i j:Nat}{r s:Ϝ}{e:Int}(hi:rs[i]?=some r)(l:rs[j]?=some s)(n:e∈r)(t:e∈s):i=j:=by
 have a:=zX 0 hn hi n;have b:=zX 0 hn l t;rw[a]at b;have:=D.int.inj (aO.inj b);lia
def plc_eq{rs:Λ}(hn:rs.flatten.Nodup){i:Nat}{r:Ϝ}{e:Int}(hi:rs[i]?=some r)(l:e∈r):plc rs e=i:=by
 have hl:rs.findIdx (λr=>decide (e∈r))<rs.length:=eS ⟨r,mGq hi,d0 l⟩
 have n:=gL (xs:=rs) (p:=λr=>decide (e∈r)) (w:=hl)
 exact same_place hn (gEg hl) hi (of_decide_eq_true n) l
structure Mp (rs:Λ):Prop where
 hn:rs.flatten.Nodup
 hl:rs.flatten.length<=1000
 hr:rs.length<=1000
 hneg:∀e∈rs.flatten, -e∈rs.flatten
def Mp.at{rs:Λ}(h:Mp rs){e:Int}(s:e∈rs.flatten):∃r,rs[plc rs e]?=some r/\e∈r:=by
 obtain⟨r,t,l⟩:=mFq.mp s;obtain⟨i,n⟩:=ay.mp t;exact⟨r,by rw[plc_eq h.hn n l];exact n,l⟩
def Mp.row{rs:Λ}(h:Mp rs){k:Nat}{r:Ϝ}(hk:rs[k]?=some r):r.length<=1000:=by
 have:=cD.length_le (bh (mGq hk));have:=h.hl;lia
end Zl
namespace Zl
open PySem L2 Mr Z
def B2{rs:Λ}(hl:∀r∈rs,r.length<=500000)(l:rs.length<=qF):tQ [dM rs]=some (.ow ((xS (rs.map good)).map aI)):=by
 have n:=Jm (rs:=rs) hl
 simp_arith [tQ,xF,n,l]
end Zl
namespace Zl
open PySem L2 Mr Z Xe
def bare(rs:Λ):Nat:=rs.countP (·=([]:Ϝ))
section
variable {rs:Λ}(hl:rs.flatten.length<=500000)
include hl
end
def E5(rs:Λ):(xS (rs.map good)).flatten.Perm rs.flatten:=(qz (sk _)).trans (tF uM rs)
noncomputable def itr(f:Int->Int):Nat->Int->Int
 |0,e=>e
 |n+1,e=>f (itr f n e)
theorem yK(f:Int->Int)(m:Nat)(e:Int):∀n:Nat,itr f (n+m) e=itr f n (itr f m e)
 |0=>by rw[bK];rfl
 |n+1=>by rw[Nat.add_right_comm];show f (itr f (n+m) e)=f (itr f n (itr f m e));rw[yK f m e n]
theorem Oa:∀(l E:Ϝ),l.Nodup->(∀x∈l,x∈E)->l.length<=E.length
 | [],E,_,_=>bx _
 |x::l,E,hn,h=>by
  have n:=ar.mp hn;have s:=h x (ai ..);have u:=Oa l (E.erase x) n.2 (λy t=>by
   refine(List.mem_erase_of_ne ?_).mpr (h y (mCo _ t));intro e;exact n.1 (e ▸ t))
  rw[List.length_erase_of_mem s]at u;have:=gi s;rw[lCq];lia
def R7{p:Nat->Prop}:∀n,p n->∃m,m<=n/\p m/\∀j,j<m->¬ p j:=by
 intro n
 induction n using gN with
 |_ n t=>
  intro h
  by_cases c:∃j,j<n/\p j
  .obtain⟨j,l,s⟩:=c;obtain⟨m,z,u,x⟩:=t j l s;exact⟨m,by lia,u,x⟩
  .exact⟨n,af _,h,λj l s=>c ⟨j,l,s⟩⟩
structure KZ (f:Int->Int)(E:Ϝ):Prop where
 nd:E.Nodup
 to:∀e∈E,f e∈E
 inj:∀a∈E,∀b∈E,f a=f b->a=b
section
variable {f:Int->Int}{E:Ϝ}
theorem KZ.itr_mem(h:KZ f E){e:Int}(l:e∈E):∀n,itr f n e∈E
 |0=>l
 |n+1=>h.to _ (h.itr_mem l n)
theorem KZ.itr_inj(h:KZ f E){a b:Int}(ha:a∈E)(hb:b∈E):∀n,itr f n a=itr f n b->a=b
 |0,e=>e
 |n+1,e=>h.itr_inj ha hb n (h.inj _ (h.itr_mem ha n) _ (h.itr_mem hb n) e)
def KZ.cut(h:KZ f E){e:Int}(l:e∈E){i j:Nat}(n:i<=j)(q:itr f i e=itr f j e):itr f (j-i) e=e:=by
 have s:itr f j e=itr f i (itr f (j-i) e):=by rw[←yK];congr 1;lia
 rw[s]at q;exact(h.itr_inj l (h.itr_mem l _) i q).symm
structure Cy (f:Int->Int)(e:Int)(l:Ϝ):Prop where
 len:1<=l.length
 get:l=(az l.length).map λn=>itr f n e
 back:itr f l.length e=e
 nd:l.Nodup
def KZ.cy(h:KZ f E){e:Int}(t:e∈E):∃l,Cy f e l/\l.length<=E.length/\∀j,0<j->j<l.length->itr f j e≠e:=by
 have u:∃k,1<=k/\k<=E.length/\itr f k e=e:=by
  by_cases c:((az (E.length+1)).map λn=>itr f n e).Nodup
  .have:=Oa _ E c (λx H=>by obtain⟨n,_,rfl⟩:=mMq.mp H;exact h.itr_mem t n)
   rw[lMq,aB]at this;lia
  .rw[aW,aV]at c;have:∃i j,i<j/\j<E.length+1/\itr f i e=itr f j e:=by
    by_cases d:∃i j,i<j/\j<E.length+1/\itr f i e=itr f j e
    .exact d
    .exfalso;refine c ?_;refine bq.imp_of_mem (R:=λa b=>a<b) (λ{a b} ha hb hab q=>d ⟨a,b,hab,bD.mp hb,q⟩) gu
   obtain⟨i,j,z,B,q⟩:=this;exact⟨j-i,by lia,by lia,h.cut t (cC z) q⟩
 obtain⟨k,I,P,J⟩:=u;obtain⟨m,Q,⟨L,M⟩,G⟩:=R7 (p:=λk=>1<=k/\itr f k e=e) k ⟨I,J⟩
 refine⟨(az m).map λn=>itr f n e,⟨by rw[lMq,aB];exact L,by rw[lMq,aB],by rw[lMq,aB];exact M,?_⟩,by rw[lMq,aB];lia,λj B s q=>?_⟩
 .rw[aW,aV];refine bq.imp_of_mem (R:=λa b=>a<b) (λ{a b} ha hb hab q=>?_) gu
  have O:=bD.mp hb;exact G (b-a) (by lia) ⟨by lia,h.cut t (cC hab) q⟩
 .rw[lMq,aB]at s;exact G j s ⟨B,q⟩
def Cy.at{e:Int}{l:Ϝ}(h:Cy f e l){i:Nat}(hi:i<l.length):l[i]?=some (itr f i e):=by
 have s:l[i]?=((az l.length).map λn=>itr f n e)[i]?:=congrArg (λx:Ϝ=>x[i]?) h.get
 rw[s,gMq,dh hi];rfl
def Cy.one{e:Int}{l l':Ϝ}(h:Cy f e l)(h':Cy f e l'):l=l':=by
 have key:∀{l l':Ϝ},Cy f e l->Cy f e l'->¬ l.length<l'.length:=λ{l l'} h h' hlt=>by
  have s:=h'.at (i:=0) (by lia)
  have n:=h'.at (i:=l.length) hlt;rw[h.back]at n;have:=h'.nd;have t:=(jk (i:=0) (j:=l.length) (by lia) this).mp (by rw[s,n];rfl)
  have:=h.len;lia
 have u:=key h h';have x:=key h' h;have hl:l.length=l'.length:=by lia
 rw[h.get,h'.get,hl]
def Cy.self{e:Int}{l:Ϝ}(h:Cy f e l):e∈l:=mGq (h.at (i:=0) (by have:=h.len;lia))
def Cy.rot{e:Int}{l:Ϝ}(h:Cy f e l){j:Nat}(u:j<l.length):Cy f (itr f j e) (l.drop j++l.take j):=by
 have n:(l.drop j++l.take j).length=l.length:=by rw[lAq,aQ,lTq];lia
 refine⟨by rw[n];exact h.len,?_,?_,?_⟩
 .refine cV λi=>?_
  rw[n,gMq]
  by_cases hi:i<l.length
  .rw[dh hi,df,←yK]
   by_cases s:i<l.length-j
   .rw[gZq (by rw[aQ];exact s),cf,h.at (by lia),fW j i]
   .rw[gYq (by rw[aQ];lia),aQ,eT (by lia),h.at (by lia)]
    congr 1;have t:i+j=(i-(l.length-j))+l.length:=by lia
    rw[t,yK,h.back]
  .rw[bo (by rw[n];lia),bo (by rw[aB];lia)]
   rfl
 .rw[n,←yK,fW,yK,h.back]
 .exact aT.nodup_iff.mpr (by rw[aS];exact h.nd)
theorem Cy.good{e x:Int}{l l':Ϝ}(h:Cy f e l)(t:x∈l)(h':Cy f x l'):Mr.good l'=Mr.good l:=by
 obtain⟨j,s⟩:=ay.mp t;have n:=(gSq.mp s).1;rw[h.at n]at s;have r:=h.rot n;rw[aO.inj s]at r;rw[h'.one r];exact RG h.nd j
structure CW (f:Int->Int)(E:Ϝ)(L:Λ):Prop where
 cy:∀l∈L,∃e,Cy f e l
 dj:L.flatten.Nodup
 all:∀x,x∈L.flatten↔x∈E
theorem Gy:∀{L:Λ},L.flatten.Nodup->L.Pairwise λa b=>∀x∈a,∀y∈b,x≠y
 | [],_=>bq.nil
 |a::L,h=>by
  rw[fCq,nAq]at h;exact fQ.mpr ⟨λb hb x l y n=>h.2.2 x l y (mFq.mpr ⟨b,hb,n⟩),Gy h.2.1⟩
def CW.nd{L:Λ}(h:CW f E L):(L.map Mr.good).Nodup:=by
 rw[aW,aV];have hd:=Gy h.dj;refine bq.imp_of_mem (λ{a b} ha hb hab q=>?_) hd
 obtain⟨e,c⟩:=h.cy a ha;have l:e∈Mr.good a:=(uM a).mem_iff.mpr c.self;rw[q]at l;exact hab e c.self e ((uM b).mem_iff.mp l) rfl
def CW.sub(z:KZ f E){L M:Λ}(h:CW f E L)(h':CW f E M){y:Ϝ}(t:y∈L.map Mr.good):y∈M.map Mr.good:=by
 obtain⟨l,hl,rfl⟩:=mMq.mp t;obtain⟨e,c⟩:=h.cy l hl;have u:e∈E:=(h.all e).mp (mFq.mpr ⟨l,hl,c.self⟩);obtain⟨m,s,n⟩:=mFq.mp ((h'.all e).mpr u);obtain⟨B,x⟩:=h'.cy m s;exact mMq.mpr ⟨m,s,(x.good n c).symm⟩
def CW.perm(l:KZ f E){L M:Λ}(h:CW f E L)(h':CW f E M):(L.map Mr.good).Perm (M.map Mr.good):=
 (aX h.nd h'.nd).mpr λy=>⟨h.sub l h',h'.sub l h⟩
end
end Zl
namespace K51
open PySem L2 Mr Z Xe
def AR:MS:=(xW 1 (oI 3) (oX 4))
def AA:MS:=(OE 3 4 (oX 2) (QQ (lOf (SC (vh 2) (yQ (rC (.int 1))) Cs)) (lOf (SC (vh 2) Cs (yQ (rC (.int 1)))))) AR)
def Ja:MS:=(oQ (oY 1 zi)
 (oQ (wD 2 (oX 0) AA)
 (rm (zE 1))))
def Bu:MF:=rQ 1 5 Ja
def tj:MS:=(oQ (oY 7 (kSc (xa (oI 2) (Jq yT (oI 6))))) (A5 (ug (rR (oI 7) (oI 3))) (oQ (xW 3 (oI 7) (kSc (rC (.bl true)))) (vC 4 (oX 7))) rG))
def vx:MS:=(oQ (Du 5 (Ax 4)) (wD 6 (VW (vh 0) (oI 5)) tj))
def DE:MS:=(oQ (oY 2 (ql Zl.sL (oW (oX 0) pP)))
 (oQ (oY 3 (Gq (oI 1) (kSc (rC (.bl true)))))
 (oQ (oY 4 (rY (oW (oX 1) pP)))
 (oQ (rz (ug (pO Oq (uY rH (oJ (oI 4) oS)) (rC (.int 0)))) vx 100000)
 (rm (Hb (oI 3)))))))
def xQ:MF:=rQ 2 8 DE
def wI:MS:=(xW 1 (oI 5) (kSc (rC (.bl true))))
def xh:MS:=(A5 (ug (rR (oI 3) (oI 1))) (oQ (oY 4 (ql K51.xQ (oW (oX 0) (oW (oX 3) pP)))) (oQ (wD 5 (oX 4) wI) (vC 2 (wU (Dp (oX 4)) [0] sJ (Br (lOf (VW (vh 1) (oI 0)))))))) rG)
def FA:MS:=(oQ (oY 1 zi)
 (oQ (oY 2 (rY pP))
 (oQ (D8 3 (oJ (uY rH (oJ (oI 0) oS)) oS) xh)
 (rm (zE 2)))))
def zG:MF:=rQ 1 6 FA
def vM:MS:=(oQ (oY 6 (kSc (xa (oI 1) (Jq yT (oI 5))))) (A5 (ug (pO B0 (oI 5) (xa (oI 3) (xa (oI 1) (oI 5))))) (oQ (vC 4 (JD (oW (kSc (rC (.str "up"))) (oW (oX 5) pP)))) (oY 5 (kSc (xa (oI 2) (Jq yT (oI 5)))))) (A5 (ug (rR (oI 6) (oI 3))) (oQ (xW 3 (oI 6) (kSc (Jq yT (oI 5)))) (oQ (vC 4 (JD (oW (kSc (rC (.str "down"))) (oW (oX 5) pP)))) (oY 5 (kSc (xa (oI 2) (Jq yT (oI 5))))))) (oQ (vC 4 (JD (oW (kSc (rC (.str "side"))) (oW (oX 5) pP)))) (oY 5 (kSc (xa (oI 2) (oI 5))))))))
def AW:MS:=(oQ (oY 1 (kSc (rC (.int 1))))
 (oQ (oY 2 (kSc (rC (.int 0))))
 (oQ (A5 (ug (pO Oq (pO uo (qS Zl.oV (oJ (oI 0) (oJ (rC (.int 0)) oS))) (rC (.int 3))) (rC (.int 0)))) (oQ (oY 1 (kSc (pO uX (rC (.int 1)) (pO uo (qS Zl.oV (oJ (oI 0) (oJ (rC (.int 1)) oS))) (pO Jo (rC (.int 10)) (rC (.int 57))))))) (oY 2 (kSc (pO uo (qS Zl.oV (oJ (oI 0) (oJ (rC (.int 2)) oS))) (pO Jo (rC (.int 10)) (rC (.int 59))))))) rG)
 (oQ (oY 3 (kSc (pO uX (rC (.int 1)) (pO uo (pO Bc (qS Zl.oV (oJ (oI 0) (oJ (rC (.int 0)) oS))) (rC (.int 3))) (rC (.int 66))))))
 (oQ (oY 4 (kSc (pO uo (pO Bc (qS Zl.oV (oJ (oI 0) (oJ (rC (.int 0)) oS))) (rC (.int 198))) (rC (.int 67)))))
 (rm (wU (iR1 (oJ (rC (.int 67)) oS)) [2,1,4,3] sJ (kSc (pO uX (pO xD (oI 2) (pO uX (rC (.int 1)) (pO uo (pO uX (pO xD (oI 4) (oI 0)) (oI 3)) (rC (.int 67))))) (oI 1))))))))))
def vN:MF:=rQ 1 5 AW
def FQ:MS:=(rm (wU (Dp (oX 0)) [] sJ (Br (vh 0))))
def vO:MF:=rQ 1 1 FQ
def AX:MS:=(rm (kSc (Yi (uY zJ (oJ (oI 0) (oJ (rC (.ty "int")) oS))) (WQ (uY zJ (oJ (oI 0) (oJ (rC (.ty "bool")) oS)))))))
def uI:MF:=rQ 1 1 AX
def xo:MS:=(oQ (A5 (NH (yP (ug (uY zJ (oJ (oI 1) (oJ (rC (.ty "tuple")) oS))))) (ug (pO Y0 (uY rH (oJ (oI 1) oS)) (rC (.int 2))))) (rm (kSc (rC (.bl false)))) rG) (A5 (NH (yP (ug (uY zJ (oJ (pO QP (oI 1) (rC (.int 0))) (oJ (rC (.ty "str")) oS))))) (yP (ug (qS K51.uI (oJ (pO QP (oI 1) (rC (.int 1))) oS))))) (rm (kSc (rC (.bl false)))) rG))
def Cu:MS:=(oQ (A5 (yP (ug (uY zJ (oJ (oI 0) (oJ (rC (.ty "list")) oS))))) (rm (kSc (rC (.bl false)))) rG)
 (oQ (wD 1 (oX 0) xo)
 (rm (kSc (rC (.bl true))))))
def wq:MF:=rQ 1 2 Cu
end K51
namespace K15
open PySem L2 Mr Z
def yC:MS:=(xW 2 (oI 3) (kSc (G3 (oI 1) (Jq yT (oI 3)))))
def EA:MS:=(oQ (oY 1 (ql K51.Bu (oW (oX 0) pP)))
 (oQ (oY 2 zi)
 (oQ (LH 3 1 yC)
 (rm (zE 2)))))
def zO:MF:=rQ 1 4 EA
def ve:MS:=(oQ (vC 2 (oX 3)) (oY 3 (kSc (xa (oI 0) (oI 3)))))
def Aq:MS:=(oQ (oY 2 (rY (oW (oX 1) pP)))
 (oQ (oY 3 (kSc (xa (oI 0) (oI 1))))
 (oQ (rz (ug (pO Y0 (oI 3) (oI 1))) ve 100000)
 (rm (zE 2)))))
def vv:MF:=rQ 2 4 Aq
def yh:MS:=(xW 2 (oI 6) (kSc (rC (.bl true))))
def wc:MS:=(A5 (ug (rR (oI 4) (oI 2))) (oQ (oY 5 (ql K15.vv (oW (oX 1) (oW (oX 4) pP)))) (oQ (wD 6 (oX 5) yh) (vC 3 (oX 5)))) rG)
def Iy:MS:=(oQ (oY 1 (ql K15.zO (oW (oX 0) pP)))
 (oQ (oY 2 zi)
 (oQ (oY 3 (wU (Dp (oX 0)) [] (ug (pO B0 (uY rH (oJ (oI 0) oS)) (rC (.int 0)))) (rY pP)))
 (oQ (wD 4 (ql Zl.xI (oW (oX 0) pP)) wc)
 (rm (ql Zl.tQ (oW (oX 3) pP)))))))
def wZ:MF:=rQ 1 7 Iy
end K15
namespace K43
open PySem L2 Mr Z Xe
def FF:MS:=(oQ (oY 1 (kSc (uY rH (oJ (oI 0) oS))))
 (oQ (oY 2 (kSc (uY rH (oJ (rOf (ql Zl.wg (oW (oX 0) pP))) oS))))
 (oQ (oY 3 (kSc (uY rH (oJ (rOf (ql K15.wZ (oW (oX 0) pP))) oS))))
 (oQ (oY 4 (kSc (uY rH (oJ (rOf (ql K51.zG (oW (oX 0) pP))) oS))))
 (oQ (oY 5 (kSc (pO Bc (pO Ci (pO uX (pO Ci (pO xD (rC (.int 2)) (oI 4)) (oI 1)) (oI 2)) (oI 3)) (rC (.int 2)))))
 (rm (JD (oW (oX 1) (oW (oX 2) (oW (oX 3) (oW (oX 4) (oW (oX 5) pP))))))))))))
def BG:MF:=rQ 1 6 FF
end K43
namespace K72
open PySem L2 Mr Z Xe
def uU:MS:=(oQ (A5 (AL (oI 2)) (oQ (oY 3 (kSc (YS "list" xA (oI 2) (oJ (uY N7 (oJ (oI 2) oS)) oS)))) (oY 2 (QQ (lOf (SC (vh 2) (yQ (oI 3)) Cs)) (lOf (SC (vh 2) Cs (yQ (oI 3))))))) rG) (vC 1 (oX 2)))
def FM:MS:=(oQ (oY 1 (rY pP))
 (oQ (wD 2 (oX 0) uU)
 (rm (GO (vh 1)))))
def zo:MF:=rQ 1 4 FM
end K72
namespace K75
open PySem L2 Mr Z Xe
def yr:MS:=(oQ (OF 3 (BK 2 (pO uo (oI 0) (uY rH (oJ (oI 2) oS))))) (oY 0 (kSc (pO Bc (oI 0) (pO uX (uY rH (oJ (oI 2) oS)) (rC (.int 1)))))))
def Ep:MS:=(oQ (oY 2 (Gf (oJ (oI 1) oS)))
 (oQ (oY 3 (rY pP))
 (oQ (D8 4 (oJ (oI 1) oS) yr)
 (rm (zE 3)))))
def zP:MF:=rQ 2 5 Ep
def xj:MS:=(oQ (oY 6 (kSc (pO Ci (pO uX (pO Ci (pO Jo (rC (.int 10)) (rC (.int 60))) (oI 1)) (oI 5)) (oI 4)))) (oQ (oY 4 (kSc (pO uX (pO uX (oI 4) (rC (.int 1))) (pO uo (oI 2) (oI 6))))) (oQ (oY 2 (kSc (pO QD (oI 2) (oI 6)))) (vC 3 (oX 4)))))
def CO:MS:=(oQ (oY 2 (kSc (qS Zl.oV (oJ (oI 0) (oJ (rC (.int 2)) oS)))))
 (oQ (oY 3 (rY pP))
 (oQ (oY 4 (kSc (rC (.int 0))))
 (oQ (D8 5 (oJ (oI 1) oS) xj)
 (rm (zE 3))))))
def yz:MF:=rQ 2 7 CO
def yp:MS:=(Qd 3 (lOf (rY (oW (oX 4) (oW (kSc (pO Ci (rC (.int 0)) (oI 4))) pP)))))
def yu:MS:=(oQ (xW 7 (oI 10) (kSc (rC (.bl true)))) (oQ (vC 9 (oX 10)) (oY 10 (kSc (pO E7 (oI 3) (pO E7 (oI 5) (YS "list" xA (oI 3) (oJ (oI 10) oS))))))))
def vT:MS:=(oQ (oY 9 (rY pP)) (oQ (oY 10 (oX 8)) (oQ (rz (ug (rR (oI 10) (oI 7))) yu 100000) (A5 (AL (oI 9)) (vC 6 (oX 9)) rG))))
def Iz:MS:=(oQ (oY 2 (kSc (pO uo (qS Zl.oV (oJ (oI 0) (oJ (rC (.int 1)) oS))) (pO uX (oI 1) (rC (.int 1))))))
 (oQ (oY 3 (rY pP))
 (oQ (wD 4 (ql K75.yz (oW (oX 0) (oW (oX 2) pP))) yp)
 (oQ (oY 5 (ql K75.zP (oW (kSc (qS Zl.oV (oJ (oI 0) (oJ (rC (.int 4)) oS)))) (oW (kSc (uY rH (oJ (oI 3) oS))) pP))))
 (oQ (oY 6 (wU (iR1 (oJ (pO uo (pO Bc (qS Zl.oV (oJ (oI 0) (oJ (rC (.int 1)) oS))) (pO uX (oI 1) (rC (.int 1)))) (rC (.int 4))) oS)) [] sJ (rY pP)))
 (oQ (oY 7 zi)
 (oQ (wD 8 (oX 3) vT)
 (rm (ql K72.zo (oW (oX 6) pP))))))))))
def BB:MF:=rQ 2 11 Iz
end K75
namespace K52
open PySem L2 Mr Z Xe
def rS:MS:=(oQ (oY 7 (kSc (pO uo (oI 6) (rC (.int 7))))) (Tj 8 3 (Zb 3 (Qs 3) (pO E7 (oI 4) (Jq yT (rC (.int 1))))) (IG 3 (Dv (ug (pO A8 (rC (.int 4)) (oI 7))) (AL (oI 5))) (GS 3 (oY 9 (kSc (pO Ci (uY rH (oJ (oI 5) oS)) (rC (.int 1))))) (GS 3 (A5 (ug (oI 2)) (oY 9 (kSc (pO uo (pO Bc (oI 6) (rC (.int 7))) (uY rH (oJ (oI 5) oS))))) rG) (GR 3 (QY yT (BK 5 (oI 9)))))) (IG 3 (Dv (ug (MM A8 A8 (rC (.int 1)) (oI 7) (rC (.int 4)))) (ug (pO Oq (uY rH (oJ (oI 4) oS)) (rC (.int 1))))) (λ_=>(GJ (Ax 4))) (IG 3 (AL (oI 1)) (GS 3 (Du 10 (T4 xD (Ax 1) (pO Ci (rC (.int 1)) (pO xD (rC (.int 2)) (pO uo (pO Bc (oI 6) (rC (.int 7))) (rC (.int 2))))))) (λpath=>oQ ((LC 3 (oX 10)) path) (A5 (ug (pO A8 (oI 7) (rC (.int 2)))) (oQ (vC 4 (kSc (uY rH (oJ (oI 3) oS)))) (vC 3 (rY (oW (kSc (Jq yT (oI 10))) pP)))) (vC 5 (oX 10))))) (λ_=>rG))))))
def vG:MS:=(KO 3 (Zb 3 (Qs 3) (pO E7 (oI 4) (Jq yT (rC (.int 1))))) (QY yT (Ax 5)))
def Dx:MS:=(oQ (oY 3 (rY (oW (rY pP) pP)))
 (oQ (oY 4 (rY (oW (kSc (rC (.int 0))) pP)))
 (oQ (oY 5 (rY pP))
 (oQ (wD 6 (oX 0) rS)
 (oQ (rz (AL (oI 5)) vG 100000)
 (rm (ql K72.zo (oW (oX 3) pP))))))))
def vL:YW:=Nb 3 11 Dx
def xq:MS:=(xW 1 (oI 4) (kSc (pO E7 (oI 2) (pO uo (pO uX (oI 3) (rC (.int 1))) (uY rH (oJ (oI 2) oS))))))
def xx:MS:=(HA 3 4 (oX 2) xq)
def CB:MS:=(oQ (oY 1 zi)
 (oQ (wD 2 (oX 0) xx)
 (rm (zE 1))))
def yy:MF:=rQ 1 5 CB
def ux:MS:=(oQ (oY 5 (kSc (pO E7 (oI 2) (xa (oI 1) (oI 4))))) (oQ (oY 6 (kSc (pO E7 (oI 2) (xa (oI 1) (Jq yT (oI 4)))))) (oY 2 (wU (Dp (oX 2)) [5,6] sJ (kSc (pO E7 (rOf (rY (oW (oX 0) (oW (oX 1) pP)))) (uY Dq (oJ (pO B0 (oI 0) (oI 2)) oS))))))))
def vF:MS:=(wD 4 (oX 3) ux)
def vw:MS:=(vC 7 (GW (oX 0) (oX 2) [5] (ug (pO B0 (oI 1) (oI 2))) (oX 0)))
def AG:MS:=(oQ (oY 1 (ql Zl.sL (oW (oX 0) pP)))
 (oQ (oY 2 (Gf (oJ (uY rH (oJ (oI 0) oS)) oS)))
 (oQ (wD 3 (oX 0) vF)
 (oQ (oY 7 (rY pP))
 (oQ (wD 5 (OZ (vh 2)) vw)
 (rm (XY (zE 7) (rY (oW (rY (oW (rY pP) pP)) pP)))))))))
def vJ:MF:=rQ 1 8 AG
end K52
namespace K54
open PySem L2 Mr Z Xe
def uc:MS:=(A5 (ug (pO Y0 (uY rH (oJ (rOf (ql K51.zG (oW (oX 0) pP))) oS)) (rC (.int 1)))) JG rG)
def qH:MF:=rQ 1 1 uc
def GL:MS:=(oQ (PD (kSc (qS K54.qH (oJ (oI 0) oS))))
 (oQ (A5 (ug (pO B0 (uY rH (oJ (pO E7 (oI 0) (rC (.int 0))) oS)) (rC (.int 0)))) (rm (rY pP)) rG)
 (oQ (oY 1 (ql Zl.sL (oW (oX 0) pP)))
 (oQ (oY 2 (ql K51.Bu (oW (oX 0) pP)))
 (oQ (oY 3 (Gq (rC (.int 0)) (kSc (rC .non))))
 (oQ (oY 4 (rY pP))
 (oQ (oY 5 (kSc (pO E7 (pO E7 (oI 0) (rC (.int 0))) (rC (.int 0)))))
 (oQ (rz (ug (pO A8 (uY rH (oJ (oI 4) oS)) (uY IE (oJ (oI 2) oS)))) K51.vM 100000)
 (rm (zE 4))))))))))
def Cg:MF:=rQ 1 7 GL
def Dy:MS:=(rm (kSc (pO tO (rOf (ql K43.BG (oW (oX 0) pP))) (rC (.int 4)))))
def xO:MF:=rQ 1 1 Dy
def xy:MS:=(Qd 1 (HC 2))
def CG:MS:=(oQ (oY 1 (rY pP))
 (oQ (wD 2 (oX 0) xy)
 (rm (GO (vh 1)))))
def yE:MF:=rQ 1 3 CG
def tu:MS:=(oQ (xW 2 (oI 5) (kSc (rC (.bl true)))) (oY 5 (kSc (G3 (oI 1) (Jq yT (oI 5))))))
def uw:MS:=(oQ (A5 (ug (rR (oI 4) (oI 2))) (oY 3 (kSc (pO uX (oI 3) (rC (.int 1))))) rG) (oQ (oY 5 (oX 4)) (rz (ug (rR (oI 5) (oI 2))) tu 100000)))
def EB:MS:=(oQ (oY 1 (ql K52.yy (oW (oX 0) pP)))
 (oQ (oY 2 zi)
 (oQ (oY 3 (kSc (uY rH (oJ (rOf (wU (Dp (oX 0)) [] (yP (AL (oI 0))) (oX 0))) oS))))
 (oQ (LH 4 1 uw)
 (rm (zE 3))))))
def zN:MF:=rQ 1 6 EB
def wj:MS:=(oQ (oY 1 (ql K54.yE (oW (oX 0) pP)))
 (oQ (oY 2 (kSc (pO Bc (uY Ui (oJ (rOf (wU (Dp (oX 1)) [] sJ (kSc (uY rH (oJ (oI 0) oS))))) oS)) (rC (.int 2)))))
 (rm (kSc (pO Ci (pO uX (pO Ci (pO xD (rC (.int 2)) (uY rH (oJ (oI 0) oS))) (uY rH (oJ (oI 1) oS))) (oI 2)) (qS K54.zN (oJ (oI 1) oS)))))))
def qD:MF:=rQ 1 3 wj
end K54
namespace K55
open PySem L2 Mr Z Xe
def tD:MS:=(oQ (oY 5 (kSc (uY Vk (oJ (pO tO (oI 4) (rC (.int 1))) oS)))) (A5 (Dv (ug (pO B0 (pO tO (oI 4) (rC (.int 0))) (rC (.str "side")))) (ug (XA (oI 5) (oI 1)))) (vC 2 (JD (oW (kSc (xa (oI 1) (oI 5))) (oW (oX 3) pP)))) (A5 (ug (pO B0 (pO tO (oI 4) (rC (.int 0))) (rC (.str "side")))) (xW 1 (oI 5) (oX 3)) rG)))
def uv:MS:=(oQ (oY 10 (kSc (rOr (DZ A8 A8 A8 (pO tO (oI 7) (rC (.int 0))) (pO tO (oI 9) (rC (.int 0))) (pO tO (oI 7) (rC (.int 1))) (pO tO (oI 9) (rC (.int 1)))) (DZ A8 A8 A8 (pO tO (oI 9) (rC (.int 0))) (pO tO (oI 7) (rC (.int 0))) (pO tO (oI 9) (rC (.int 1))) (pO tO (oI 7) (rC (.int 1))))))) (vC 8 (kSc (uY Dq (oJ (oI 10) oS)))))
def yf:MS:=(oQ (oY 8 (rY pP)) (oQ (wD 9 (oX 2) uv) (vC 6 (oX 8))))
def DP:MS:=(oQ (oY 1 zi)
 (oQ (oY 2 (rY pP))
 (oQ (HA 3 4 (oX 0) tD)
 (oQ (oY 6 (rY pP))
 (oQ (wD 7 (oX 2) yf)
 (rm (zE 6)))))))
def xC:MF:=rQ 1 11 DP
def vc:MS:=(oQ (A5 (ug (pO B0 (pO E7 (oI 6) (oI 4)) (rC (.int 1)))) (oY 6 (GW (oX 6) (oX 3) [] sJ (kSc (pO uo (pO uX (oI 0) (oI 1)) (rC (.int 2)))))) rG) (vC 5 (oX 6)))
def xg:MS:=(oQ (Du 3 (Ax 1)) (A5 (ug (pO (WR false) (rC (.int 1)) (oI 3))) (oQ (oY 4 (kSc (YS "list" xA (oI 3) (oJ (rC (.int 1)) oS)))) (oQ (oY 2 (kSc (pO uX (oI 2) (rC (.int 1))))) (oQ (oY 5 (rY pP)) (oQ (wD 6 (oX 1) vc) (oY 1 (zE 5)))))) rG))
def Fc:MS:=(oQ (oY 1 (wU (Dp (oX 0)) [] sJ (sQ (Br (vh 0)))))
 (oQ (oY 2 (kSc (rC (.int 0))))
 (oQ (rz (AL (oI 1)) xg 100000)
 (rm (zE 2)))))
def zk:MF:=rQ 1 7 Fc
def P7:MS:=(oQ (oY 1 (Gu K52.vL (oW (SC (vh 0) (yQ (rC (.int 3))) (yQ (rC (.int 66)))) (oW (ql K51.vN (oW (oX 0) pP)) (oW (kSc (pO Oq (pO uo (qS Zl.oV (oJ (oI 0) (oJ (rC (.int 1)) oS))) (rC (.int 3))) (rC (.int 0)))) pP)))))
 (oQ (A5 (ug (pO B0 (pO uo (qS Zl.oV (oJ (oI 0) (oJ (rC (.int 0)) oS))) (rC (.int 2))) (rC (.int 1)))) (oQ (oY 2 (ql K52.vJ (oW (ql K75.BB (oW (oX 0) (oW (kSc (rC (.int 30))) pP))) pP))) (oY 1 (VW (vh 2) (pO uo (pO Bc (qS Zl.oV (oJ (oI 0) (oJ (rC (.int 1)) oS))) (rC (.int 124))) (uY rH (oJ (oI 2) oS)))))) rG)
 (oQ (oY 3 (ql K54.Cg (oW (ql K51.vO (oW (oX 1) pP)) pP)))
 (oQ (oY 4 (kSc (qS K54.xO (oJ (rOf (ql K51.vO (oW (oX 1) pP))) oS))))
 (oQ (A5 (NH (yP (ug (qS K51.wq (oJ (oI 3) oS)))) (yP (ug (qS K51.uI (oJ (oI 4) oS))))) (rm (kSc (rC (.bl false)))) rG)
 (rm (kSc (MM B0 B0 (qS K55.zk (oJ (rOf (ql K55.xC (oW (oX 3) pP))) oS)) (pO xD (rC (.int 2)) (oI 4)) (qS K54.qD (oJ (rOf (rY (oW (oX 1) pP))) oS))))))))))
def Le:MF:=rQ 1 5 P7
seal PE PA PS Jr PT PW PC PG ZA PI PO PF BZ uf UnR SR SK SL SQ SS ED SA SN SM CY Oy BmD UnD
set_option hygiene false
local macro_rules | `(tactic| and_intros)=>`(tactic| apply_rules (maxDepth:=100000) only [@Xh,@G2,@Iq,@pD,@oM,@oK,@oO,@pv,@oU,@rX,@qi,@wA,@qt,@wV,@W0,@Ro,@TV,@va,@DK,@sV,@C8,@Dj,@Tg,@Dw,@tH,@sA,@Wj,@Yx,@Kg,@Kc,@PL,@DR,@AU,@OM,@xR,@JX,@zr,@Gb,@LR,@ti,@zV,@Kk,@UM,@GM,@Qn,@UU,@GV,@rW,@vg,@Sr,@DQ,@uT,@uy,@Kt,@VH,@Sx,@tT,@uJ,@ym,@Xu,@BP,@yG,@OB,@LV,@zb,@tZ,@B8,@aav,@JC,@J2,@LB,@AN,@GA,@zj,@PW.pt])
local macro_rules | `(tactic| infer_instance)=>`(tactic| ((first | apply tW | apply DD | apply Hz | apply Ks) <;> apply_rules (maxDepth:=100000) [@tW,@yJ,@qY,@qC,@qB,@wt,@tP,@qu,@SR.kSc,@vq,@tI,@sH,@SK.frz,@SK.lOf,@SK.rOf,@Pi,@Wn,@U1,@YO,@BW,@S7,@Wb,@XG,@Xd,@Gx,@Tp,@Hy,@RF,@Xr,@Lj,@Wc,@QV,@IH,@AJ,@Gp,@ZP,@WI,@J1,@VS,@WT,@PQ,@Ol,@RS,@Tu,@Rl,@Vw,@UA,@Ri,@AD,@YQ,@W1,@VE,@RM,@Qc,@Q6,@NY,@TF,@XH,@JJ,@Dd,@HJ,@TB,@G6,@JW,@XT,@VB,@aaz,@vy,@FT,@Uc,@UH,@RL,@Yl,@Oj,@YI,@W5,@Z3,@Xs,@ZK,@Md,@GH,@TM,@UY,@Tn,@S4,@Yq,@Ks,@SV,@U7,@OQ,@US,@Hz,@Rx,@C9,@DD,@IW,@Yc,@KR,@KF,@Ij,@V5,@G8,@Cj,@SL.q] <;> first | decide | exact λ_ _ _ h=>h))
local macro_rules | `(tactic| bv_omega)=>`(tactic| (intro _ _ _ _ _ _ S hr hu hu65; apply Exists.intro; apply And.intro; infer_instance; ((first | refine pD ?_ | refine oM ?_ ?_) <;> and_intros <;> (try ((with_reducible intro _ _ _ _); and_intros)) <;> first | rfl | exact nobehind _ (by decide) (by decide) | assumption | exact vd _ | decide | exact λ_=>rfl | exact λ_ _=>rfl | exact jc rfl | exact gQ rfl | exact gQ (jc rfl) | exact gQ (gQ rfl) | exact CI hr | exact PassesOwn.never | exact Bt.len ‹_› | exact PySem.boot_len | exact tN | exact ax | first | rfl | exact trivial | (intro _ _; rfl) | exact bf | exact bg | exact qv | exact vX.none (by decide +kernel) | exact Bt.sorted ‹_› | exact jG | exact uf.or Pw Qt | exact Bt.isi ‹_› | exact jw | exact fV | exact iJ | exact HZ | exact PySem.F.slot_list_extend | exact PySem.F.type_list_extend | exact M0 | exact Gm hu | exact Bt.enum ‹_› | exact Mx rfl | exact Bt.min ‹_› | exact jT | (simp; done) | exact Xe.SU (pv 1) | first | exact jc rfl | exact gQ rfl | exact V0.or tT uJ | exact Bt.range ‹_› | exact GD | exact Bt.zip ‹_› | exact cE | exact cF | exact Ed | exact G4 rfl | exact M9 | exact S.nd | exact Nf rfl | exact jU | exact Bt.int ‹_› | exact gG | exact Bt.bool ‹_› | exact jO | exact Bt.list ‹_› | exact fq | exact jK | exact Bt.str ‹_› | exact jV | decide +kernel | trivial)))
set_option hygiene true
def top(i:Nat):Stmt:=PySem.Challenge.pw_mapround_k55_whole_handles_by_crossings.main.body.getD i (.Pass ⟨0,0,0,0⟩)
section
variable {P:ku}{w:ky}{K:Ζ}{mg:Str->Υ}{base:Heap}
abbrev BR:Stmt:=top 4
def NX:oZ ["ends","start"] ["ends"] (oN BR):=sC
abbrev IY(P w K mg base):=Fn P w K mg base 1 "turned" BR ["ends"] (rO K Zl.xP)
def NP(D:xX K mg "turned" BR ["ends"] f fd)(B:Bt mg):IY P w K mg base f fd:=
 Cv D NX (by bv_omega)
abbrev wY:Stmt:=top 5
def Gd:oZ ["turns","told","turn"] ["turns"] (oN wY):=sC
abbrev CN(P w K mg base):=Fn P w K mg base 1 "told_ends" wY ["turns"] (rO K Zl.xf)
def Gi(D:xX K mg "told_ends" wY ["turns"] f fd)(B:Bt mg):CN P w K mg base f fd:=
 Cv D Gd (by bv_omega)
abbrev tS:Stmt:=top 6
def B6:oZ ["turns"] ["turns"] (oN tS):=sC
abbrev yO(P w K mg base):=Fn P w K mg base 2 "in_good_order" tS ["turns"] (rO K Zl.tQ)
def Cq(D:xX K mg "in_good_order" tS ["turns"] f fd)(B:Bt mg)(l:IY P w K mg base u0 v0):yO P w K mg base f fd:=
 Cv D B6 (by bv_omega)
abbrev Ak:Stmt:=top 7
def Kx:oZ ["m"] ["m"] (oN Ak):=sC
abbrev Cc(P w K mg base):=Fn P w K mg base 2 "ends_of" Ak ["m"] (rO K Zl.xI)
def Ka(D:xX K mg "ends_of" Ak ["m"] f fd)(B:Bt mg)(l:CN P w K mg base u1 v1):Cc P w K mg base f fd:=
 Cv D Kx (by bv_omega)
abbrev yw:Stmt:=top 8
def Ht:oZ ["m"] ["m"] (oN yw):=sC
abbrev DG(P w K mg base):=Fn P w K mg base 3 "roads_of" yw ["m"] (rO K Zl.wg)
def Ib(D:xX K mg "roads_of" yw ["m"] f fd)(B:Bt mg)(l:Cc P w K mg base u3 v3):DG P w K mg base f fd:=
 Cv D Ht (by bv_omega)
abbrev wH:Stmt:=top 9
def He:oZ ["m","places","place","turn","end"] ["m"] (oN wH):=sC
abbrev yX(P w K mg base):=Fn P w K mg base 1 "places_at" wH ["m"] (rO K Zl.sL)
def FW(D:xX K mg "places_at" wH ["m"] f fd)(B:Bt mg):yX P w K mg base f fd:=
 Cv D He (by bv_omega)
abbrev Dn:Stmt:=top 10
def QW:oZ ["m","following","turn","end","behind"] ["m"] (oN Dn):=sC
abbrev Hq(P w K mg base):=Fn P w K mg base 1 "nexts" Dn ["m"] (rO K K51.Bu)
def Pq(D:xX K mg "nexts" Dn ["m"] f fd)(B:Bt mg):Hq P w K mg base f fd:=
 Cv D QW (by bv_omega)
abbrev zU:Stmt:=top 12
def J8:oZ ["m","start","place_of","known","waiting","here","end","there"] ["m","start"] (oN zU):=sC
abbrev ER(P w K mg base):=Fn P w K mg base 2 "reached" zU ["m","start"] (rO K K51.xQ)
def Ko(D:xX K mg "reached" zU ["m","start"] f fd)(B:Bt mg)(l:yX P w K mg base u5 v5):ER P w K mg base f fd:=
 Cv D J8 (by bv_omega)
abbrev Bb:Stmt:=top 13
def vH:oZ ["m","known","found","start","places","place"] ["m"] (oN Bb):=sC
abbrev Et(P w K mg base):=Fn P w K mg base 3 "pieces" Bb ["m"] (rO K K51.zG)
def NR(D:xX K mg "pieces" Bb ["m"] f fd)(B:Bt mg)(l:ER P w K mg base u7 v7):Et P w K mg base f fd:=
 VD D vH λ_ _ _ _ _ _ hr s n=>⟨_,
   (oM (qi (i:=1) vH Dw)
   (oM (qi (i:=2) vH (sA oO))
   (oM (vg PassesOwn.never rfl (zV (by rfl) B.range (oK (sV tN (by rfl) B.len PySem.boot_len (oK (pv 0) oO)) oO)) (xR (i:=3) vH)
    (pD (wV (KU (FE (CI hr) (pv 3) (pv 1))) (oM (qi (i:=4) vH (rX l hr (oK (pv 0) (oK (pv 3) oO)))) (oM (vg PassesOwn.never rfl (ti (pv 4)) (xR (i:=5) vH)
    (pD (GV (CI hr) (pv 1) (pv 5) Ro rfl))) (pD (rW (va ax bf bg qv (pv 2) (oK (C8 (N:=["place","m"]) (fr:=[0]) rfl rfl (by trivial) rfl (by trivial) rfl (vX.of (by trivial) rfl rfl (by exact⟨rfl,trivial⟩) (by repeat (first|exact trivial|refine⟨(by first|exact λ_=>⟨_,rfl⟩|exact λh=>(by rcases h with h|h <;> cases h)),?_⟩)) (by exact⟨⟨rfl,rfl,rfl⟩,trivial⟩)) (ti (pv 4)) (λ_ _ _ _=>AU) (λ_ _ _ _=>(xV yq (by rfl) B.list fq (oK (tH tT (pv 1) (pv 0) (λ_ _=>rfl)) oO)))) oO)))))) uT)))
   (pD (wA (pv 2)))))),by infer_instance⟩
abbrev qG:Stmt:=top 14
def xU:oZ ["m"] ["m"] (oN qG):=sC
abbrev uB(P w K mg base):=Fn P w K mg base 4 "refuse_not_one_piece" qG ["m"] (rO K K54.qH)
def xJ(D:xX K mg "refuse_not_one_piece" qG ["m"] f fd)(B:Bt mg)(l:Et P w K mg base u8 v8):uB P w K mg base f fd:=
 Cv D xU (by bv_omega)
abbrev Hk:Stmt:=top 16
def SZ:oZ ["m","place_of","following","came_by","things","end","there"] ["m"] (oN Hk):=sC
abbrev QF(P w K mg base):=Fn P w K mg base 5 "walk" Hk ["m"] (rO K K54.Cg)
def U3(D:xX K mg "walk" Hk ["m"] f fd)(B:Bt mg)(l:uB P w K mg base u9 v9)(n:yX P w K mg base u5 v5)(s:Hq P w K mg base u6 v6):QF P w K mg base f fd:=
 Cv D SZ (by bv_omega)
abbrev zZ:Stmt:=top 18
def Kh:oZ ["m","following","steps","end"] ["m"] (oN zZ):=sC
abbrev FK(P w K mg base):=Fn P w K mg base 2 "onwards" zZ ["m"] (rO K K15.zO)
def KG(D:xX K mg "onwards" zZ ["m"] f fd)(B:Bt mg)(l:Hq P w K mg base u6 v6):FK P w K mg base f fd:=
 Cv D Kh (by bv_omega)
abbrev vp:Stmt:=top 19
def EN:oZ ["steps","end","ends","step"] ["steps","end"] (oN vp):=sC
abbrev Bg(P w K mg base):=Fn P w K mg base 1 "gone_round" vp ["steps","end"] (rO K K15.vv)
def EO(D:xX K mg "gone_round" vp ["steps","end"] f fd)(B:Bt mg):Bg P w K mg base f fd:=
 Cv D EN (by bv_omega)
abbrev Do:Stmt:=top 20
def Qz:oZ ["m","steps","known","found","start","land","end"] ["m"] (oN Do):=sC
abbrev Mi(P w K mg base):=Fn P w K mg base 3 "lands" Do ["m"] (rO K K15.wZ)
def P9(D:xX K mg "lands" Do ["m"] f fd)(B:Bt mg)(s:FK P w K mg base u11 v11)(t:Cc P w K mg base u3 v3)(l:yO P w K mg base u2 v2)(n:Bg P w K mg base u12 v12):Mi P w K mg base f fd:=
 Cv D Qz (by bv_omega)
abbrev Bd:Stmt:=top 21
def Oe:oZ ["m","place_count","road_count","land_count","piece_count","handle_count"] ["m"] (oN Bd):=sC
abbrev Iv(P w K mg base):=Fn P w K mg base 4 "counts" Bd ["m"] (rO K K43.BG)
def Mk(D:xX K mg "counts" Bd ["m"] f fd)(B:Bt mg)(l:DG P w K mg base u4 v4)(s:Mi P w K mg base u13 v13)(n:Et P w K mg base u8 v8):Iv P w K mg base f fd:=
 Cv D Oe (by bv_omega)
abbrev zL:Stmt:=top 22
def Kd:oZ ["m"] ["m"] (oN zL):=sC
abbrev FB(P w K mg base):=Fn P w K mg base 5 "handles" zL ["m"] (rO K K54.xO)
def Kl(D:xX K mg "handles" zL ["m"] f fd)(B:Bt mg)(l:Iv P w K mg base u14 v14):FB P w K mg base f fd:=
 Cv D Kd (by bv_omega)
abbrev Bs:Stmt:=top 24
def Oc:oZ ["_law_script","_law_k"] ["_law_script","_law_k"] (oN Bs):=sC
abbrev zl(P w K mg base):=Fn P w K mg base 1 "_law_cell" Bs ["_law_script","_law_k"] (rO K Zl.oV)
def MW(D:xX K mg "_law_cell" Bs ["_law_script","_law_k"] f fd)(B:Bt mg):zl P w K mg base f fd:=
 Cv D Oc (by bv_omega)
abbrev Aj:Stmt:=top 25
def tX:oZ ["_law_script","_law_step","_law_shift","_law_a","_law_b"] ["_law_script"] (oN Aj):=sC
abbrev E3(P w K mg base):=Fn P w K mg base 2 "_law_roads" Aj ["_law_script"] (rO K K51.vN)
def Ki(D:xX K mg "_law_roads" Aj ["_law_script"] f fd)(B:Bt mg)(l:zl P w K mg base u16 v16):E3 P w K mg base f fd:=
 VD D tX λ_ _ _ _ _ _ hr s n=>⟨_,
   (oM (qi (i:=1) tX oU)
   (oM (qi (i:=2) tX oU)
   (oM (wV (uy LV (qt tZ (rX l hr (oK (pv 0) (oK oU oO))) oU) oU (vd _)) (oM (qi (i:=1) tX (qt ym oU (qt tZ (rX l hr (oK (pv 0) (oK oU oO))) (qt JC oU oU)))) (pD (qi (i:=2) tX (qt tZ (rX l hr (oK (pv 0) (oK oU oO))) (qt JC oU oU))))) uT)
   (oM (qi (i:=3) tX (qt ym oU (qt tZ (qt yG (rX l hr (oK (pv 0) (oK oU oO))) oU) oU)))
   (oM (qi (i:=4) tX (qt tZ (qt yG (rX l hr (oK (pv 0) (oK oU oO))) oU) oU))
   (pD (wA (C8 (N:=["_law_k","_law_shift","_law_step","_law_b","_law_a"]) (fr:=[2,1,4,3]) rfl rfl (by trivial) rfl (by trivial) rfl (vX.of (by trivial) rfl rfl (by exact⟨rfl,rfl,rfl,rfl,trivial⟩) (by repeat (first|exact trivial|refine⟨(by first|exact λ_=>⟨_,rfl⟩|exact λh=>(by rcases h with h|h <;> cases h)),?_⟩)) (by exact⟨⟨rfl,rfl,rfl⟩,⟨rfl,rfl,rfl⟩,⟨rfl,rfl,rfl⟩,⟨rfl,rfl,rfl⟩,trivial⟩)) (zV (by rfl) B.range (oK oU oO)) (λ_ _ _ _=>AU) (λ_ _ _ _=>(qt ym (qt B8 (pv 2) (qt ym oU (qt tZ (qt ym (qt B8 (pv 4) (pv 0)) (pv 3)) oU))) (pv 1))))))))))),by infer_instance⟩
abbrev Bm:Stmt:=top 26
def Mq:oZ ["_law_turns","_law_rows","_law_turn","_law_at"] ["_law_turns"] (oN Bm):=sC
abbrev Ej(P w K mg base):=Fn P w K mg base 1 "_law_good" Bm ["_law_turns"] (rO K K72.zo)
def On(D:xX K mg "_law_good" Bm ["_law_turns"] f fd)(B:Bt mg):Ej P w K mg base f fd:=
 Cv D Mq (by bv_omega)
abbrev Aa:Stmt:=top 27
def rD:oZ ["_law_cells","_law_roads_here","_law_loose","_law_turns","_law_path","_law_opened","_law_cell_here","_law_kind","_law_turn","_law_at","_law_end"] ["_law_cells","_law_roads_here","_law_loose"] (oN Aa):=sC
abbrev EZ(P w K mg base):=Fn P w K mg base 2 "_law_piece" Aa ["_law_cells","_law_roads_here","_law_loose"] (T3 K K52.vL)
def JV(D:xX K mg "_law_piece" Aa ["_law_cells","_law_roads_here","_law_loose"] f fd)(B:Bt mg)(l:Ej P w K mg base u18 v18):EZ P w K mg base f fd:=
 ⟨D,D.F.ok rD (λn H Q E h=>TC h) λt A outer s H n Q E hr h=>⟨_,(oM (qi (i:=3) rD (sA (oK (sA oO) oO))) (oM (qi (i:=4) rD (sA (oK oU oO))) (oM (qi (i:=5) rD (sA oO)) (oM (vg PassesOwn.never rfl (ti (pv 0)) (xR (i:=6) rD) (oM (qi (i:=7) rD (qt tZ (pv 6) oU)) (oM (qi (i:=8) rD (tH tT (pv 3) (tH tT (pv 4) (DR AN oU) (λ_ _=>rfl)) (λ_ _=>rfl))) (pD (wV (PW.pt (JE (uy zb oU (pv 7) (vd _)) (GI (zj (pv 5) (λ_=>rfl))))) (oM (qi (i:=9) rD (qt J2 (sV tN (by rfl) B.len PySem.boot_len (oK (pv 5) oO)) oU)) (oM (wV (GA (pv 2)) (pD (qi (i:=9) rD (qt tZ (qt yG (pv 6) oU) (sV tN (by rfl) B.len PySem.boot_len (oK (pv 5) oO))))) uT) (pD (rW (va ax bf bg qv (pv 8) (oK (DR AN (va ax cE cF Hv (pv 5) (oK (pv 9) oO))) oO)))))) (pD (wV (PW.pt (JE (OD zb zb oU (pv 7) oU) (GI (uy LV (sV tN (by rfl) B.len PySem.boot_len (oK (pv 4) oO)) oU (vd _))))) (pD (rW (DK ax cE cF Ed (pv 4)))) (pD (wV (zj (pv 1) (λ_=>rfl)) (oM (qi (i:=10) rD (qt B8 (DK ax cE cF Ed (pv 1)) (qt J2 oU (qt B8 oU (qt tZ (qt yG (pv 6) oU) oU))))) (oM (rW (va ax bf bg qv (pv 8) (oK (pv 10) oO))) (pD (wV (uy zb (pv 7) oU (vd _)) (oM (rW (va ax bf bg qv (pv 4) (oK (sV tN (by rfl) B.len PySem.boot_len (oK (pv 3) oO)) oO))) (pD (rW (va ax bf bg qv (pv 3) (oK (sA (oK (DR AN (pv 10)) oO)) oO))))) (pD (rW (va ax bf bg qv (pv 5) (oK (pv 10) oO)))))))) uT))))))))) (oM (DQ PassesOwn.never (zj (pv 5) (λ_=>rfl)) (pD (rW (va ax bf bg qv (tH tT (pv 3) (tH tT (pv 4) (DR AN oU) (λ_ _=>rfl)) (λ_ _=>rfl)) (oK (DR AN (DK ax cE cF Ed (pv 5))) oO))))) (pD (wA (rX l hr (oK (pv 3) oO))))))))),NM ["_law_cells","_law_roads_here","_law_loose","_law_turns","_law_path","_law_opened","_law_cell_here","_law_kind","_law_turn","_law_at","_law_end"] (K:=K) (tW (yJ (i:=3) (AD (qY (AD tI) tI))) (tW (yJ (i:=4) (AD (qY (SR.kSc qu) tI))) (tW (yJ (i:=5) (AD tI)) (tW (Ks (wt 0) (tW (yJ (i:=7) (SR.kSc (tP AJ (qB 6) qu))) (YB (Q3 (LN 3) (tP Lj (qB 4) (Md Cj qu))) (P6 (KR (BO (tP IH qu (qB 7))) (G8 (qB 5))) (Ke (Lb (SR.kSc (tP J1 (FT BW (qC (qB 5) sH)) qu)) (by decide)) (Ke (Ya (Ij (qB 2)) (Lb (SR.kSc (tP AJ (tP Gx (qB 6) qu) (FT BW (qC (qB 5) sH)))) (by decide)) (Ow (λ_ _ _ h=>h))) (UE (VT Cj (HJ (i:=5) (qB 9)))))) (P6 (KR (BO (Q9 IH IH qu (qB 7) qu VS)) (BO (tP RF (FT BW (qC (qB 4) sH)) qu))) (Vs (OT (Dd (i:=4)))) (P6 (G8 (qB 1)) (Ke (Sf (Y9 Gp (Dd (i:=1)) (tP J1 qu (tP Gp qu (tP AJ (tP Gx (qB 6) qu) qu)))) (by decide)) (WO (X6 (wt 10)) (Hz (BO (tP IH (qB 7) qu)) (tW (GH (i:=4) (SR.kSc (FT BW (qC (qB 3) sH)))) (GH (i:=3) (AD (qY (SR.kSc (Md Cj (qB 10))) tI)))) (GH (i:=5) (wt 10))))) (Vs C9))))))) (tW (IW 100000 (G8 (qB 5)) (Rr (Q3 (LN 3) (tP Lj (qB 4) (Md Cj qu))) (VT Cj (Dd (i:=5))))) (DD (vq (qY (wt 3) tI)))))))) h⟩⟩
abbrev yd:Stmt:=top 28
def Io:oZ ["_law_lot","_law_turns","_law_piece_here"] ["_law_lot"] (oN yd):=sC
abbrev DH(P w K mg base):=Fn P w K mg base 1 "_law_joined" yd ["_law_lot"] (rO K K54.yE)
def IU(D:xX K mg "_law_joined" yd ["_law_lot"] f fd)(B:Bt mg):DH P w K mg base f fd:=
 Cv D Io (by bv_omega)
abbrev BV:Stmt:=top 29
def Oi:oZ ["_law_turns"] ["_law_turns"] (oN BV):=sC
abbrev IS(P w K mg base):=Fn P w K mg base 1 "_law_copy" BV ["_law_turns"] (rO K K51.vO)
def N2(D:xX K mg "_law_copy" BV ["_law_turns"] f fd)(B:Bt mg):IS P w K mg base f fd:=
 VD D Oi λ_ _ _ _ _ _ hr n l=>⟨_,
   (pD (wA (C8 (cl:=[]) (N:=["_law_turn"]) (fr:=[]) rfl rfl (by trivial) rfl (by trivial) rfl (vX.none (by trivial)) (ti (pv 0)) (λ_ _ _ _=>AU) (λ_ _ _ _=>(xV yq (by rfl) B.list fq (oK (pv 0) oO)))))),by infer_instance⟩
abbrev yj:Stmt:=top 30
def HV:oZ ["_law_turns","_law_follow_here","_law_turn","_law_k","_law_end"] ["_law_turns"] (oN yj):=sC
abbrev Ei(P w K mg base):=Fn P w K mg base 1 "_law_follow" yj ["_law_turns"] (rO K K52.yy)
def Im(D:xX K mg "_law_follow" yj ["_law_turns"] f fd)(B:Bt mg):Ei P w K mg base f fd:=
 Cv D HV (by bv_omega)
abbrev zT:Stmt:=top 31
def KH:oZ ["_law_turns","_law_follow_here","_law_met","_law_many","_law_start","_law_end"] ["_law_turns"] (oN zT):=sC
abbrev Ft(P w K mg base):=Fn P w K mg base 2 "_law_lands" zT ["_law_turns"] (rO K K54.zN)
def J3(D:xX K mg "_law_lands" zT ["_law_turns"] f fd)(B:Bt mg)(l:Ei P w K mg base u22 v22):Ft P w K mg base f fd:=
 Cv D KH (by bv_omega)
abbrev sG:Stmt:=top 32
def Az:oZ ["_law_lot","_law_turns","_law_roads_here"] ["_law_lot"] (oN sG):=sC
abbrev wX(P w K mg base):=Fn P w K mg base 3 "_law_twice_handles" sG ["_law_lot"] (rO K K54.qD)
def A0(D:xX K mg "_law_twice_handles" sG ["_law_lot"] f fd)(B:Bt mg)(l:mg "sum" = none)(n:DH P w K mg base u20 v20)(s:Ft P w K mg base u23 v23):wX P w K mg base f fd:=
 Cv D Az (by bv_omega)
abbrev zS:Stmt:=top 33
def JK:oZ ["_law_found"] ["_law_found"] (oN zS):=sC
abbrev B4(P w K mg base):=Fn P w K mg base 1 "_law_whole" zS ["_law_found"] (rO K K51.uI)
def KP(D:xX K mg "_law_whole" zS ["_law_found"] f fd)(B:Bt mg):B4 P w K mg base f fd:=
 Cv D JK (by bv_omega)
abbrev ye:Stmt:=top 34
def Jn:oZ ["_law_found","_law_thing"] ["_law_found"] (oN ye):=sC
abbrev D2(P w K mg base):=Fn P w K mg base 2 "_law_things" ye ["_law_found"] (rO K K51.wq)
def HU(D:xX K mg "_law_things" ye ["_law_found"] f fd)(B:Bt mg)(l:mg "tuple" = none)(n:B4 P w K mg base u25 v25):D2 P w K mg base f fd:=
 Cv D Jn (by bv_omega)
abbrev Ah:Stmt:=top 35
def qN:oZ ["_law_things_here","_law_first","_law_spans","_law_k","_law_thing","_law_road","_law_table_here","_law_one","_law_row","_law_two","_law_cross"] ["_law_things_here"] (oN Ah):=sC
abbrev E9(P w K mg base):=Fn P w K mg base 1 "_law_table" Ah ["_law_things_here"] (rO K K55.xC)
def KB(D:xX K mg "_law_table" Ah ["_law_things_here"] f fd)(B:Bt mg):E9 P w K mg base f fd:=
 VD D qN λ_ _ _ _ _ _ hr n l=>⟨_,
   (oM (qi (i:=1) qN Dw)
   (oM (qi (i:=2) qN (sA oO))
   (oM (vg PassesOwn.never rfl (LR (by rfl) B.enum (oK (pv 0) oO)) (JX rfl (zr (xR (i:=3) qN) (zr (xR (i:=4) qN) Gb)))
    (oM (qi (i:=5) qN (sV RA (by rfl) B.abs jW (oK (tH uJ (pv 4) oU (λ_ _=>rfl)) oO))) (pD (wV (PW.pt (JE (uy BP (tH uJ (pv 4) oU (λ_ _=>rfl)) Kc (vd _)) (GI (KU (W4 (CI hr) (pv 5) (pv 1)))))) (pD (rW (va ax bf bg qv (pv 2) (oK (PL (oK (Dj (CI hr) (pv 1) (pv 5) (by first|rfl|exact trivial|(intro _ _;rfl))) (oK (pv 3) oO))) oO)))) (pD (wV (uy BP (tH uJ (pv 4) oU (λ_ _=>rfl)) Kc (vd _)) (pD (GV (CI hr) (pv 1) (pv 5) (pv 3) rfl)) uT))))))
   (oM (qi (i:=6) qN (sA oO))
   (oM (vg PassesOwn.never rfl (ti (pv 2)) (xR (i:=7) qN)
    (oM (qi (i:=8) qN (sA oO)) (oM (vg PassesOwn.never rfl (ti (pv 2)) (xR (i:=9) qN)
    (oM (qi (i:=10) qN (aat (FN zb zb zb (tH uJ (pv 7) oU (λ_ _=>rfl)) (tH uJ (pv 9) oU (λ_ _=>rfl)) (tH uJ (pv 7) oU (λ_ _=>rfl)) (tH uJ (pv 9) oU (λ_ _=>rfl))) (Kg (FN zb zb zb (tH uJ (pv 9) oU (λ_ _=>rfl)) (tH uJ (pv 7) oU (λ_ _=>rfl)) (tH uJ (pv 9) oU (λ_ _=>rfl)) (tH uJ (pv 7) oU (λ_ _=>rfl)))))) (pD (rW (va ax bf bg qv (pv 8) (oK (xV Fy (by rfl) B.int gG (oK (pv 10) oO)) oO)))))) (pD (rW (va ax bf bg qv (pv 6) (oK (pv 8) oO)))))))
   (pD (wA (pv 6)))))))),by infer_instance⟩
abbrev Bj:Stmt:=top 36
def sm:oZ ["_law_table_here","_law_rows","_law_rank_here","_law_row","_law_at","_law_rest","_law_other"] ["_law_table_here"] (oN Bj):=sC
abbrev Ir(P w K mg base):=Fn P w K mg base 1 "_law_rank" Bj ["_law_table_here"] (rO K K55.zk)
def M5(D:xX K mg "_law_rank" Bj ["_law_table_here"] f fd)(B:Bt mg):Ir P w K mg base f fd:=
 VD D sm λ_ _ _ _ _ _ hr n l=>⟨_,
   (oM (G2 (i:=1) (cl:=[]) (N:=["_law_row"]) (fr:=[]) rfl sm.nd rfl (by trivial) rfl (by trivial) rfl (by trivial) rfl (vX.none (by trivial)) (ti (pv 0)) (λ_ _ _ _=>AU) (λ_ _ _ _=>(xV yq (by rfl) B.list fq (oK (pv 0) oO))))
   (oM (qi (i:=2) sm oU)
   (oM (DQ PassesOwn.never (zj (pv 1) (λ_=>rfl)) (oM (qi (i:=3) sm (DK ax cE cF Ed (pv 1))) (pD (wV (uy MQ oU (pv 3) rfl) (oM (qi (i:=4) sm (va ax fV iJ HZ (pv 3) (oK oU oO))) (oM (qi (i:=2) sm (qt ym (pv 2) oU)) (oM (qi (i:=5) sm (sA oO)) (oM (vg PassesOwn.never rfl (ti (pv 1)) (xR (i:=6) sm)
    (oM (wV (uy BP (tH tT (pv 6) (pv 4) (λ_ _=>rfl)) oU (vd _)) (pD (QH (i:=6) (cl:=[]) (N:=["_law_x","_law_y"]) (fr:=[]) rfl sm.nd rfl (by trivial) rfl (by trivial) rfl (by trivial) rfl rfl (AE.of (by trivial) rfl rfl rfl (by exact trivial) (by repeat (first|exact trivial|refine⟨(by first|exact λ_=>⟨_,rfl⟩|exact λh=>(by rcases h with h|h <;> cases h)),?_⟩)) (by exact trivial)) (Kk (by rfl) B.zip (oK (pv 6) (oK (pv 3) oO))) (λ_ _ _ _=>AU) (λ_ _ _ _=>(qt tZ (qt ym (pv 0) (pv 1)) oU)))) uT) (pD (rW (va ax bf bg qv (pv 5) (oK (pv 6) oO)))))) (pD (qi (i:=1) sm (pv 5))))))) uT))))
   (pD (wA (pv 2)))))),by infer_instance⟩
abbrev yx:Stmt:=top 37
def IQ:oZ ["_law_turns","_law_places_here","_law_place","_law_turn","_law_end"] ["_law_turns"] (oN yx):=sC
abbrev Dz(P w K mg base):=Fn P w K mg base 1 "_law_places" yx ["_law_turns"] (rO K Zl.sL)
def IZ(D:xX K mg "_law_places" yx ["_law_turns"] f fd)(B:Bt mg):Dz P w K mg base f fd:=
 Cv D IQ (by bv_omega)
abbrev Ac:Stmt:=top 38
def wa:oZ ["_law_cell_here","_law_many","_law_left","_law_order_here","_law_k"] ["_law_cell_here","_law_many"] (oN Ac):=sC
abbrev Fd(P w K mg base):=Fn P w K mg base 1 "_law_order" Ac ["_law_cell_here","_law_many"] (rO K K75.zP)
def JN(D:xX K mg "_law_order" Ac ["_law_cell_here","_law_many"] f fd)(B:Bt mg):Fd P w K mg base f fd:=
 VD D wa λ_ _ _ _ _ _ hr n l=>⟨_,
   (oM (qi (i:=2) wa (Jf rfl (by rfl) B.list (by rfl) B.range (oK (pv 1) oO)))
   (oM (qi (i:=3) wa (sA oO))
   (oM (vg PassesOwn.never rfl (zV (by rfl) B.range (oK (pv 1) oO)) (xR (i:=4) wa)
    (oM (rW (va ax bf bg qv (pv 3) (oK (va ax cE cF Hv (pv 2) (oK (qt tZ (pv 0) (sV tN (by rfl) B.len PySem.boot_len (oK (pv 2) oO))) oO)) oO))) (pD (qi (i:=0) wa (qt yG (pv 0) (qt ym (sV tN (by rfl) B.len PySem.boot_len (oK (pv 2) oO)) oU))))))
   (pD (wA (pv 3)))))),by infer_instance⟩
abbrev xZ:Stmt:=top 39
def Jd:oZ ["_law_script","_law_many","_law_cell_here","_law_names","_law_name","_law_k","_law_room"] ["_law_script","_law_many"] (oN xZ):=sC
abbrev D1(P w K mg base):=Fn P w K mg base 2 "_law_called" xZ ["_law_script","_law_many"] (rO K K75.yz)
def IL(D:xX K mg "_law_called" xZ ["_law_script","_law_many"] f fd)(B:Bt mg)(l:zl P w K mg base u16 v16):D1 P w K mg base f fd:=
 Cv D Jd (by bv_omega)
abbrev Df:Stmt:=top 40
def O7:oZ ["_law_script","_law_most","_law_many","_law_ends","_law_name","_law_order_here","_law_turns","_law_met","_law_end","_law_turn","_law_here"] ["_law_script","_law_most"] (oN Df):=sC
abbrev K3(P w K mg base):=Fn P w K mg base 3 "_law_any" Df ["_law_script","_law_most"] (rO K K75.BB)
def Pu(D:xX K mg "_law_any" Df ["_law_script","_law_most"] f fd)(B:Bt mg)(l:D1 P w K mg base u31 v31)(n:Fd P w K mg base u30 v30)(s:Ej P w K mg base u18 v18)(t:zl P w K mg base u16 v16):K3 P w K mg base f fd:=
 Cv D O7 (by bv_omega)
abbrev Af:Stmt:=top 41
def rq:oZ ["_law_m","_law_places_here","_law_part","_law_turn","_law_end","_law_one","_law_other","_law_lot"] ["_law_m"] (oN Af):=sC
abbrev Fv(P w K mg base):=Fn P w K mg base 2 "_law_split" Af ["_law_m"] (rO K K52.vJ)
def KL(D:xX K mg "_law_split" Af ["_law_m"] f fd)(B:Bt mg)(l:mg "set" = none)(s:Dz P w K mg base u29 v29):Fv P w K mg base f fd:=
 VD D rq λ_ _ _ _ _ _ hr t n=>⟨_,
   (oM (qi (i:=1) rq (rX s hr (oK (pv 0) oO)))
   (oM (qi (i:=2) rq (Jf rfl (by rfl) B.list (by rfl) B.range (oK (sV tN (by rfl) B.len PySem.boot_len (oK (pv 0) oO)) oO)))
   (oM (vg PassesOwn.never rfl (ti (pv 0)) (xR (i:=3) rq)
    (pD (vg PassesOwn.never rfl (ti (pv 3)) (xR (i:=4) rq)
    (oM (qi (i:=5) rq (tH tT (pv 2) (Dj (CI hr) (pv 1) (pv 4) (by first|rfl|exact trivial|(intro _ _;rfl))) (λ_ _=>rfl))) (oM (qi (i:=6) rq (tH tT (pv 2) (Dj (CI hr) (pv 1) (DR AN (pv 4)) (by first|rfl|exact trivial|(intro _ _;rfl))) (λ_ _=>rfl))) (pD (G2 (i:=2) (N:=["_law_k","_law_one","_law_other"]) (fr:=[5,6]) rfl rq.nd rfl (by trivial) rfl (by trivial) rfl (by trivial) rfl (vX.of (by trivial) rfl rfl (by exact⟨rfl,rfl,trivial⟩) (by repeat (first|exact trivial|refine⟨(by first|exact λ_=>⟨_,rfl⟩|exact λh=>(by rcases h with h|h <;> cases h)),?_⟩)) (by exact⟨⟨rfl,rfl,rfl⟩,⟨rfl,rfl,rfl⟩,trivial⟩)) (ti (pv 2)) (λ_ _ _ _=>AU) (λ_ _ _ _=>(tH tT (sA (oK (pv 0) (oK (pv 1) oO))) (xV Fy (by rfl) B.int gG (oK (LK BP (pv 0) (pv 2) (vd _)) oO)) (λ_ _=>rfl))))))))))
   (oM (qi (i:=7) rq (sA oO))
   (oM (vg PassesOwn.never rfl (ti (Vg rfl (by rfl) B.sorted (by rfl) l (oK (pv 2) oO))) (xR (i:=5) rq)
    (pD (rW (va ax bf bg qv (pv 7) (oK (RY (N:=["_law_turn","_law_k","_law_one"]) (fr:=[5]) rfl rfl (by trivial) rfl (by trivial) rfl rfl (AE.of (by trivial) rfl rfl rfl (by exact⟨rfl,trivial⟩) (by repeat (first|exact trivial|refine⟨(by first|exact λ_=>⟨_,rfl⟩|exact λh=>(by rcases h with h|h <;> cases h)),?_⟩)) (by exact⟨⟨rfl,rfl,rfl⟩,trivial⟩)) (Kk (by rfl) B.zip (oK (pv 0) (oK (pv 2) oO))) (λ_ _ _ _=>OM (uy BP (pv 1) (pv 2) (vd _))) (λ_ _ _ _=>(pv 0))) oO)))))
   (pD (wA (Xp (pv 7) (Kg (sA (oK (sA (oK (sA oO) oO)) oO))))))))))),by infer_instance⟩
abbrev Ar:Stmt:=top 42
def Cp:oZ ["_law_script","_law_m","_law_lot","_law_things_here","_law_many"] ["_law_script"] (oN Ar):=sC
abbrev Z6(P w K mg base):=Fn P w K mg base 6 "law" Ar ["_law_script"] (rO K K55.Le)
def YF(D:xX K mg "law" Ar ["_law_script"] f fd)(B:Bt mg)(x:EZ P w K mg base u19 v19)(n:QF P w K mg base u10 v10)(l:FB P w K mg base u15 v15)(z:E3 P w K mg base u17 v17)(E:Fv P w K mg base u33 v33)(t:IS P w K mg base u21 v21)(G:Ir P w K mg base u28 v28)(H:wX P w K mg base u24 v24)(s:zl P w K mg base u16 v16)(I:K3 P w K mg base u32 v32)(J:D2 P w K mg base u26 v26)(L:B4 P w K mg base u25 v25)(M:E9 P w K mg base u27 v27):Z6 P w K mg base f fd:=
 VD D Cp λ_ _ _ _ _ _ hr O u=>⟨_,
   (oM (qi (i:=1) Cp (rX x hr (oK (Iq LB (pv 0) (GM oU) (GM oU)) (oK (rX z hr (oK (pv 0) oO)) (oK (LK LV (qt tZ (rX s hr (oK (pv 0) (oK oU oO))) oU) oU (vd _)) oO)))))
   (oM (wV (uy BP (qt tZ (rX s hr (oK (pv 0) (oK oU oO))) oU) oU (vd _)) (oM (qi (i:=2) Cp (rX E hr (oK (rX I hr (oK (pv 0) (oK oU oO))) oO))) (pD (qi (i:=1) Cp (tH tT (pv 2) (qt tZ (qt yG (rX s hr (oK (pv 0) (oK oU oO))) oU) (sV tN (by rfl) B.len PySem.boot_len (oK (pv 2) oO))) (λ_ _=>rfl))))) uT)
   (oM (qi (i:=3) Cp (rX n hr (oK (rX t hr (oK (pv 1) oO)) oO)))
   (oM (qi (i:=4) Cp (rX l hr (oK (rX t hr (oK (pv 1) oO)) oO)))
   (oM (wV (PW.pt (VH (Kt (GA (rX J hr (oK (pv 3) oO)))) (Sx (Kt (GA (rX L hr (oK (pv 4) oO))))))) (pD (wA Ro)) uT)
   (pD (wA (Pd BP BP (rX G hr (oK (rX M hr (oK (pv 3) oO)) oO)) (qt B8 oU (pv 4)) (rX H hr (oK (sA (oK (pv 1) oO)) oO)))))))))),
   (tW (Ue (i:=1) (Qe (qY (VE (JW 0) (G6 qu) (G6 qu)) (qY (vq (qY (wt 0) tI)) (qY (SR.kSc (tP RF (tP AJ (vy (qC (qB 0) (qC qu sH))) qu) qu)) tI)))))
   (tW (Hz (BO (tP Hy (tP AJ (vy (qC (qB 0) (qC qu sH))) qu) qu)) (tW (yJ (i:=2) (vq (qY (vq (qY (wt 0) (qY (SR.kSc qu) tI))) tI))) (yJ (i:=1) (Vw (JW 2) (tP AJ (tP Gx (vy (qC (qB 0) (qC qu sH))) qu) (FT BW (qC (qB 2) sH)))))) C9)
   (tW (yJ (i:=3) (vq (qY (vq (qY (wt 1) tI)) tI)))
   (tW (yJ (i:=4) (SR.kSc (vy (qC (SK.rOf (vq (qY (wt 1) tI))) sH))))
   (tW (Hz (V5 (KF (Ij (vy (qC (qB 3) sH)))) (KF (Ij (vy (qC (qB 4) sH))))) (DD (SR.kSc VB)) C9)
   (DD (SR.kSc (Q9 Hy Hy (vy (qC (SK.rOf (vq (qY (wt 3) tI))) sH)) (tP Gp qu (qB 4)) (vy (qC (SK.rOf (AD (qY (wt 1) tI))) sH)) aaA))))))))⟩
end
noncomputable def pz(l:List Bool):Bool:=l.foldr xor false
def tG(b:Bool)(l:List Bool):pz (b::l)=xor b (pz l):=rfl
theorem El:∀(a b:List Bool),pz (a++b)=xor (pz a) (pz b)
 | [],b=>by simp[pz]
 |x::a,b=>by rw[dW,tG,tG,El a b,gZ]
def Lf{a b:List Bool}(h:a.Perm b):pz a=pz b:=by
 induction h with
 |nil=>rfl
 |cons x _ n=>rw[tG,tG,n]
 |swap x y l=>rw[tG,tG,tG,tG,←gZ,←gZ,jE x y]
 |trans _ _ i j=>rw[i,j]
theorem GX{α:Type}(f g:α->Bool):∀l:List α,pz (l.map λx=>xor (f x) (g x))=xor (pz (l.map f)) (pz (l.map g))
 | []=>rfl
 |x::l=>by
  rw[au,au,au,tG,tG,tG,GX f g l];cases f x <;> cases g x <;> cases pz (l.map f) <;> cases pz (l.map g) <;> rfl
def uk:Nat->List (List Bool)
 |0=>[[]]
 |n+1=>(uk n).map (false :: ·)++(uk n).map (true :: ·)
theorem rP:∀{n:Nat}{x:List Bool},x∈uk n↔x.length=n
 |0,x=>by simp[uk]
 |n+1,x=>by
  unfold uk;rw[mAq,mMq,mMq];constructor
  .rintro(⟨y,l,rfl⟩|⟨y,l,rfl⟩) <;> simp[rP.mp l]
  .intro h;cases x with
   |nil=>cases h
   |cons b y=>
    have l:y∈uk n:=rP.mpr (by simpa using h)
    cases b
    .exact .inl ⟨y,l,rfl⟩
    .exact .inr ⟨y,l,rfl⟩
theorem zR:∀n:Nat,(uk n).Nodup
 |0=>by simp[uk]
 |n+1=>by
  unfold uk;rw[nAq];refine⟨aV.mpr ((zR n).imp λh e=>h (by injection e)),aV.mpr ((zR n).imp λh e=>h (by injection e)),?_⟩
  intro a ha b hb e;obtain⟨y,_,rfl⟩:=mMq.mp ha;obtain⟨z,_,rfl⟩:=mMq.mp hb;cases e
theorem DU:∀n:Nat,(uk n).length=2 ^ n
 |0=>rfl
 |n+1=>by
  unfold uk;rw[lAq,lMq,lMq,DU n,iK];lia
def G1(i:Nat)(x:List Bool):List Bool:=x.set i (!x.getD i false)
def LW(i:Nat)(x:List Bool):(G1 i x).length=x.length:=lZq
def GK{i:Nat}{x:List Bool}(h:i<x.length):G1 i (G1 i x)=x:=by
 apply cV;intro j;unfold G1;rw[bG,bG]
 by_cases e:i=j
 .subst e;simp[h,List.getD]
 .simp[e]
def QU{n i:Nat}(h:i<n):((uk n).map (G1 i)).Perm (uk n):=by
 have inj:∀a∈uk n,∀b∈uk n,G1 i a=G1 i b->a=b:=λa ha b hb e=>by
  have:=congrArg (G1 i) e
  rwa [GK (by rw[rP.mp ha];exact h),GK (by rw[rP.mp hb];exact h)]at this
 have nd:((uk n).map (G1 i)).Nodup:=by
  have:=zR n;rw[aW]at this ⊢;rw[aV];exact bq.imp_of_mem (λha hb ne e=>ne (inj _ ha _ hb e)) this
 refine(aX nd (zR n)).mpr λx=>?_
 constructor
 .intro l;obtain⟨y,s,rfl⟩:=mMq.mp l;exact rP.mpr (by rw[LW,rP.mp s])
 .intro l;exact mMq.mpr ⟨G1 i x,rP.mpr (by rw[LW,rP.mp l]),GK (by rw[rP.mp l];exact h)⟩
def ZI{n i:Nat}(h:i<n){p q:List Bool->Bool}(s:∀x,x.length=n->p (G1 i x)=p x)(t:∀x,x.length=n->q (G1 i x) = !q x):(uk n).countP p=2*(uk n).countP (λx=>p x && q x):=by
 have u:(uk n).countP (λx=>p x && !q x)=(uk n).countP (λx=>p x && q x):=by
  rw[← (QU h).countP_eq (λx=>p x && q x),ju]
  exact gg λx z=>by
   have l:=rP.mp z;show _↔(p (G1 i x) && q (G1 i x))=true;rw[s x l,t x l]
 have B:∀l:List (List Bool),l.countP p=l.countP (λx=>p x && q x)+l.countP (λx=>p x && !q x):=λl=>by
  induction l with
  |nil=>rfl
  |cons x l E=>
   rw[iC,iC,iC,E];cases p x <;> cases q x <;> simp <;> lia
 rw[B,u];lia
def AH(r:Ϝ)(x:List Bool):Bool:=pz (gS (λa b=>decide (a=1) && b) r x)
def uV(a:Int)(r:Ϝ)(b:Bool)(x:List Bool):AH (a::r) (b::x)=xor (decide (a=1) && b) (AH r x):=rfl
theorem GY:∀{r:Ϝ}{x:List Bool}{i:Nat},r.length=x.length->i<x.length->AH r (G1 i x)=xor (AH r x) (decide (r.getD i 0=1))
 | [],x,i,h,hi=>by rw[←h]at hi;cases hi
 |a::r,[],i,h,hi=>by cases hi
 |a::r,b::x,0,h,hi=>by
  show AH (a::r) ((!b)::x)=xor (AH (a::r) (b::x)) (decide (a=1));rw[uV,uV];cases decide (a=1) <;> cases b <;> cases AH r x <;> rfl
 |a::r,b::x,i+1,h,hi=>by
  have:=GY (r:=r) (x:=x) (i:=i) (by simpa using h) (by simpa using hi)
  show AH (a::r) (b::G1 i x)=xor (AH (a::r) (b::x)) (decide (r.getD i 0=1));rw[uV,uV,this,gZ]
def O1(r:Ϝ):Prop:=∀a∈r,a=0∨a=1
def Me(r s:Ϝ):Ϝ:=gS (λa b=>(a+b) % 2) r s
def Ga{r s:Ϝ}(h:r.length=s.length):(Me r s).length=r.length:=by
 unfold Me;rw[List.length_zipWith];lia
theorem Ox:∀{r s:Ϝ},O1 (Me r s)
 | [],s,a,h=>by cases h
 |x::r,[],a,h=>by cases h
 |x::r,y::s,a,h=>by
  rcases ae.mp h with rfl|h
  .show(x+y) % 2=0∨(x+y) % 2=1;lia
  .exact Ox a h
theorem Ll:∀{r s:Ϝ}{x:List Bool},O1 r->O1 s->r.length=x.length->s.length=x.length->AH (Me r s) x=xor (AH r x) (AH s x)
 | [],[],[],_,_,_,_=>rfl
 | [],_::_,[],_,_,_,h=>by cases h
 |_::_,_,[],_,_,h,_=>by cases h
 | [],_,_::_,_,_,h,_=>by cases h
 |_::_,[],_::_,_,_,_,h=>by cases h
 |a::r,b::s,c::x,n,t,l1,l2=>by
  have u:=Ll (r:=r) (s:=s) (x:=x) (λz l=>n z (mCo _ l)) (λz l=>t z (mCo _ l)) (by simpa using l1) (by simpa using l2)
  show AH ((a+b) % 2::Me r s) (c::x)=_;rw[uV,uV,uV,u];have k:decide ((a+b) % 2=1)=xor (decide (a=1)) (decide (b=1)):=by
   rcases n a (ai ..)with rfl|rfl <;> rcases t b (ai ..)with rfl|rfl <;> rfl
  rw[k];cases decide (a=1) <;> cases decide (b=1) <;> cases c <;> cases AH r x <;> cases AH s x <;> rfl
def op(R:Λ)(x:List Bool):Bool:=R.all λr=>!AH r x
def OY(R S:Λ)(x:List Bool):op (R++S) x=(op R x && op S x):=List.all_append
def MZ(r:Ϝ)(i:Nat)(R:Λ):Λ:=R.map λo=>if o.getD i 0=1 then Me o r else o
inductive Rk:Λ->Nat->Prop
 |nil:Rk [] 0
 |no {R:Λ}{r:Ϝ}{k:Nat}:1∉r->Rk R k->Rk (R++[r]) k
 |yes {R:Λ}{r:Ϝ}{k i:Nat}:i<r.length->r.getD i 0=1->Rk (MZ r i R) k->Rk (R++[r]) (k+1)
def Rk.count{n:Nat}{R:Λ}{k:Nat}(h:Rk R k):(∀r∈R,r.length=n/\O1 r)->(uk n).countP (op R)*2 ^ k=2 ^ n:=by
 induction h with
 |nil=>
  intro _;rw[show(uk n).countP (op [])=(uk n).length from iU.mpr λ_ _=>rfl,DU]
  lia
 | @no R r k E _ u=>
  intro h;rw[←u λs hs=>h s (ak _ hs)]
  congr 1;refine gg λx t=>?_
  have I:∀{s:Ϝ}{y:List Bool},1∉s->AH s y=false:=λ{s}=>by
   induction s with
   |nil=>intro y _;rfl
   |cons a s u=>
    intro y hs;cases y with
    |nil=>rfl
    |cons b y=>
     rw[uV,u λq=>hs (mCo _ q),d4 (show ¬ a=1 from λe=>hs (by rw[e];exact ai ..))]
     rfl
  rw[OY,show op [r] x=true by show(!AH r x && true)=true;rw[I E];rfl,jF]
 | @yes R r k i hi E _ u=>
  intro h;have hr:=h r (by simp)
  have G:∀s∈R,s.length=n/\O1 s:=λs hs=>h s (ak _ hs)
  have H:i<n:=by rw[←hr.1];exact hi
  have u:=u λs hs=>by
   obtain⟨o,B,rfl⟩:=mMq.mp hs;obtain⟨l,q⟩:=G o B;split
   .exact⟨by rw[Ga (by rw[l,hr.1]),l],Ox⟩
   .exact⟨l,q⟩
  have J:∀x:List Bool,x.length=n->op (R++[r]) x=(op (MZ r i R) x && !AH r x):=λx t=>by
   rw[OY,show op [r] x = !AH r x from jF _]
   cases q:AH r x with
   |true=>simp
   |false=>
    congr 1;show R.all _=(R.map _).all _;rw[jL];apply bS.mpr;rw[fG,fG];refine forall_congr' λo=>forall_congr' λB=>?_
    show _↔(!AH (if o.getD i 0=1 then Me o r else o) x)=true
    split
    .rw[Ll (G o B).2 hr.2 (by rw[(G o B).1,t]) (by rw[hr.1,t]),q,hU]
    .exact Iff.rfl
  have L:∀s∈MZ r i R,s.length=n/\s.getD i 0≠1:=λs hs=>by
   obtain⟨o,B,rfl⟩:=mMq.mp hs;obtain⟨l,q⟩:=G o B;split
   case isTrue c=>
    refine⟨by rw[Ga (by rw[l,hr.1]),l],?_⟩
    have:(Me o r).getD i 0=(o.getD i 0+r.getD i 0) % 2:=by
     unfold Me;rw[gDq,gDq,gDq,gD,gEg (by lia),gEg hi]
     rfl
    rw[this,c,E];decide
   case isFalse c=>exact⟨l,c⟩
  have M:=ZI H (p:=op (MZ r i R)) (q:=λx=>!AH r x) (λx t=>by
   apply bS.mpr;unfold op;rw[fG,fG];refine forall_congr' λo=>forall_congr' λB=>?_
   obtain⟨l,z⟩:=L o B;rw[GY (by rw[l,t]) (by lia),d4 z,hU]) (λx t=>by
   show(!AH r (G1 i x)) = !!AH r x;rw[GY (by rw[hr.1,t]) (by lia),E]
   cases AH r x <;> rfl)
  rw[gg (q:=λx=>op (MZ r i R) x && !AH r x) λx t=>by rw[J x (rP.mp t)]]
  rw[M]at u;rw[iK,←u,gU (2 ^ k) 2,←iy,gU _ 2]
end K55
namespace K51
open PySem L2 Mr Z Xe Zl
def rd(st sh a b k:Int):Int:=st*(1+(a*k+b) % 67)+sh
def rds(st sh a b:Int):Ϝ:=(az 67).map λk:Nat=>rd st sh a b k
def DL{st sh a b:Int}(t:1<=a)(u:a<=66):rL sJ (kSc (pO uX (pO xD (oI 2) (pO uX (rC (.int 1)) (pO uo (pO uX (pO xD (oI 4) (oI 0)) (oI 3)) (rC (.int 67))))) (oI 1))) [i3 sh,i3 st,i3 b,i3 a] (qg 0 67)=some ((rds st sh a b).map λz=>.sh (.int z)):=by
 have key:=uA (te:=kSc (pO uX (pO xD (oI 2) (pO uX (rC (.int 1)) (pO uo (pO uX (pO xD (oI 4) (oI 0)) (oI 3)) (rC (.int 67))))) (oI 1))) (cap:=[i3 sh,i3 st,i3 b,i3 a])
  (λd=>match d with|.int k=>.sh (.int (rd st sh a b k))|_=>.sh .non) (ds:=qg 0 67) (by
  intro d hd;rw[zt]at hd;obtain⟨k,_,rfl⟩:=mMq.mp hd;have b1:0<=(a*(k:Int)+b) % 67:=bJ _ (by decide)
  have b2:(a*(k:Int)+b) % 67<67:=bH _ (by decide)
  have n:=Jp (i:=a) (j:=(k:Int)) (by lia) (by lia)
  have s:=Vo (i:=st) (j:=1+(a*(k:Int)+b) % 67) (by lia) (by lia)
  have l:=λi:Int=>sv (i:=i) (j:=67) (by decide)
  refine⟨[i3 (k:Int),i3 sh,i3 st,i3 b,i3 a],?_⟩
  simp_arith [n,s,l,rd])
 rw[key,zt,mPq];unfold rds;rw[mPq];rfl
def roads_ok(ns:Ϝ):∃st sh a b:Int,1<=st/\st<=10 ^ 57/\0<=sh/\sh<10 ^ 59/\1<=a/\a<=66/\0<=b/\b<67/\vN [.scr ns]=some (aI (rds st sh a b)):=by
 have L:0<=cell ns 0 / 3 % 66:=bJ _ (by decide)
 have M:cell ns 0 / 3 % 66<66:=bH _ (by decide)
 have b1:0<=cell ns 0 / 198 % 67:=bJ _ (by decide)
 have b2:cell ns 0 / 198 % 67<67:=bH _ (by decide)
 have O:0<=cell ns 1 % 10 ^ 57:=bJ _ (by decide)
 have P:cell ns 1 % 10 ^ 57<10 ^ 57:=bH _ (by decide)
 have I:0<=cell ns 2 % 10 ^ 59:=bJ _ (by decide)
 have J:cell ns 2 % 10 ^ 59<10 ^ 59:=bH _ (by decide)
 have E:=λi:Int=>sv (i:=i) (j:=3) (by decide)
 have s:=λi:Int=>sv (i:=i) (j:=66) (by decide)
 have t:=λi:Int=>sv (i:=i) (j:=67) (by decide)
 have z:=λi:Int=>sv (i:=i) (j:=10 ^ 57) (by decide)
 have B:=λi:Int=>sv (i:=i) (j:=10 ^ 59) (by decide)
 have G:=λi:Int=>yM (i:=i) (j:=3) (by decide) (by decide)
 have l:=λi:Int=>yM (i:=i) (j:=198) (by decide) (by decide)
 have u:CV [.int 67]=some (qg 0 67):=zQ (n:=67) (by decide)
 have x:(qg 0 67).length<=qF:=by rw[pY];show 67<=16777216;decide
 by_cases H:0<cell ns 0 % 3
 .refine⟨1+cell ns 1 % 10 ^ 57,cell ns 2 % 10 ^ 59,1+cell ns 0 / 3 % 66,cell ns 0 / 198 % 67,by lia,by lia,I,J,by lia,by lia,b1,b2,?_⟩
  have rc:=DL (st:=1+cell ns 1 % 10 ^ 57) (sh:=cell ns 2 % 10 ^ 59) (a:=1+cell ns 0 / 3 % 66) (b:=cell ns 0 / 198 % 67) (by lia) (by lia)
  simp_arith [vN,AW,V1,Zf,aar,H,E,s,t,z,B,G,l,p57,p59,u,x,rc]
 .refine⟨1,0,1+cell ns 0 / 3 % 66,cell ns 0 / 198 % 67,by decide,by decide,by decide,by decide,by lia,by lia,b1,b2,?_⟩
  have rc:=DL (st:=1) (sh:=0) (a:=1+cell ns 0 / 3 % 66) (b:=cell ns 0 / 198 % 67) (by lia) (by lia)
  simp_arith [vN,AW,V1,H,E,s,t,G,l,u,x,rc]
def W7{st sh a b:Int}(z:1<=st)(B:1<=a)(E:a<=66){j k:Nat}(G:j<67)(hk:k<67)(h:rd st sh a b j=rd st sh a b k):j=k:=by
 unfold rd at h;have n:st*(1+(a*j+b) % 67)=st*(1+(a*k+b) % 67):=by lia
 have H:=Int.eq_of_mul_eq_mul_left (by lia) n
 have s:((a*j+b)-(a*k+b)) % 67=0:=Int.emod_eq_emod_iff_emod_sub_eq_zero.mp (by lia)
 have t:(a*((j:Int)-k)) % 67=0:=by
  rw[←s];congr 1;rw[Int.mul_sub];lia
 obtain⟨l,rfl⟩:∃l:Nat,a=(l:Int)+1:=⟨(a-1).toNat,by lia⟩
 rcases fu j k with q|q|q
 .exfalso;refine Mr.K9 ⟨l,by lia⟩ ⟨k-j,by lia⟩ (by show 0<k-j;lia) ?_
  show(l+1)*(k-j) % 67=0;have u:(((l:Int)+1)*((k:Int)-j)) % 67=0:=by
   have:((l:Int)+1)*((k:Int)-j) = -(((l:Int)+1)*((j:Int)-k)):=by
    rw[←Int.mul_neg];congr 1;lia
   rw[this];lia
  have x:(((l+1)*(k-j) % 67:Nat):Int)=0:=by
   rw[←u];push_cast [cC q];rfl
  lia
 .exact q
 .exfalso;refine Mr.K9 ⟨l,by lia⟩ ⟨j-k,by lia⟩ (by show 0<j-k;lia) ?_
  show(l+1)*(j-k) % 67=0;have x:(((l+1)*(j-k) % 67:Nat):Int)=0:=by
   rw[←t];push_cast [cC q];rfl
  lia
def rds_len(st sh a b:Int):(rds st sh a b).length=67:=by unfold rds;rw[lMq,aB]
def Mz{st sh a b:Int}(l:1<=st)(n:1<=a)(s:a<=66):(rds st sh a b).Nodup:=by
 unfold rds;rw[aW,aV];refine bq.imp_of_mem (λ{x y} hx hy hne e=>hne (W7 l n s (bD.mp hx) (bD.mp hy) e)) (aW.mp dz)
def UP{st sh a b:Int}(l:1<=st)(n:0<=sh){z:Int}(h:z∈rds st sh a b):1<=z:=by
 obtain⟨k,_,rfl⟩:=mMq.mp h;have b1:0<=(a*(k:Int)+b) % 67:=bJ _ (by decide)
 have:1*1<=st*(1+(a*(k:Int)+b) % 67):=Int.mul_le_mul l (by lia) (by decide) (by lia)
 show 1<=st*(1+(a*(k:Int)+b) % 67)+sh;lia
def UZ{rs:Λ}(hl:rs.length<=500000):vO [dM rs]=some (.ow (rs.map aI)):=by
 have key:=uA (te:=Br (vh 0)) (cap:=[]) (λd=>match d with|.list l=>.ow (l.map .sh)|_=>.sh .non) (ds:=rs.map dI) (by
  intro d hd;obtain⟨r,_,rfl⟩:=mMq.mp hd;refine⟨[some (.sh (dI r))],?_⟩
  simp_arith [dI])
 have n:rs.length<=qF:=by show _<=16777216;lia
 have e:(rs.map dI).map (λd=>match d with|D.list l=>AV.ow (l.map .sh)|_=>.sh .non)=rs.map aI:=by
  rw[mPq];refine mCq λr _=>?_
  show AV.ow ((r.map D.int).map .sh)=aI r;rw[mPq];rfl
 rw[e]at key
 simp_arith [vO,FQ,dM,key,n]
def AY(x:String×Int):AV:=.sh (.tup [.str x.1,.int x.2])
def kd(ks:Θ):List (pI×D):=ks.map λk:Nat=>((aA (k:Int):pI),D.bl true)
def wd(ws:Θ):List AV:=ws.map λk:Nat=>AV.sh (.int (k:Int))
def JA(ks:Θ)(t:Nat):(kd ks).any (λkv=>decide (kv.1=(aA (t:Int):pI)))=decide (t∈ks):=by
 induction ks with
 |nil=>simp[kd]
 |cons k ks l=>
  unfold kd at l ⊢;rw[au,dN,l]
  by_cases h:t=k
  .subst h;simp
  .have n:¬ (aA (k:Int):pI)=aA (t:Int):=λq=>h (by have:=aA.inj q;lia)
   simp[n,h]
def Rj(ks:Θ)(t:Nat):(getD (kd ks) (aA (t:Int))).isSome=decide (t∈ks):=by
 unfold getD;rw[cU,←JA,bS,fv,fF]
def R5{ks:Θ}{t:Nat}(h:t∉ks):xn (kd ks) (aA (t:Int)) (.bl true)=kd (ks++[t]):=by
 unfold xn;rw[JA,d4 h,pE (by simp)]
 simp[kd]
def Kj{kvs:List (pI×D)}{ks ws:Θ}{e:Int}{t:Nat}{v0 v1 v5 v7:Option AV}(s:getD kvs (aA (-e))=some (.int (t:Int)))(hk:ks.length<500000)(hw:ws.length<500000) :
  tj [v0,v1,some (.owd kvs),some (.owd (kd ks)),some (.ow (wd ws)),v5,i3 e,v7]=some (.nx [v0,v1,some (.owd kvs),some (.owd (kd (if t∈ks then ks else ks++[t]))),some (.ow (wd (if t∈ks then ws else ws++[t]))),v5,i3 e,i3 (t:Int)]):=by
 have u:(kd ks).length<qF:=by unfold kd;rw[lMq];show _<16777216;lia
 have x:(wd ws).length<qF:=by unfold wd;rw[lMq];show _<16777216;lia
 have l:=Rj ks t
 by_cases h:t∈ks
 .rw[d0 h]at l
  simp_arith [tj,s,l,h]
 .rw[d4 h]at l;have z:=R5 h;have n:wd ws++[.sh (.int (t:Int))]=wd (ws++[t]):=by simp[wd]
  simp_arith [tj,s,l,h,z,u,x,n]
def Dh(pl:Int->Nat)(x:List Nat×Θ)(e:Int):List Nat×Θ:=if pl (-e)∈x.1 then x else (x.1++[pl (-e)],x.2++[pl (-e)])
theorem Li(pl:Int->Nat):∀(r:Ϝ) (x:List Nat×Θ),(r.foldl (Dh pl) x).1.length<=x.1.length+r.length/\(r.foldl (Dh pl) x).2.length<=x.2.length+r.length
 | [],x=>⟨af _,af _⟩
 |e::r,x=>by
  obtain⟨l,n⟩:=Li pl r (Dh pl x e);have s:(Dh pl x e).1.length<=x.1.length+1/\(Dh pl x e).2.length<=x.2.length+1:=by
   unfold Dh;split
   .exact⟨cg _,cg _⟩
   .simp
  rw[cZ,lCq];lia
def M8{kvs:List (pI×D)}{ks ws:Θ}{r:Ϝ}{pl:Int->Nat}{v0 v1 v5 v6 v7:Option AV}(z:∀e∈r,getD kvs (aA (-e))=some (.int (pl (-e):Int)))(hk:ks.length+r.length<500000)(hw:ws.length+r.length<500000) :
  ∃n l,rF 6 tj (r.map D.int) [v0,v1,some (.owd kvs),some (.owd (kd ks)),some (.ow (wd ws)),v5,v6,v7]=some (.nx [v0,v1,some (.owd kvs),some (.owd (kd (r.foldl (Dh pl) (ks,ws)).1)),some (.ow (wd (r.foldl (Dh pl) (ks,ws)).2)),v5,n,l]):=by
 have key:=rZ (x:=6) (body:=tj) (λi S=>∃n l,S=[v0,v1,some (.owd kvs),some (.owd (kd ((r.take i).foldl (Dh pl) (ks,ws)).1)),some (.ow (wd ((r.take i).foldl (Dh pl) (ks,ws)).2)),v5,n,l]) (ds:=r.map D.int) (S:=[v0,v1,some (.owd kvs),some (.owd (kd ks)),some (.ow (wd ws)),v5,v6,v7])
  ⟨v6,v7,rfl⟩ (by
  rintro i d S hd ⟨n,l,rfl⟩;rw[gMq]at hd;obtain⟨e,s,rfl⟩:=oMq.mp hd;have hi:i<r.length:=(gSq.mp s).1;have B:e∈r:=mGq s;obtain⟨t,u⟩:=Li pl (r.take i) (ks,ws);rw[lTq]at t u;have E:((r.take i).foldl (Dh pl) (ks,ws)).1.length<=ks.length+min i r.length:=t;have G:((r.take i).foldl (Dh pl) (ks,ws)).2.length<=ws.length+min i r.length:=u;have step:=Kj (v0:=v0) (v1:=v1) (v5:=v5) (v7:=l) (z e B) (ks:=((r.take i).foldl (Dh pl) (ks,ws)).1) (ws:=((r.take i).foldl (Dh pl) (ks,ws)).2) (by lia) (by lia)
  have H:(r.take (i+1)).foldl (Dh pl) (ks,ws)=Dh pl ((r.take i).foldl (Dh pl) (ks,ws)) e:=by
   have:r[i]'hi=e:=by rw[gEg hi]at s;exact aO.inj s
   rw[gw hi,iu,this];rfl
  refine⟨_,step,i3 e,i3 (pl (-e):Int),?_⟩;rw[H];unfold Dh;split <;> rfl)
 obtain⟨I,e,n,l,rfl⟩:=key;rw[lMq,aE]at e;exact⟨n,l,e⟩
theorem WZ:∀(N:Nat) (l:Θ),l.Nodup->(∀x∈l,x<N)->l.length<=N
 |0,l,_,h=>by
  cases l with
  |nil=>exact af _
  |cons x l=>exact absurd (h x (ai ..)) (cW _)
 |N+1,l,hn,h=>by
  have n:=WZ N (l.erase N) (hn.erase N) (λx s=>by
   have:=(hn.mem_erase_iff).mp s;have:=h x this.2;lia)
  rw[List.length_erase]at n;split at n <;> lia
def plc(rs:Λ)(e:Int):Nat:=rs.findIdx λr=>decide (e∈r)
def same_place{rs:Λ}(hn:rs.flatten.Nodup){i j:Nat}{r s:Ϝ}{e:Int}(hi:rs[i]?=some r)(l:rs[j]?=some s)(n:e∈r)(t:e∈s):i=j:=by
 have a:=zX 0 hn hi n;have b:=zX 0 hn l t;rw[a]at b;have:=D.int.inj (aO.inj b);lia
def plc_eq{rs:Λ}(hn:rs.flatten.Nodup){i:Nat}{r:Ϝ}{e:Int}(hi:rs[i]?=some r)(l:e∈r):plc rs e=i:=by
 have hl:rs.findIdx (λr=>decide (e∈r))<rs.length:=eS ⟨r,mGq hi,d0 l⟩
 have n:=gL (xs:=rs) (p:=λr=>decide (e∈r)) (w:=hl)
 exact same_place hn (gEg hl) hi (of_decide_eq_true n) l
structure Mp (rs:Λ):Prop where
 hn:rs.flatten.Nodup
 hl:rs.flatten.length<=1000
 hr:rs.length<=1000
 hneg:∀e∈rs.flatten, -e∈rs.flatten
def Mp.at{rs:Λ}(h:Mp rs){e:Int}(s:e∈rs.flatten):∃r,rs[plc rs e]?=some r/\e∈r:=by
 obtain⟨r,t,l⟩:=mFq.mp s;obtain⟨i,n⟩:=ay.mp t;exact⟨r,by rw[plc_eq h.hn n l];exact n,l⟩
def Mp.other{rs:Λ}(h:Mp rs){k:Nat}{r:Ϝ}{e:Int}(hk:rs[k]?=some r)(l:e∈r):-e∈rs.flatten:=h.hneg e (mFq.mpr ⟨r,mGq hk,l⟩)
def Mp.kv{rs:Λ}(h:Mp rs){e:Int}(l:e∈rs.flatten):getD (qj 0 rs) (aA e)=some (.int (plc rs e:Int)):=by
 obtain⟨r,n,s⟩:=h.at l;have:=zX 0 h.hn n s
 rwa [bK]at this
def Mp.lt{rs:Λ}(h:Mp rs){e:Int}(l:e∈rs.flatten):plc rs e<rs.length:=by
 obtain⟨r,n,_⟩:=h.at l;exact(gSq.mp n).1
def Mp.row{rs:Λ}(h:Mp rs){k:Nat}{r:Ϝ}(hk:rs[k]?=some r):r.length<=1000:=by
 have:=cD.length_le (bh (mGq hk));have:=h.hl;lia
inductive ud (rs:Λ)(s:Nat):Nat->Prop
 |base:ud rs s s
 |step {k:Nat}{r:Ϝ}{e:Int}:ud rs s k->rs[k]?=some r->e∈r->ud rs s (plc rs (-e))
theorem Ec(pl:Int->Nat):∀(r:Ϝ) (ks ws:Θ),∃a,r.foldl (Dh pl) (ks,ws)=(ks++a,ws++a)/\(∀k∈a,∃e∈r,k=pl (-e))/\(∀e∈r,pl (-e)∈ks++a)/\(ks.Nodup->(ks++a).Nodup)
 | [],ks,ws=>⟨[],by simp,by simp,by simp,by simp⟩
 |e::r,ks,ws=>by
  rw[cZ]
  by_cases h:pl (-e)∈ks
  .have n:Dh pl (ks,ws) e=(ks,ws):=by unfold Dh;rw[pH h]
   rw[n];obtain⟨a,s,t,u,z⟩:=Ec pl r ks ws;refine⟨a,s,λk hk=>?_,λx l=>?_,z⟩
   .obtain⟨x,l,q⟩:=t k hk;exact⟨x,mCo _ l,q⟩
   .rcases ae.mp l with rfl|l
    .exact mAq.mpr (.inl h)
    .exact u x l
  .have n:Dh pl (ks,ws) e=(ks++[pl (-e)],ws++[pl (-e)]):=by unfold Dh;rw[pE h]
   rw[n];obtain⟨a,s,t,u,z⟩:=Ec pl r (ks++[pl (-e)]) (ws++[pl (-e)]);refine⟨pl (-e)::a,by rw[s,aa,aa];rfl,λk hk=>?_,λx l=>?_,λhn=>?_⟩
   .rcases ae.mp hk with rfl|hk
    .exact⟨e,ai ..,rfl⟩
    .obtain⟨x,l,q⟩:=t k hk;exact⟨x,mCo _ l,q⟩
   .rcases ae.mp l with rfl|l
    .exact mAq.mpr (.inr (ai ..))
    .have:=u x l
     rwa [aa]at this
   .have:=z (by
     rw[nAq];exact⟨hn,by simp,λx l y B q=>h (by rw[mSq.mp B]at q;rw[←q];exact l)⟩)
    rwa [aa]at this
structure Inv (rs:Λ)(s:Nat)(ks ws:Θ):Prop where
 nd:ks.Nodup
 lt:∀k∈ks,k<rs.length
 st:s∈ks
 rc:∀k∈ks,ud rs s k
 sub:∀w∈ws,w∈ks
 cl:∀k∈ks,k∉ws->∀r e,rs[k]?=some r->e∈r->plc rs (-e)∈ks
 few:2*(rs.length-ks.length)+ws.length<=2*rs.length+1
def Inv.go{rs:Λ}(t:Mp rs){s h:Nat}{ks ws:Θ}{r:Ϝ}(hi:Inv rs s ks (ws++[h]))(hr:rs[h]?=some r):∃a,r.foldl (Dh (plc rs)) (ks,ws)=(ks++a,ws++a)/\Inv rs s (ks++a) (ws++a)/\2*(rs.length-(ks++a).length)+(ws++a).length<2*(rs.length-ks.length)+(ws++[h]).length:=by
 obtain⟨a,x,u,B,E⟩:=Ec (plc rs) r ks ws;have hh:h∈ks:=hi.sub h (by simp)
 have nd:=E hi.nd;have lt:∀k∈ks++a,k<rs.length:=by
  intro k hk;rcases mAq.mp hk with q|q
  .exact hi.lt k q
  .obtain⟨e,n,rfl⟩:=u k q;exact t.lt (t.other hr n)
 have pl:=WZ _ _ nd lt;have G:=hi.few;rw[lAq]at pl;rw[lAq,lSq]at G;have key:2*(rs.length-(ks++a).length)+(ws++a).length<2*(rs.length-ks.length)+(ws++[h]).length:=by
  rw[lAq,lAq,lAq,lSq];lia
 refine⟨a,x,⟨nd,lt,mAq.mpr (.inl hi.st),λk hk=>?_,λw hw=>?_,λk hk hw=>?_,?_⟩,key⟩
 .rcases mAq.mp hk with q|q
  .exact hi.rc k q
  .obtain⟨e,n,rfl⟩:=u k q;exact .step (hi.rc h hh) hr n
 .rcases mAq.mp hw with q|q
  .exact mAq.mpr (.inl (hi.sub w (mAq.mpr (.inl q))))
  .exact mAq.mpr (.inr q)
 .intro H e l n;have I:k∈ks:=(mAq.mp hk).resolve_right λq=>hw (mAq.mpr (.inr q))
  by_cases q:k=h
  .subst q;rw[hr]at l;cases l;exact B e n
  .exact mAq.mpr (.inl (hi.cl k I (λz=>by
    rcases mAq.mp z with z|z
    .exact hw (mAq.mpr (.inl z))
    .exact q (mSq.mp z)) H e l n))
 .rw[lAq,lAq]at key ⊢;rw[lAq,lSq]at key;lia
def mu(N:Nat):AS->Nat
 | [_,_,_,some (.owd kv),some (.ow w),_,_,_]=>2*(N-kv.length)+w.length
 |_=>0
def J7{rs:Λ}(n:Mp rs){s:Nat}(hs:s<rs.length):∃S',rz (ug (pO Oq (uY rH (oJ (oI 4) oS)) (rC (.int 0)))) vx 100000 [some (.sh (dM rs)),i3 (s:Int),some (.owd (qj 0 rs)),some (.owd (kd [s])),some (.ow (wd [s])),none,none,none]=some (.nx S') /\
  ∃ks v5 v6 v7,S'=[some (.sh (dM rs)),i3 (s:Int),some (.owd (qj 0 rs)),some (.owd (kd ks)),some (.ow (wd [])),v5,v6,v7]/\Inv rs s ks []:=by
 have t:=n.hr;refine ur (c:=ug (pO Oq (uY rH (oJ (oI 4) oS)) (rC (.int 0)))) (body:=vx) (λS=>∃ks l v5 v6 v7,S=[some (.sh (dM rs)),i3 (s:Int),some (.owd (qj 0 rs)),some (.owd (kd ks)),some (.ow (wd l)),v5,v6,v7]/\Inv rs s ks l) (mu rs.length) (λS'=>∃ks v5 v6 v7,S'=[some (.sh (dM rs)),i3 (s:Int),some (.owd (qj 0 rs)),some (.owd (kd ks)),some (.ow (wd [])),v5,v6,v7]/\Inv rs s ks []) ?_ 100000 _ ⟨[s],[s],none,none,none,rfl,?_⟩ ?_
 .rintro S ⟨ks,l,v5,v6,v7,rfl,hi⟩;rcases dZ l with rfl|⟨l,h,rfl⟩
  .refine⟨false,_,?_,λq=>(nomatch q),λ_=>⟨ks,v5,v6,v7,rfl,hi⟩⟩
   simp_arith [wd]
   rfl
  .rw[eD]at hi ⊢;have u:h<rs.length:=hi.lt h (hi.sub h (by simp))
   have hr:rs[h]?=some rs[h]:=gEg u;obtain⟨a,I,x,z⟩:=hi.go n hr;have few:=hi.few;have P:=WZ _ _ hi.nd hi.lt;have Q:=n.row hr;rw[lAq,lSq]at few;obtain⟨B,E,H⟩:=M8 (kvs:=qj 0 rs) (ks:=ks) (ws:=l) (r:=rs[h]) (pl:=plc rs) (v0:=some (.sh (dM rs))) (v1:=i3 (s:Int)) (v5:=i3 (h:Int)) (v6:=v6) (v7:=v7) (λe J=>n.kv (n.other hr J)) (by lia) (by lia)
   rw[I]at H;have hw:wd (l++[h])=wd l++[.sh (.int (h:Int))]:=by simp[wd]
   have R:(wd l).length=l.length:=by simp[wd]
   have L:(0:Int)<((wd l++[AV.sh (.int (h:Int))]).length:Int):=by
    rw[lAq,lSq];lia
   have M:(wd l++[AV.sh (.int (h:Int))])[(wd l++[AV.sh (.int (h:Int))]).length-1]?=i3 (h:Int):=by
    rw[lAq,lSq,gYq (by lia)]
    simp
   have O:(wd l++[AV.sh (.int (h:Int))]).dropLast=wd l:=eQ;have G:atI (rs.map dI) (h:Int)=some (dI rs[h]):=uz (by rw[gMq,hr];rfl)
   refine⟨true,[some (.sh (dM rs)),i3 (s:Int),some (.owd (qj 0 rs)),some (.owd (kd ks)),some (.ow (wd l++[.sh (.int (h:Int))])),v5,v6,v7],?_,λ_=>⟨[some (.sh (dM rs)),i3 (s:Int),some (.owd (qj 0 rs)),some (.owd (kd (ks++a))),some (.ow (wd (l++a))),i3 (h:Int),B,E],?_,⟨_,_,_,_,_,rfl,x⟩,?_⟩,λq=>(nomatch q)⟩
   .simp_arith [hw,L]
   .simp_arith [vx,M,O,dM,G,H]
   .show 2*(rs.length-(kd (ks++a)).length)+(wd (l++a)).length<2*(rs.length-(kd ks).length)+(wd (l++[h])).length;unfold kd wd;rw[lMq,lMq,lMq,lMq];exact z
 .refine⟨by simp,?_,by simp,?_,λw h=>h,?_,?_⟩
  .intro k hk;rw[mSq.mp hk];exact hs
  .intro k hk;rw[mSq.mp hk];exact .base
  .intro k hk hn;exact absurd hk hn
  .simp only[lSq];lia
 .show 2*(rs.length-(kd [s]).length)+(wd [s]).length<100000;simp only[kd,wd,lMq,lSq];lia
def KS{rs:Λ}(l:Mp rs){s:Nat}(hs:s<rs.length):∃ks,Inv rs s ks []/\xQ [dM rs,.int (s:Int)]=some (aI (qQ (ks.map λk:Nat=>(k:Int)))):=by
 obtain⟨B,e,ks,E,G,H,rfl,hi⟩:=J7 l hs;have hl:=l.hl;have n:=yL l.hn (by lia)
 have t:[((aA (s:Int):pI),D.bl true)]=kd [s]:=rfl;have u:[AV.sh (.int (s:Int))]=wd [s]:=rfl;have x:Ap (kd ks)=some (ks.map λk:Nat=>(k:Int)):=FH (λk:Nat=>(k:Int)) (λ_=>D.bl true) ks
 have z:(wd [s]).length<=qF:=by show 1<=16777216;decide
 refine⟨ks,hi,?_⟩
 simp_arith [xQ,DE,n,t,u,e,x,z]
def Vb(ks:Θ):∃ps:Θ,ps.Perm ks/\ps.Pairwise (·<=·)/\qQ (ks.map λk:Nat=>(k:Int))=ps.map λk:Nat=>(k:Int):=by
 have l:=qT (ks.map λk:Nat=>(k:Int))
 have hs:=CL (ks.map λk:Nat=>(k:Int))
 have n:(qQ (ks.map λk:Nat=>(k:Int)))=((qQ (ks.map λk:Nat=>(k:Int))).map iV).map λk:Nat=>(k:Int):=by
  rw[mPq]
  conv=>lhs;rw[←ij (qQ (ks.map λk:Nat=>(k:Int)))]
  refine mCq λz s=>?_
  obtain⟨k,_,rfl⟩:=mMq.mp (l.mem_iff.mp s);rfl
 refine⟨(qQ (ks.map λk:Nat=>(k:Int))).map iV,?_,?_,n⟩
 .have:=l.map iV;rw[mPq]at this;have e:ks.map (iV∘λk:Nat=>(k:Int))=ks:=by
   conv=>rhs;rw[←ij ks]
   refine mCq λk _=>?_
   show iV (k:Int)=k;exact bA k
  rwa [e]at this
 .rw[aV];refine bq.imp (λh=>?_) hs
  lia
structure Pc (rs:Λ)(s:Nat)(ps:Θ):Prop where
 nd:ps.Nodup
 so:ps.Pairwise (·<=·)
 lt:∀k∈ps,k<rs.length
 iff:∀k,k∈ps↔ud rs s k
def Js{rs:Λ}(n:Mp rs){s:Nat}(hs:s<rs.length):∃ps,Pc rs s ps/\xQ [dM rs,.int (s:Int)]=some (aI (ps.map λk:Nat=>(k:Int))):=by
 obtain⟨ks,hi,e⟩:=KS n hs;obtain⟨ps,l,t,u⟩:=Vb ks;rw[u]at e;refine⟨ps,⟨l.symm.nodup hi.nd,t,λk hk=>hi.lt k (l.mem_iff.mp hk),λk=>⟨λhk=>hi.rc k (l.mem_iff.mp hk),λhk=>l.mem_iff.mpr ?_⟩⟩,e⟩
 induction hk with
 |base=>exact hi.st
 |step _ a b c=>exact hi.cl _ c (cM) _ _ a b
def xw(kn:Θ)(t:Nat):Θ:=if t∈kn then kn else kn++[t]
def UX(ks:Θ)(t:Nat):xn (kd ks) (aA (t:Int)) (.bl true)=kd (xw ks t):=by
 unfold xw
 by_cases h:t∈ks
 .rw[pH h];unfold xn;rw[JA,d0 h,pH rfl];unfold kd;rw[mPq];refine mCq λk _=>?_
  show(if _ then _ else _)=_
  split <;> rfl
 .rw[pE h];exact R5 h
def Ra(kn:Θ)(t:Nat):(xw kn t).length<=kn.length+1:=by
 unfold xw;split
 .lia
 .simp
theorem HB:∀(ps kn:Θ),(ps.foldl xw kn).length<=kn.length+ps.length
 | [],kn=>af _
 |p::ps,kn=>by
  have l:=HB ps (xw kn p);have n:=Ra kn p;rw[cZ,lCq];lia
def PK{kn:Θ}{t k:Nat}:k∈xw kn t↔k∈kn∨k=t:=by
 unfold xw;split
 .rename_i h;exact⟨.inl,λq=>q.elim id λq=>q ▸ h⟩
 .simp
theorem vS:∀{ps kn:Θ}{k:Nat},k∈ps.foldl xw kn↔k∈kn∨k∈ps
 | [],kn,k=>by simp
 |p::ps,kn,k=>by
  rw[cZ,vS,PK,ae,or_assoc]
def Ts{kn:Θ}{t:Nat}(h:kn.Nodup):(xw kn t).Nodup:=by
 unfold xw;split
 .exact h
 .rename_i q;rw[nAq];exact⟨h,by simp,λx l y n z=>q (by rw[mSq.mp n]at z;rw[←z];exact l)⟩
theorem K5:∀{ps kn:Θ},kn.Nodup->(ps.foldl xw kn).Nodup
 | [],kn,h=>h
 |p::ps,kn,h=>by
  rw[cZ];exact K5 (Ts h)
def NL{ps kn:Θ}{v0 v2 v3 v4 v5:Option AV}(hk:kn.length+ps.length<500000):∃l,rF 5 wI ((ps.map λk:Nat=>(k:Int)).map D.int) [v0,some (.owd (kd kn)),v2,v3,v4,v5]=some (.nx [v0,some (.owd (kd (ps.foldl xw kn))),v2,v3,v4,l]):=by
 have key:=rZ (x:=5) (body:=wI) (λi S=>∃l,S=[v0,some (.owd (kd ((ps.take i).foldl xw kn))),v2,v3,v4,l]) (ds:=(ps.map λk:Nat=>(k:Int)).map D.int) (S:=[v0,some (.owd (kd kn)),v2,v3,v4,v5]) ⟨v5,rfl⟩ (by
  rintro i d S hd ⟨l,rfl⟩;rw[gMq,gMq]at hd;obtain⟨z,t,rfl⟩:=oMq.mp hd;obtain⟨k,n,rfl⟩:=oMq.mp t;have hi:i<ps.length:=(gSq.mp n).1;have u:=HB (ps.take i) kn;rw[lTq]at u;have B:(kd ((ps.take i).foldl xw kn)).length<qF:=by unfold kd;rw[lMq];show _<16777216;lia
  have E:(ps.take (i+1)).foldl xw kn=xw ((ps.take i).foldl xw kn) k:=by
   have:ps[i]'hi=k:=by rw[gEg hi]at n;exact aO.inj n
   rw[gw hi,iu,this];rfl
  have s:=UX ((ps.take i).foldl xw kn) k;rw[←E]at s;refine⟨_,?_,i3 (k:Int),rfl⟩
  simp_arith [wI,B,s])
 obtain⟨G,e,l,rfl⟩:=key;rw[lMq,lMq,aE]at e;exact⟨l,e⟩
def Km{rs:Λ}{ps:Θ}(h:∀k∈ps,k<rs.length):rL sJ (Br (lOf (VW (vh 1) (oI 0)))) [some (.sh (dM rs))] ((ps.map λk:Nat=>(k:Int)).map D.int)=some (ps.map λk=>aI (rs.getD k [])):=by
 have key:=uA (te:=Br (lOf (VW (vh 1) (oI 0)))) (cap:=[some (.sh (dM rs))]) (λd=>match d with|.int k=>aI (rs.getD k.toNat [])|_=>.sh .non) (ds:=(ps.map λk:Nat=>(k:Int)).map D.int) (by
  intro d hd;rw[mPq]at hd;obtain⟨k,hk,rfl⟩:=mMq.mp hd;have l:=Za (h k hk);refine⟨[i3 (k:Int),some (.sh (dM rs))],?_⟩
  simp_arith [dM,l,Function.comp,bA,dI,aI,mPq]
  rfl)
 rw[key,mPq,mPq];rfl
def pA(rs:Λ)(ps:Θ):AV:=.ow (ps.map λk=>aI (rs.getD k []))
def ud.trans{rs:Λ}{a b c:Nat}(h:ud rs a b)(l:ud rs b c):ud rs a c:=by
 induction l with
 |base=>exact h
 |step _ p q r=>exact .step r p q
def ud.symm{rs:Λ}(l:Mp rs){a b:Nat}(h:ud rs a b):ud rs b a:=by
 induction h with
 |base=>exact .base
 | @step k r e _ p q n=>
  obtain⟨x,t,u⟩:=l.at (l.other p q);have:=ud.step (s:=plc rs (-e)) .base t u;rw[aM,plc_eq l.hn p q]at this;exact this.trans n
structure Ps (rs:Λ)(i:Nat)(kn:Θ)(PS:List Θ):Prop where
 sub:∀ps∈PS,∀k∈ps,k∈kn
 dj:PS.Pairwise λa b=>∀k∈a,k∉b
 pc:∀ps∈PS,∃s,s<rs.length/\Pc rs s ps
 all:∀k,k<i->k∈kn
 mem:∀k,k∈kn->∃ps∈PS,k∈ps
 nd:kn.Nodup
 lt:∀k∈kn,k<rs.length
 len:PS.length<=i
def Fb{rs:Λ}(J:Mp rs):∃kn PS,Ps rs rs.length kn PS/\zG [dM rs]=some (.ow (PS.map (pA rs))):=by
 have L:=J.hr;have key:=rZ (x:=3) (body:=xh) (λi S=>∃kn PS M H E,S=[some (.sh (dM rs)),some (.owd (kd kn)),some (.ow (PS.map (pA rs))),M,H,E]/\Ps rs i kn PS) (ds:=qg 0 rs.length) (S:=[some (.sh (dM rs)),some (.owd []),some (.ow []),none,none,none])
  ⟨[],[],none,none,none,rfl,⟨by simp,by simp,by simp,by simp,by simp,by simp,by simp,by simp⟩⟩ (by
  rintro i d S hd ⟨kn,PS,M,H,E,rfl,l⟩;have hi:i<rs.length:=by
   have:=(gSq.mp hd).1
   rwa [pY]at this
  rw[yn hi,iI]at hd;cases hd;have I:=Rj kn i
  by_cases c:i∈kn
  .rw[d0 c]at I;refine⟨[some (.sh (dM rs)),some (.owd (kd kn)),some (.ow (PS.map (pA rs))),i3 (i:Int),H,E],?_,kn,PS,_,_,_,rfl,l.sub,l.dj,l.pc,?_,l.mem,l.nd,l.lt,?_⟩
   .simp_arith [xh,I]
   .intro k hk;rcases cI.mp hk with q|rfl
    .exact l.all k q
    .exact c
   .have:=l.len;lia
  .rw[d4 c]at I;obtain⟨t,z,Q⟩:=Js J hi;have p1:=WZ _ _ l.nd l.lt;have p2:=WZ _ _ z.nd z.lt;have p3:=l.len;have R:t.length<=qF:=by show _<=16777216;lia
   have U:PS.length<qF:=by show _<16777216;lia
   obtain⟨O,X⟩:=NL (ps:=t) (kn:=kn) (v0:=some (.sh (dM rs))) (v2:=some (.ow (PS.map (pA rs)))) (v3:=i3 (i:Int)) (v4:=some (.sh (dI (t.map λk:Nat=>(k:Int))))) (v5:=E) (by lia)
   have Y:=Km z.lt;refine⟨[some (.sh (dM rs)),some (.owd (kd (t.foldl xw kn))),some (.ow ((PS++[t]).map (pA rs))),i3 (i:Int),some (.sh (dI (t.map λk:Nat=>(k:Int)))),O],?_,t.foldl xw kn,PS++[t],_,_,_,rfl,?_,?_,?_,?_,?_,K5 l.nd,?_,?_⟩
   .simp_arith [xh,I,Q,X,Y,R,U,mBq,pA]
   .intro u B k hk;rcases mAq.mp B with q|q
    .exact vS.mpr (.inl (l.sub u q k hk))
    .rw[mSq.mp q]at hk;exact vS.mpr (.inr hk)
   .rw[aR];refine⟨l.dj,List.pairwise_singleton ..,λu B b hb k hk G=>c ?_⟩
    rw[mSq.mp hb]at G;obtain⟨s,hs,P⟩:=l.pc u B;exact l.sub u B i ((P.iff i).mpr (((P.iff k).mp hk).trans (((z.iff k).mp G).symm J)))
   .intro u B;rcases mAq.mp B with q|q
    .exact l.pc u q
    .rw[mSq.mp q];exact⟨i,hi,z⟩
   .intro k hk;rcases cI.mp hk with q|rfl
    .exact vS.mpr (.inl (l.all k q))
    .exact vS.mpr (.inr ((z.iff k).mpr .base))
   .intro k hk;rcases vS.mp hk with q|q
    .obtain⟨u,a,b⟩:=l.mem k q;exact⟨u,mAq.mpr (.inl a),b⟩
    .exact⟨t,mAq.mpr (.inr (mSq.mpr rfl)),q⟩
   .intro k hk;rcases vS.mp hk with q|q
    .exact l.lt k q
    .exact z.lt k q
   .rw[lAq,lSq];lia)
 obtain⟨S',e,kn,PS,M,H,E,rfl,l⟩:=key;rw[pY]at l;have r1:=zQ (n:=rs.length) (by lia)
 refine⟨kn,PS,l,?_⟩
 simp_arith [zG,FA,dM,r1,e]
def rot(r:Ϝ):Ϝ:=r.drop 1++r.take 1
def qZ(r:Ϝ):List (pI×Int):=(r.zip (rot r)).map λp=>(.inl p.1,p.2)
def pU(rs:Λ):List (pI×Int):=(rs.map qZ).flatten
noncomputable def vm(ps:List (pI×Int)):List (pI×D):=ps.map λp=>(p.1,D.int p.2)
def Bw(r:Ϝ):(rot r).length=r.length:=by
 unfold rot;rw[lAq,aQ,lTq];lia
def rot_perm(r:Ϝ):(rot r).Perm r:=by
 unfold rot;refine aT.trans ?_;rw[aS]
def zw(r:Ϝ):(qZ r).length=r.length:=by
 unfold qZ;rw[lMq,jt,Bw,jJ]
def Bn(r:Ϝ):(qZ r).map (·.1)=r.map aA:=by
 unfold qZ;rw[mPq];have:r.map aA=((r.zip (rot r)).map jP).map (aA:Int->pI):=by rw[List.map_fst_zip (by rw[Bw];exact af _)]
 rw[this,mPq];rfl
def GZ(r:Ϝ):(qZ r).map (·.2)=rot r:=by
 unfold qZ;rw[mPq];have:rot r=(r.zip (rot r)).map Prod.snd:=by rw[List.map_snd_zip (by rw[Bw];exact af _)]
 exact this.symm
theorem uH:∀(rs:Λ),(pU rs).map (·.1)=rs.flatten.map aA
 | []=>rfl
 |r::rs=>by
  show(qZ r++pU rs).map (·.1)=_;rw[mBq,Bn,uH rs,fCq,mBq]
theorem A6:∀(rs:Λ),((pU rs).map (·.2)).Perm rs.flatten
 | []=>.nil
 |r::rs=>by
  show((qZ r++pU rs).map (·.2)).Perm _;rw[mBq,GZ,fCq];exact(rot_perm r).append (A6 rs)
def FU(rs:Λ):(pU rs).length=rs.flatten.length:=by
 have:=congrArg bV (uH rs)
 rwa [lMq,lMq]at this
def D9(rs:Λ)(r:Ϝ):pU (rs++[r])=pU rs++qZ r:=by
 unfold pU;rw[mBq,fAq];simp
def Lh(ps:List (pI×Int)):(vm ps).length=ps.length:=lMq _
def UI(a b:List (pI×Int)):vm (a++b)=vm a++vm b:=mBq
def Sn(ps:List (pI×Int)):(vm ps).map (·.1)=ps.map (·.1):=by
 unfold vm;rw[mPq];rfl
def Eb{r:Ϝ}{j:Nat}{z y:Int}(h:r[j]?=some z)(l:(rot r)[j]?=some y):(qZ r)[j]?=some (.inl z,y):=by
 unfold qZ;rw[gMq,eP (z:=(z,y)).mpr ⟨h,l⟩];rfl
def HF{rs:Λ}{i j:Nat}{r:Ϝ}{z y:Int}(hn:rs.flatten.Nodup)(hr:rs[i]?=some r)(hz:r[j]?=some z)(u:(rot r)[j]?=some y) :
  xn (vm (pU (rs.take i)++(qZ r).take j)) (.inl z) (.int y)=vm (pU (rs.take i)++(qZ r).take (j+1)):=by
 have n:=rh hr;have l:((rs.take i).flatten++r).Nodup:=by
  rw[←n];have B:rs.flatten=(rs.take (i+1)).flatten++(rs.drop (i+1)).flatten:=by rw[←fAq,aS]
  rw[B]at hn;exact(nAq.mp hn).1
 rw[BI]
 .rw[qf (Eb hz u),←aa,UI (_++_) [_]];rfl
 .rw[Sn,mBq,uH,ir,Bn,←ir];intro m;rcases mAq.mp m with m|m
  .obtain⟨x,s,t⟩:=mMq.mp m;cases t;exact(nAq.mp l).2.2 _ s _ (mGq hz) rfl
  .obtain⟨x,s,t⟩:=mMq.mp m;cases t;have:=bq.sublist (bE (j+1) r) (nAq.mp l).2.1;rw[qf hz]at this;exact(nAq.mp this).2.2 _ s _ (by simp) rfl
def Fu{rs:Λ}{i j:Nat}{r:Ϝ}(hl:rs.flatten.length<=1000)(hr:rs[i]?=some r):(vm (pU (rs.take i)++(qZ r).take j)).length<qF:=by
 refine Pg ?_;have l:=tU rs (i+1);rw[rh hr,lAq]at l;rw[Lh,lAq,FU,lTq,zw];lia
def abK(r:Ϝ):Al (r.map D.int) (some 1) none=(r.drop 1).map D.int:=by
 rw[xK];cases r with
 |nil=>rfl
 |cons x r=>rw[show(some 1:Option Int)=some ((1:Nat):Int)from rfl,B7 _ _ (by simp)]
def abc(r:Ϝ):Al (r.map D.int) none (some 1)=(r.take 1).map D.int:=by
 rw[xK];cases r with
 |nil=>rfl
 |cons x r=>rw[show(some 1:Option Int)=some ((1:Nat):Int)from rfl,G7 _ _ (by simp)]
def Jk{rs:Λ}(hn:rs.flatten.Nodup)(hl:rs.flatten.length<=1000):Bu [dM rs]=some (.owd (vm (pU rs))):=by
 have key:=rZ (x:=2) (body:=AA) (λi S=>∃E l n,S=[some (.sh (dM rs)),some (.owd (vm (pU (rs.take i)))),E,l,n]) (ds:=rs.map dI) (S:=[some (.sh (dM rs)),some (.owd []),none,none,none]) ⟨none,none,none,rfl⟩ (by
  rintro i d S hd ⟨E,l,n,rfl⟩;obtain⟨r,hr,rfl⟩:=Dk hd;have I:r.length<=1000:=by
   have J:=tU rs (i+1);rw[rh hr,lAq]at J;lia
  have t:(r.map D.int).length=((rot r).map D.int).length:=by rw[lMq,lMq,Bw]
  have L:=VU (x:=3) (y:=4) (k:=0) (body:=AR) (λj S=>∃l n,S=[some (.sh (dM rs)),some (.owd (vm (pU (rs.take i)++(qZ r).take j))),some (.sh (dI r)),l,n]) (ds:=r.map D.int) (es:=(rot r).map D.int) (S:=[some (.sh (dM rs)),some (.owd (vm (pU (rs.take i)))),some (.sh (dI r)),l,n]) t ⟨l,n,by simp⟩ (by
   rintro j d e S hd M ⟨l,n,rfl⟩;obtain⟨z,O,rfl⟩:=G5 hd;obtain⟨y,P,rfl⟩:=G5 M;rw[bK]at *;have Q:=Fu (j:=j) hl hr;have u:=HF hn hr O P;refine⟨_,?_,i3 z,i3 y,rfl⟩
   simp_arith [AR,Q,u])
  obtain⟨X,H,R,U,rfl⟩:=L;rw[bK,lMq,←zw,aE]at H;refine⟨_,?_,some (.sh (dI r)),R,U,rfl⟩;rw[qf hr,D9];have G:(r.drop 1).length+(r.take 1).length<=qF:=tJ (by rw[aQ,lTq];lia)
  have B:(r.drop 1).map D.int++(r.take 1).map D.int=(rot r).map D.int:=by unfold rot;rw[mBq]
  have s:r.length=(rot r).length:=(Bw r).symm
  simp_arith [AA,abK,abc,G,B,s,H])
 obtain⟨Y,e,E,l,n,rfl⟩:=key;rw[lMq,aE]at e
 simp_arith [Bu,Ja,e]
def Fo{rs:Λ}{kn:Θ}{PS:List Θ}(l:Ps rs rs.length kn PS)(n:0<rs.length)(u:∀s k,s<rs.length->k<rs.length->ud rs s k):PS.length=1:=by
 obtain⟨a,ha,_⟩:=l.mem 0 (l.all 0 n);cases PS with
 |nil=>cases ha
 |cons x PS=>
  cases PS with
  |nil=>rfl
  |cons y PS=>
   exfalso;obtain⟨s,hs,z⟩:=l.pc x (by simp)
   obtain⟨t,ht,B⟩:=l.pc y (by simp)
   have E:=(fQ.mp l.dj).1 y (by simp) s ((z.iff s).mpr .base)
   exact E ((B.iff s).mpr (u t s ht hs))
end K51
namespace K15
open PySem L2 Mr Z Xe Zl
def zq{ps:List (pI×Int)}{k:pI}{n:Int}(hn:(ps.map (·.1)).Nodup)(h:(k,n)∈ps):Z.getD (K51.vm ps) k=some (.int n):=by
 induction ps with
 |nil=>cases h
 |cons p ps l=>
  rw[au,ar]at hn;unfold Z.getD;show(((p.1,D.int p.2)::K51.vm ps).find? _).map _=_;rcases ae.mp h with e|e
  .rw[←e,fo (by simp)]
   rfl
  .rw[dX (by
    intro z;have s:p.1=k:=by simpa using z
    exact hn.1 (by rw[s];exact mMq.mpr ⟨_,e,rfl⟩))]
   exact l hn.2 e
def OO{ps:List (pI×Int)}{k s:pI}{n:Int}(hn:(ps.map (·.2)).Nodup)(h:(k,n)∈ps)(h':(s,n)∈ps):k=s:=by
 induction ps with
 |nil=>cases h
 |cons p ps t=>
  rw[au,ar]at hn;rcases ae.mp h with e|e
  .rcases ae.mp h' with l|l
   .rw[←e]at l;exact(congrArg jP l).symm
   .exact absurd (mMq.mpr ⟨_,l,by rw[←e]⟩) hn.1
  .rcases ae.mp h' with l|l
   .exact absurd (mMq.mpr ⟨_,e,by rw[←l]⟩) hn.1
   .exact t hn.2 e l
def nx(rs:Λ)(e:Int):Int:=match Z.getD (K51.vm (K51.pU rs)) (.inl e)with
 |some (.int n)=>n
 |_=>0
def fw(rs:Λ)(e:Int):Int:=nx rs (-e)
section
variable {rs:Λ}
def keys_nd(hn:rs.flatten.Nodup):((K51.pU rs).map (·.1)).Nodup:=by
 rw[K51.uH,aW,aV];exact bq.imp (λh e=>h (aA.inj e)) (aW.mp hn)
def C7(hn:rs.flatten.Nodup){e:Int}(s:e∈rs.flatten):(aA e,nx rs e)∈K51.pU rs:=by
 have hk:(aA e:pI)∈(K51.pU rs).map (·.1):=by rw[K51.uH];exact mMq.mpr ⟨e,s,rfl⟩
 obtain⟨⟨k,n⟩,l,rfl⟩:=mMq.mp hk;have:=zq (keys_nd hn) l;unfold nx;rw[this];exact l
def yg(hn:rs.flatten.Nodup){e:Int}(l:e∈rs.flatten):Z.getD (K51.vm (K51.pU rs)) (.inl e)=some (.int (nx rs e)):=zq (keys_nd hn) (C7 hn l)
def GC(hn:rs.flatten.Nodup){e:Int}(l:e∈rs.flatten):nx rs e∈rs.flatten:=(K51.A6 rs).mem_iff.mp (mMq.mpr ⟨_,C7 hn l,rfl⟩)
def Ph(hn:rs.flatten.Nodup){a b:Int}(ha:a∈rs.flatten)(hb:b∈rs.flatten)(h:nx rs a=nx rs b):a=b:=by
 have l:=C7 hn ha;have n:=C7 hn hb;rw[h]at l;exact aA.inj (OO ((K51.A6 rs).symm.nodup hn) l n)
def uL(l:Mp rs):KZ (fw rs) rs.flatten:=⟨l.hn,λe n=>GC l.hn (l.hneg e n),λa ha b hb h=>by
 have:=Ph l.hn (l.hneg a ha) (l.hneg b hb) h;lia⟩
def stp(rs:Λ)(E:Ϝ):List (pI×D):=E.map λe=>(aA e,.int (fw rs e))
def TX(hn:rs.flatten.Nodup){e:Int}(l:e∈rs.flatten):Z.getD (stp rs rs.flatten) (.inl e)=some (.int (fw rs e)):=by
 have h:=zq (ps:=rs.flatten.map λe=>(aA e,fw rs e)) (k:=.inl e) (n:=fw rs e) (by
  rw[mPq,aW,aV];exact bq.imp (λh e=>h (aA.inj e)) (aW.mp hn)) (mMq.mpr ⟨e,l,rfl⟩)
 unfold K51.vm at h;rw[mPq]at h;exact h
def L9(rs:Λ):(K51.vm (K51.pU rs)).map (λp=>kD p.1)=rs.flatten.map D.int:=by
 have:(K51.vm (K51.pU rs)).map (λp=>kD p.1)=((K51.pU rs).map (·.1)).map kD:=by
  unfold K51.vm;rw[mPq,mPq];rfl
 rw[this,K51.uH,mPq];rfl
def KC(l:Mp rs):zO [dM rs]=some (.owd (stp rs rs.flatten)):=by
 have B:=K51.Jk l.hn l.hl;have hl:=l.hl;have key:=rZ (x:=3) (body:=yC) (λi S=>∃s,S=[some (.sh (dM rs)),some (.sh (.fd (K51.vm (K51.pU rs)))),some (.owd (stp rs (rs.flatten.take i))),s]) (ds:=rs.flatten.map D.int) (S:=[some (.sh (dM rs)),some (.sh (.fd (K51.vm (K51.pU rs)))),some (.owd []),none]) ⟨none,rfl⟩ (by
  rintro i d S hd ⟨s,rfl⟩;rw[gMq]at hd;obtain⟨e,n,rfl⟩:=oMq.mp hd;have hi:=(gSq.mp n).1;have t:=mGq n;have E:=yg l.hn (l.hneg e t);have G:(stp rs (rs.flatten.take i)).length<qF:=by unfold stp;rw[lMq,lTq];show _<16777216;lia
  have u:xn (stp rs (rs.flatten.take i)) (.inl e) (.int (nx rs (-e)))=stp rs (rs.flatten.take (i+1)):=by
   rw[BI]
   .unfold stp;rw[qf n,mBq];rfl
   .intro m;obtain⟨p,u,H⟩:=mMq.mp m;obtain⟨x,I,rfl⟩:=mMq.mp u;have J:x=e:=aA.inj H;subst J;have:=bq.sublist (bE (i+1) rs.flatten) l.hn;rw[qf n]at this;exact(nAq.mp this).2.2 x I x (by simp) rfl
  refine⟨_,?_,i3 e,rfl⟩
  simp_arith [yC,E,G,u])
 obtain⟨M,e,s,rfl⟩:=key;rw[lMq,aE]at e;have L:=L9 rs;have z:((3:Nat)≠1)=True:=by simp
 simp_arith [zO,EA,B,z,L,e]
def mu(N:Nat):AS->Nat
 | [_,_,some (.ow l),_]=>N+1-l.length
 |_=>0
def Vj(f:Int->Int)(e:Int)(n:Nat):((az n).map λk=>itr f k e)++[itr f n e]=(az (n+1)).map λk=>itr f k e:=by rw[List.range_succ,mBq];rfl
def Uo(u:Mp rs){e:Int}(E:e∈rs.flatten):∃l,Cy (fw rs) e l/\l.length<=rs.flatten.length/\vv [.dict (stp rs rs.flatten),.int e]=some (aI l):=by
 have one:=uL u;obtain⟨l,cy,x,s⟩:=one.cy E;have hl:=u.hl;refine⟨l,cy,x,?_⟩;have t:∀n,Z.getD (stp rs rs.flatten) (.inl (itr (fw rs) n e))=some (.int (itr (fw rs) (n+1) e)):=λn=>TX u.hn (one.itr_mem E n)
 have key:=ur (c:=ug (pO Y0 (oI 3) (oI 1))) (body:=ve) (λS=>∃n,1<=n/\n<=l.length/\S=[some (.sh (.dict (stp rs rs.flatten))),i3 e,some (aI ((az n).map λk=>itr (fw rs) k e)),i3 (itr (fw rs) n e)]) (mu l.length) (λS=>∃G,S=[some (.sh (.dict (stp rs rs.flatten))),i3 e,some (aI l),G]) (by
  rintro S ⟨n,P,Q,rfl⟩
  by_cases hn:n<l.length
  .have z:¬ itr (fw rs) n e=e:=s n (by lia) hn
   have hs:=t n;have H:n<qF:=by show _<16777216;lia
   have I:((az n).map λk=>itr (fw rs) k e).map (λn=>AV.sh (.int n))++[.sh (.int (itr (fw rs) n e))]=((az (n+1)).map λk=>itr (fw rs) k e).map λn=>.sh (.int n):=by rw[←Vj,mBq];rfl
   refine⟨true,[some (.sh (.dict (stp rs rs.flatten))),i3 e,some (aI ((az n).map λk=>itr (fw rs) k e)),i3 (itr (fw rs) n e)],?_,λ_=>⟨[some (.sh (.dict (stp rs rs.flatten))),i3 e,some (aI ((az (n+1)).map λk=>itr (fw rs) k e)),i3 (itr (fw rs) (n+1) e)],?_,⟨n+1,by lia,by lia,rfl⟩,?_⟩,λq=>(nomatch q)⟩
   .simp_arith [z]
   .simp_arith [ve,aB,H,I,hs]
   .show l.length+1-_<l.length+1-_;simp only[lMq,aB];lia
  .have J:n=l.length:=by lia
   subst J;have hb:=cy.back;have L:=cy.get;refine⟨false,[some (.sh (.dict (stp rs rs.flatten))),i3 e,some (aI ((az l.length).map λk=>itr (fw rs) k e)),i3 (itr (fw rs) l.length e)],?_,λq=>(nomatch q),λ_=>⟨i3 (itr (fw rs) l.length e),by rw[←L]⟩⟩
   simp_arith [hb])
 have M:=t 0;have R:[AV.sh (.int e)]=((az 1).map λk=>itr (fw rs) k e).map λn=>.sh (.int n):=rfl
 obtain⟨U,O,G,rfl⟩:=key 100000 [some (.sh (.dict (stp rs rs.flatten))),i3 e,some (.ow [.sh (.int e)]),i3 (itr (fw rs) (0+1) e)] ⟨1,af _,cy.len,rfl⟩ (by
  show l.length+1-1<100000;lia)
 have B:Z.getD (stp rs rs.flatten) (.inl e)=some (.int (itr (fw rs) (0+1) e)):=M
 simp_arith [vv,Aq,B,O]
end
def kI(ks:Ϝ):List (pI×D):=ks.map λk=>((aA k:pI),D.bl true)
def kI_any(ks:Ϝ)(t:Int):(kI ks).any (λkv=>decide (kv.1=(aA t:pI)))=decide (t∈ks):=by
 induction ks with
 |nil=>simp[kI]
 |cons k ks l=>
  unfold kI at l ⊢;rw[au,dN,l]
  by_cases h:t=k
  .subst h;simp
  .have n:¬ (aA k:pI)=aA t:=λq=>h (aA.inj q).symm
   simp[n,h]
def kI_get(ks:Ϝ)(t:Int):(Z.getD (kI ks) (aA t)).isSome=decide (t∈ks):=by
 unfold Z.getD;rw[cU,←kI_any,bS,fv,fF]
def kI_new{ks:Ϝ}{t:Int}(h:t∉ks):xn (kI ks) (aA t) (.bl true)=kI (ks++[t]):=by
 unfold xn;rw[kI_any,d4 h,pE (by simp)]
 simp[kI]
def kI_len(ks:Ϝ):(kI ks).length=ks.length:=by unfold kI;rw[lMq]
section
variable {rs:Λ}
structure Rd (f:Int->Int)(E:Ϝ)(kn:Ϝ)(L:Λ):Prop where
 cy:∀l∈L,∃e,Cy f e l
 fl:L.flatten=kn
 nd:kn.Nodup
 sub:∀x∈kn,x∈E
 cl:∀x∈kn,f x∈kn
theorem Rd.itr{f:Int->Int}{E kn:Ϝ}{L:Λ}(h:Rd f E kn L){x:Int}(l:x∈kn):∀n,itr f n x∈kn
 |0=>l
 |n+1=>h.cl _ (h.itr l n)
def Rd.out{f:Int->Int}{E kn:Ϝ}{L:Λ}(h:Rd f E kn L){e:Int}{l:Ϝ}(c:Cy f e l)(t:e∉kn):∀x∈l,x∉kn:=by
 intro x u hk;obtain⟨j,n⟩:=ay.mp u;have s:=(gSq.mp n).1;rw[c.at s]at n;have z:=aO.inj n;subst z;have:=h.itr hk (l.length-j);rw[←yK,show l.length-j+j=l.length by lia,c.back]at this
 exact t this
def Rd.add{f:Int->Int}{E kn:Ϝ}{L:Λ}(G:KZ f E)(h:Rd f E kn L){e:Int}{l:Ϝ}(c:Cy f e l)(s:e∈E)(H:e∉kn):Rd f E (kn++l) (L++[l]):=by
 have I:=h.out c H;refine⟨λm J=>?_,by rw[fAq,h.fl,bB],?_,λx t=>?_,λx t=>?_⟩
 .rcases mAq.mp J with q|q
  .exact h.cy m q
  .rw[mSq.mp q];exact⟨e,c⟩
 .rw[nAq];exact⟨h.nd,c.nd,λa ha b hb q=>I b hb (q ▸ ha)⟩
 .rcases mAq.mp t with q|q
  .exact h.sub x q
  .rw[c.get]at q;obtain⟨n,_,rfl⟩:=mMq.mp q;exact G.itr_mem s n
 .rcases mAq.mp t with q|q
  .exact mAq.mpr (.inl (h.cl x q))
  .refine mAq.mpr (.inr ?_);obtain⟨j,u⟩:=ay.mp q;have z:=(gSq.mp u).1;rw[c.at z]at u;rw[←aO.inj u];show Zl.itr f (j+1) e∈l
   by_cases B:j+1<l.length
   .exact mGq (c.at B)
   .rw[show j+1=l.length by lia,c.back]
    exact c.self
def Rd.orb{f:Int->Int}{E kn:Ϝ}{L:Λ}(h:Rd f E kn L)(l:∀x∈E,x∈kn):CW f E L:=⟨h.cy,by rw[h.fl];exact h.nd,λx=>by rw[h.fl];exact⟨h.sub x,l x⟩⟩
def Cr(rs:Λ):Λ:=(rs.filter λr=>decide (r=[])).map λ_=>[]
def RJ(rs:Λ):rL (ug (pO B0 (uY rH (oJ (oI 0) oS)) (rC (.int 0)))) (rY pP) [] (rs.map dI)=some ((Cr rs).map aI):=by
 rw[Z.wM (λd=>decide (A4 d=[])) (λ_=>.ow [])]
 .unfold Cr;rw[gM,mPq,mPq];have:(λd=>decide (A4 d=[]))∘dI=λr=>decide (r=[]):=by funext r;show decide (A4 (dI r)=[])=_;rw[vz]
  rw[this];rfl
 .intro d hd;obtain⟨r,hr,rfl⟩:=DF hd;rw[vz];refine⟨[some (.sh (dI r))],?_,λ_=>⟨[some (.sh (dI r))],?_⟩⟩
  .by_cases h:r=[]
   .subst h;have z:((0:Nat):Int)=0:=rfl
    simp_arith [dI,z]
   .have l:¬ ((r.length:Nat):Int)=0:=λq=>h (bU.mp (by lia))
    simp_arith [dI,l,h]
  .simp_arith []
def NI{kn l:Ϝ}{v0 v1 v3 v4 v5 v6:Option AV}(hn:(kn++l).Nodup)(hl:kn.length+l.length<500000):∃n,rF 6 yh (l.map D.int) [v0,v1,some (.owd (kI kn)),v3,v4,v5,v6]=some (.nx [v0,v1,some (.owd (kI (kn++l))),v3,v4,v5,n]):=by
 have key:=rZ (x:=6) (body:=yh) (λi S=>∃n,S=[v0,v1,some (.owd (kI (kn++l.take i))),v3,v4,v5,n]) (ds:=l.map D.int) (S:=[v0,v1,some (.owd (kI kn)),v3,v4,v5,v6]) ⟨v6,by simp⟩ (by
  rintro i d S hd ⟨n,rfl⟩;rw[gMq]at hd;obtain⟨e,t,rfl⟩:=oMq.mp hd;have hi:=(gSq.mp t).1;have s:e∉kn++l.take i:=λm=>by
   have u:(kn++l.take (i+1)).Nodup:=bq.sublist (cD.append (cD.refl kn) (bE (i+1) l)) hn;rw[qf t,←aa]at u;exact(nAq.mp u).2.2 e m e (by simp) rfl
  have z:=kI_new s;rw[aa,←qf t]at z;have B:(kI (kn++l.take i)).length<qF:=by rw[kI_len,lAq,lTq];show _<16777216;lia
  refine⟨_,?_,i3 e,rfl⟩
  simp_arith [yh,B,z])
 obtain⟨E,e,n,rfl⟩:=key;rw[lMq,aE]at e;exact⟨n,e⟩
def Oo(B L:Λ):AV:=.ow (B.map aI++L.map λl=>.sh (dI l))
def lands_loop(G:Mp rs):∃v1 v2 v4 v5 v6 L,rF 4 wc ((qQ rs.flatten).map D.int) [some (.sh (dM rs)),some (.owd (stp rs rs.flatten)),some (.owd []),some (Oo (Cr rs) []),none,none,none]=some (.nx [some (.sh (dM rs)),v1,v2,some (Oo (Cr rs) L),v4,v5,v6])/\CW (fw rs) rs.flatten L:=by
 have one:=uL G;have hl:=G.hl;have J:=G.hr;have M:=qT rs.flatten;have key:=rZ (x:=4) (body:=wc) (λi S=>∃kn L v1 v4 v5 v6,S=[some (.sh (dM rs)),some v1,some (.owd (kI kn)),some (Oo (Cr rs) L),v4,v5,v6]/\oP v1 = .dict (stp rs rs.flatten)/\(∀x,v1=x->(x = .owd (stp rs rs.flatten)∨x = .sh (.dict (stp rs rs.flatten))))/\Rd (fw rs) rs.flatten kn L/\L.length<=i/\∀j x,j<i->(qQ rs.flatten)[j]?=some x->x∈kn) (ds:=(qQ rs.flatten).map D.int) (S:=[some (.sh (dM rs)),some (.owd (stp rs rs.flatten)),some (.owd []),some (Oo (Cr rs) []),none,none,none]) ⟨[],[],.owd (stp rs rs.flatten),none,none,none,rfl,rfl,λx h=>.inl h.symm,⟨by simp,rfl,bw,by simp,by simp⟩,af _,λj x h=>absurd h (cW _)⟩ (by
  rintro i d S hd ⟨kn,L,v1,v4,v5,v6,rfl,u,z,hr,R,n⟩;rw[gMq]at hd;obtain⟨e,H,rfl⟩:=oMq.mp hd;have O:=(gSq.mp H).1;rw[M.length_eq]at O;have B:e∈rs.flatten:=M.mem_iff.mp (mGq H);have I:=kI_get kn e
  by_cases c:e∈kn
  .rw[d0 c]at I;refine⟨[some (.sh (dM rs)),some v1,some (.owd (kI kn)),some (Oo (Cr rs) L),i3 e,v5,v6],?_,kn,L,v1,_,_,_,rfl,u,z,hr,by lia,λj x t s=>?_⟩
   .simp_arith [wc,I]
   .rcases cI.mp t with q|rfl
    .exact n j x q s
    .rw[H]at s;cases s;exact c
  .rw[d4 c]at I;obtain⟨l,cy,U,X⟩:=Uo G B;have E:=hr.add one cy B c;have Y:=Oa _ _ hr.nd hr.sub;obtain⟨P,Q⟩:=NI (kn:=kn) (l:=l) (v0:=some (.sh (dM rs))) (v1:=some (.sh (.dict (stp rs rs.flatten)))) (v3:=some (Oo (Cr rs) L)) (v4:=i3 e) (v5:=some (.sh (dI l))) (v6:=v6) E.nd (by lia)
   have sl:=pJ l;have lb:(Cr rs).length<=rs.length:=by unfold Cr;rw[lMq];exact cG _ _
   have l1:((Cr rs).map aI++L.map λl=>AV.sh (dI l)).length<qF:=by rw[lAq,lMq,lMq];show _<16777216;lia
   have ea:((Cr rs).map aI++L.map λl=>AV.sh (dI l))++[.sh (dI l)]=(Cr rs).map aI++(L++[l]).map λl=>.sh (dI l):=by rw[aa,mBq];rfl
   refine⟨[some (.sh (dM rs)),some (.sh (.dict (stp rs rs.flatten))),some (.owd (kI (kn++l))),some (Oo (Cr rs) (L++[l])),i3 e,some (.sh (dI l)),P],?_,kn++l,L++[l],.sh (.dict (stp rs rs.flatten)),_,_,_,rfl,rfl,λx h=>.inr h.symm,E,by rw[lAq,lSq];lia,λj x t s=>?_⟩
   .unfold Oo at Q ⊢
    simp_arith [wc,I,u,X,sl,Q,l1,ea]
   .rcases cI.mp t with q|rfl
    .exact mAq.mpr (.inl (n j x q s))
    .rw[H]at s;cases s;exact mAq.mpr (.inr cy.self))
 obtain⟨S',e,kn,L,v1,v4,v5,v6,rfl,_,_,hr,_,n⟩:=key;refine⟨_,_,_,_,_,L,e,hr.orb λx s=>?_⟩
 obtain⟨j,t⟩:=ay.mp (M.mem_iff.mpr s);exact n j x (by rw[lMq];exact(gSq.mp t).1) t
def WW(rs:Λ):(Cr rs).length<=rs.length:=by unfold Cr;rw[lMq];exact cG _ _
def N3(B L:Λ):oP (Oo B L)=dM (B++L):=by
 unfold Oo;rw[qX,mBq,mPq,mPq];show D.list _=D.list ((B++L).map dI);rw[mBq];congr 2
 .exact mCq λr _=>pJ r
def TR(s:Mp rs){L:Λ}(h:CW (fw rs) rs.flatten L):(∀l∈L,l.length<=1000)/\L.length<=1000:=by
 have p:L.flatten.Perm rs.flatten:=(aX h.dj s.hn).mpr h.all;have hl:=s.hl;refine⟨λl n=>?_,?_⟩
 .have:=cD.length_le (bh n);rw[p.length_eq]at this;lia
 .have:∀{L:Λ},(∀l∈L,1<=l.length)->L.length<=L.flatten.length:=λ{L} h=>by
   induction L with
   |nil=>exact af _
   |cons a L t=>
    have u:=h a (ai ..);have x:=t λl hl=>h l (mCo _ hl)
    rw[lCq,fCq,lAq];lia
  have:=this (L:=L) λl hl=>by obtain⟨e,c⟩:=h.cy l hl;exact c.len
  rw[p.length_eq]at this;lia
def DB(l:Mp rs):∃L,CW (fw rs) rs.flatten L/\wZ [dM rs]=some (.ow ((xS ((Cr rs++L).map good)).map aI)):=by
 obtain⟨H,I,J,M,O,L,e,s⟩:=lands_loop l;have hl:=l.hl;have n:=l.hr;have ow:=KC l;have t:=RJ rs;have u:=K4 (rs:=rs) (by lia)
 have lr:rs.length<=qF:=by show _<=16777216;lia
 have z:AV.ow ((Cr rs).map aI)=Oo (Cr rs) []:=by unfold Oo;rw[fU,aNq]
 have st:=N3 (Cr rs) L;obtain⟨B,P⟩:=TR l s;have bl:=WW rs;have E:=B2 (rs:=Cr rs++L) (λr hr=>by
  rcases mAq.mp hr with q|q
  .unfold Cr at q;obtain⟨x,_,rfl⟩:=mMq.mp q;exact bx _
  .have:=B r q;lia) (by rw[lAq];show _<=16777216;lia)
 refine⟨L,s,?_⟩;have G:=pJ (qQ rs.flatten)
 simp_arith [wZ,Iy,ow,dM,t,lr,z,u,G,dI,e,st,E]
end
section
variable {rs:Λ}
def JT{r:Ϝ}{j:Nat}(l:j<r.length):(K51.rot r)[j]?=r[(j+1) % r.length]?:=by
 unfold K51.rot
 by_cases h:j+1<r.length
 .rw[fc h,gZq (by rw[aQ];lia),cf,fW]
 .have e:j+1=r.length:=by lia
  rw[e,gV,gYq (by rw[aQ];lia),aQ,eT (by lia)]
  congr 1;lia
end
end K15
namespace K12
open PySem L2 Mr Z Xe Zl
abbrev aP(part:Λ):AV:=.ow (part.map aI)
def Pz{α β:Type}(f:α->β)(l:List α)(i:Nat)(a:α):(l.map f).set i (f a)=(l.set i a).map f:=by rw[List.map_set]
structure Wd where
 P0:List Λ
 last:Λ
 t0:Θ
 h:Nat
 left:Ϝ
 used:Nat
abbrev cN(ks:Θ):Ϝ:=ks.map λn:Nat=>(n:Int)
def st(v0 v1:Option AV)(w:Wd)(v6 v7 v8 v9:Option AV):AS:=[v0,v1,some (.ow ((w.P0++[w.last]).map aP)),some (aI (cN (w.t0++[w.h]))),some (aI w.left),i3 (w.used:Int),v6,v7,v8,v9]
section
variable {nm:Ϝ}{P0:List Λ}{last:Λ}{t0:Θ}{hd:Nat}{left r:Ϝ}{used:Nat}{c e:Int}{v0 v1 v8:Option AV}
def Em(r:Ϝ)(e:Int):(r.map λn=>AV.sh (.int n))++[.sh (.int e)]=(r++[e]).map λn=>.sh (.int n):=by rw[mBq];rfl
def Lu(l:Λ)(e:Int):l.map aI++[.ow [.sh (.int e)]]=(l++[[e]]).map aI:=by rw[mBq];rfl
def OR(ks:Θ)(n:Nat):(cN ks).map (λn=>AV.sh (.int n))++[.sh (.int (n:Int))]=(cN (ks++[n])).map λn=>.sh (.int n):=by unfold cN;rw[mBq,mBq];rfl
theorem FX{α β:Type}(f:α->β):∀(l:List α) (i:Nat),(l.map f).eraseIdx i=(l.eraseIdx i).map f
 | [],i=>rfl
 |x::l,0=>rfl
 |x::l,i+1=>by rw[au,cQ,cQ,FX f l i,au]
end
def Z2(nm:Ϝ)(k:Nat):Ϝ:=(nm.take k).flatMap λx=>[x, -x]
theorem wN{x r:Ϝ}(a:Int):∀{l:Λ}{h:Nat},l[h]?=some r->(l.set h (r++x)).flatten.count a=l.flatten.count a+x.count a
 | [],_,h=>by simp at h
 |s::l,0,h=>by
  cases h;rw[cJ,fCq,fCq,cAq,cAq,cAq];lia
 |s::l,h+1,e=>by
  rw[dY,fCq,fCq,cAq,cAq,wN a (by simpa using e)]
  lia
theorem Cf(a:Int):∀{l:Ϝ}{j:Nat},j<l.length->(l.eraseIdx j).count a+[l.getD j 0].count a=l.count a
 | [],_,h=>by simp at h
 |x::l,0,_=>by
  rw[List.eraseIdx_cons_zero,show x::l=[x]++l from rfl,cAq]
  show l.count a+[x].count a=_;lia
 |x::l,j+1,h=>by
  have n:=Cf a (l:=l) (j:=j) (by simpa using h)
  rw[cQ,show x::l.eraseIdx j=[x]++l.eraseIdx j from rfl,show(x::l).getD (j+1) 0=l.getD j 0 from rfl,show x::l=[x]++l from rfl,cAq,cAq]
  lia
def De{l:Λ}{h:Nat}{r:Ϝ}(e:l[h]?=some r):r.length<=l.flatten.length:=cD.length_le (bh (mGq e))
def nmk(st sh a b k:Int):Int:=st*((a*k+b) % 67+1)+sh
structure Nm (nm:Ϝ):Prop where
 len:nm.length=66
 nd:nm.Nodup
 lo:∀x∈nm,1<=x
 hi:∀x∈nm,x<10 ^ 60
theorem pm_nodup:∀{l:Ϝ},l.Nodup->(∀x∈l,1<=x)->(l.flatMap λx=>[x, -x]).Nodup
 | [],_,_=>bw
 |x::l,hn,hp=>by
  have n:=ar.mp hn;have t:=hp x (ai ..);rw[bO,nAq];refine⟨?_,pm_nodup n.2 λy s=>hp y (mCo _ s),λa ha b hb e=>?_⟩
  .rw[ar];refine⟨?_,by simp⟩
   rw[mSq];lia
  .subst e;obtain⟨y,s,q⟩:=bp.mp hb;have py:=hp y (mCo _ s);simp at ha q;have:y=x:=by lia
   exact n.1 (this ▸ s)
abbrev gm(p:Λ):Λ:=xS (p.map good)
def Dg(p:Λ):(gm p).Perm (p.map good):=sk _
end K12
namespace K16
open PySem L2 Mr Z Xe Zl
def pm(l:Ϝ):Ϝ:=l.flatMap λx=>[x, -x]
def HS(M:List (Int×Int)):List (pI×D):=M.map λp=>(.inl p.1,.int p.2)
def Da(M:List (Int×Int)):(HS M).length=M.length:=lMq _
def BJ(M:List (Int×Int)):HS M=K51.vm (M.map λp=>((aA p.1:pI),p.2)):=by unfold HS K51.vm;rw[mPq];rfl
def zA{M:List (Int×Int)}{z x:Int}(h:z∉M.map (·.1)):xn (HS M) (.inl z) (.int x)=HS (M++[(z,x)]):=by
 rw[BI]
 .unfold HS;rw[mBq];rfl
 .intro m;obtain⟨p,l,n⟩:=mMq.mp m;obtain⟨q,s,rfl⟩:=mMq.mp l;exact h (mMq.mpr ⟨q,s,aA.inj n⟩)
end K16
namespace K16
open PySem L2 Mr Z Xe Zl K15
section
variable {rs:Λ}
def Fw(hn:rs.flatten.Nodup){r:Ϝ}(hr:r∈rs){j:Nat}{z y:Int}(hz:r[j]?=some z)(l:r[(j+1) % r.length]?=some y):nx rs z=y:=by
 have n:=(gSq.mp hz).1;have s:=K51.Eb hz ((JT n).trans l);have t:(aA z,y)∈K51.pU rs:=by
  unfold K51.pU;exact mFq.mpr ⟨_,mMq.mpr ⟨r,hr,rfl⟩,mGq s⟩
 have u:=zq (keys_nd hn) t;unfold nx;rw[u]
theorem LO(hn:rs.flatten.Nodup){r:Ϝ}(hr:r∈rs){e:Int}(l:r[0]?=some e):∀n,r[n % r.length]?=some (itr (nx rs) n e)
 |0=>by rw[Nat.zero_mod];exact l
 |n+1=>by
  have u:0<r.length:=(gSq.mp l).1;have x:=LO hn hr l n;have z:(n+1) % r.length<r.length:=jb _ u;have s:(n % r.length+1) % r.length=(n+1) % r.length:=by rw[Nat.mod_add_mod]
  obtain⟨y,t⟩:∃y,r[(n+1) % r.length]?=some y:=⟨_,gEg z⟩;have:=Fw hn hr x (s ▸ t);rw[t,←this];rfl
def Ys(hn:rs.flatten.Nodup){r:Ϝ}(hr:r∈rs){e:Int}(l:r[0]?=some e):Cy (nx rs) e r:=by
 have s:0<r.length:=(gSq.mp l).1;have n:=LO hn hr l;refine⟨s,?_,?_,bq.sublist (bh hr) hn⟩
 .refine cV λi=>?_
  rw[gMq]
  by_cases hi:i<r.length
  .rw[dh hi,df,←n i,fc hi]
  .rw[bo (by lia),bo (by rw[aB];lia)]
   rfl
 .have:=n r.length;rw[gV,l]at this;exact(aO.inj this).symm
def Wa(hn:rs.flatten.Nodup):KZ (nx rs) rs.flatten:=⟨hn,λe l=>GC hn l,λa ha b hb h=>Ph hn ha hb h⟩
end
end K16
namespace K18
open PySem L2 Mr Z Xe Zl
noncomputable def pp:Ϝ->List (Int×Int)
 | []=>[]
 | [_]=>[]
 |x::y::r=>(x,y)::pp (y::r)
def cp:Ϝ->List (Int×Int)
 | []=>[]
 |x::r=>pp (x::r++[x])
def PC(X:Λ):List (Int×Int):=X.flatMap cp
theorem Ce:∀(l:Ϝ) (x y:Int) (r:Ϝ),pp (l++x::y::r)=pp (l++[x])++(x,y)::pp (y::r)
 | [],x,y,r=>rfl
 | [a],x,y,r=>rfl
 |a::b::l,x,y,r=>by
  show(a,b)::pp (b::l++x::y::r)=(a,b)::pp (b::l++[x])++_;rw[Ce (b::l)];rfl
def tR{l r:Ϝ}{a h:Int}{l' r':Ϝ}(hl:l=l'++[a])(hr:r=h::r'):pp (l++r)=pp l++(a,h)::pp r:=by
 rw[hl,hr,aa];exact Ce l' a h r'
def sF{l:Ϝ}{a h:Int}{l' l'':Ϝ}(hl:l=l'++[a])(hh:l=h::l''):cp l=pp l++[(a,h)]:=by
 rw[hh];show pp (h::l''++[h])=_;rw[←hh,tR hl (r:=[h]) rfl];rfl
def uC{l:Ϝ}(h:l≠[]):∃l' a,l=l'++[a]:=⟨l.dropLast,l.getLast h,(List.dropLast_concat_getLast h).symm⟩
def uQ{l:Ϝ}(h:l≠[]):∃a l',l=a::l':=by
 cases l with
 |nil=>exact absurd rfl h
 |cons a l=>exact⟨a,l,rfl⟩
def tK(a b:Ϝ)(q:Int×Int):(cp (a++b)).count q=(cp (b++a)).count q:=by
 by_cases ha:a=[]
 .rw[ha,aNq,cX]
 .by_cases hb:b=[]
  .rw[hb,aNq,cX]
  .obtain⟨la,x,n⟩:=uC ha;obtain⟨lb,z,s⟩:=uC hb;obtain⟨B,E,t⟩:=uQ ha;obtain⟨G,H,u⟩:=uQ hb;rw[sF (l:=a++b) (a:=z) (h:=B) (l':=a++lb) (l'':=E++b) (by rw[s,aa]) (by rw[t];rfl),sF (l:=b++a) (a:=x) (h:=G) (l':=b++la) (l'':=H++a) (by rw[n,aa]) (by rw[u];rfl),tR n u,tR s t]
   simp only[cAq,cH,bX];lia
theorem RI:∀(l:Ϝ) (x:Int),(pp (l++[x])).map (·.1)=l
 | [],x=>rfl
 | [a],x=>rfl
 |a::b::l,x=>by
  show a::(pp (b::l++[x])).map (·.1)=_;rw[RI (b::l)]
def YC(l:Ϝ):(cp l).map (·.1)=l:=by
 cases l with
 |nil=>rfl
 |cons x r=>exact RI (x::r) x
theorem QZ:∀(l:Ϝ) (x:Int),(pp (x::l)).map (·.2)=l
 | [],x=>rfl
 |a::l,x=>by
  show a::(pp (a::l)).map (·.2)=_;rw[QZ l]
def XW(l:Ϝ):((cp l).map (·.2)).Perm l:=by
 cases l with
 |nil=>exact .refl _
 |cons x r=>
  show((pp (x::(r++[x]))).map (·.2)).Perm _;rw[QZ];exact aT
def D0(X:Λ):(PC X).map (·.1)=X.flatten:=by
 induction X with
 |nil=>rfl
 |cons r X l=>
  show((cp r++PC X)).map _=_;rw[mBq,l,YC];rfl
def DM(X:Λ):((PC X).map (·.2)).Perm X.flatten:=by
 induction X with
 |nil=>exact .refl _
 |cons r X l=>
  show((cp r++PC X).map _).Perm (r++X.flatten);rw[mBq];exact(XW r).append l
def pM(r:Ϝ)(X:Λ)(q:Int×Int):(PC (r::X)).count q=(cp r).count q+(PC X).count q:=by
 show(cp r++PC X).count q=_;rw[cAq]
def AF(X Y:Λ)(q:Int×Int):(PC (X++Y)).count q=(PC X).count q+(PC Y).count q:=by
 unfold PC;rw[fK,cAq]
theorem yV{r r':Ϝ}(q:Int×Int):∀{X:Λ}{i:Nat},X[i]?=some r->(PC (X.set i r')).count q+(cp r).count q=(PC X).count q+(cp r').count q
 | [],_,h=>by simp at h
 |t::X,0,h=>by
  simp only[fi,aO.injEq]at h;subst h;rw[cJ,pM,pM];lia
 |t::X,i+1,h=>by
  rw[dY,pM,pM];have:=yV (r:=r) (r':=r') q (X:=X) (i:=i) (by simpa using h)
  lia
def vB{X Y:Λ}(h:X.Perm Y)(q:Int×Int):(PC X).count q=(PC Y).count q:=(h.flatMap_right cp).count_eq q
def ct(u v x y:Int):Nat:=[(u,v)].count (x,y)
def vf(u v x y:Int):ct u v (-x) y=ct (-u) v x y:=by
 unfold ct;rw[cH,cH,bX,bX];have:((u,v) == (-x,y))=((-u,v) == (x,y)):=by
  rw[bS,beq_iff_eq,beq_iff_eq,Prod.mk.injEq,Prod.mk.injEq];constructor <;> rintro⟨n,l⟩ <;> exact⟨by lia,l⟩
 rw[this]
def ZJ{u v x y:Int}:[(u,v)].count (x,y)=ct u v x y:=rfl
def rK{u v x y:Int}{l:List (Int×Int)}:((u,v)::l).count (x,y)=ct u v x y+l.count (x,y):=by
 rw[show(u,v)::l=[(u,v)]++l from rfl,cAq]
 rfl
def uK{X:Λ}{q:Int×Int}:q∈PC X↔0<(PC X).count q:=aZ.symm
def QM{c:Ϝ}{u v:Int}(h:(u,v)∈cp c):∃w B,(∀q,(cp (w++[u])).count q=(cp c).count q)/\w++[u]=v::B:=by
 cases c with
 |nil=>cases h
 |cons x r=>
  have key:∀{l:Ϝ},(u,v)∈pp l->∃a b,l=a++u::v::b:=by
   intro l
   induction l with
   |nil=>intro h;cases h
   |cons y l E=>
    cases l with
    |nil=>intro h;cases h
    |cons z l=>
     intro h;rcases ae.mp (show(u,v)∈(y,z)::pp (z::l)from h)with e|h
     .cases e;exact⟨[],l,rfl⟩
     .obtain⟨a,b,e⟩:=E h;exact⟨y::a,b,by rw[e];rfl⟩
  obtain⟨a,b,e⟩:=key (show(u,v)∈pp (x::r++[x])from h)
  by_cases hb:b=[]
  .subst hb;have t:(x::r)++[x]=(a++[u])++[v]:=by rw[e,aa];rfl
   obtain⟨s,G⟩:=iD t rfl;cases G;exact⟨a,r,λq=>by rw[←s],s.symm⟩
  .obtain⟨n,k,rfl⟩:=uC hb;have t:(x::r)++[x]=(a++u::v::n)++[k]:=by rw[e,aa];rfl
   obtain⟨s,_⟩:=iD t rfl;refine⟨v::n++a,n++a++[u],λq=>?_,by simp⟩
   rw[s];have:=tK (a++[u]) (v::n) q;rw[aa]at this;rw[show a++u::v::n=a++([u]++v::n)from rfl,this,aa]
def D7{t:Λ}{u v:Int}(z:Int)(h:(u,v)∈PC t)(ne:∀c∈t,c≠[]):∃n:Λ,n.length=t.length/\(∀c∈n,c≠[])/\∀x y,(PC n).count (x,y)+ct u v x y=(PC t).count (x,y)+ct u z x y+ct z v x y:=by
 obtain⟨c,G,H⟩:=bp.mp h;obtain⟨i,hi⟩:=ay.mp G;obtain⟨w,I,J,B⟩:=QM H;refine⟨t.set i (w++[u]++[z]),lZq,λd hd=>?_,λx y=>?_⟩
 .rcases eO hd with q|q
  .exact ne d q
  .rw[q];simp
 .have s:=yV (r:=c) (r':=w++[u]++[z]) (x,y) hi;have E:=J (x,y);rw[sF (l:=w++[u]) rfl B]at E;rw[sF (l:=w++[u]++[z]) (a:=z) (h:=v) (l':=w++[u]) (l'':=I++[z]) rfl (by rw[B];rfl),tR (l:=w++[u]) rfl (r:=[z]) rfl]at s
  simp only[cAq,rK,bX,pp]at s E;lia
def aaD{t:Λ}{u v z k:Int}{W G W'':Ϝ}(hz:W=z::G)(hk:W=W''++[k])(h:(u,v)∈PC t)(ne:∀c∈t,c≠[]):∃n:Λ,n.length=t.length/\(∀c∈n,c≠[])/\∀x y,(PC n).count (x,y)+ct u v x y=(PC t).count (x,y)+ct u z x y+(pp W).count (x,y)+ct k v x y:=by
 obtain⟨c,H,I⟩:=bp.mp h;obtain⟨i,hi⟩:=ay.mp H;obtain⟨w,J,L,B⟩:=QM I;refine⟨t.set i (w++[u]++W),lZq,λd hd=>?_,λx y=>?_⟩
 .rcases eO hd with q|q
  .exact ne d q
  .rw[q];simp
 .have s:=yV (r:=c) (r':=w++[u]++W) (x,y) hi;have E:=L (x,y);rw[sF (l:=w++[u]) rfl B]at E;rw[sF (l:=w++[u]++W) (a:=k) (h:=v) (l':=w++[u]++W'') (l'':=J++W) (by rw[hk];simp) (by rw[B];rfl),tR (l:=w++[u]) rfl hz]at s
  simp only[cAq,rK,bX]at s E;lia
structure Ln (C LL:Λ):Prop where
 cnt:∀x y,(PC LL).count (x,y)=(PC C).count (-x,y)
 ne:∀c∈LL,c≠[]
section
variable {C LL:Λ}{i:Nat}
def Ln.mem(h:Ln C LL){x y:Int}(q:(x,y)∈PC C):(-x,y)∈PC LL:=by
 rw[uK,h.cnt,aM];exact uK.mp q
def tY{r:Ϝ}(hi:C[i]?=some r){q:Int×Int}(h:q∈cp r):q∈PC C:=bp.mpr ⟨r,mGq hi,h⟩
theorem BF{r r':Ϝ}:∀{X:Λ}{i:Nat},X[i]?=some r->(X.set i r').count []+(if r=[]then 1 else 0)=X.count []+(if r'=[]then 1 else 0)
 | [],_,h=>by simp at h
 |t::X,0,h=>by
  simp only[fi,aO.injEq]at h;subst h;rw[cJ,cH,cH];simp only[beq_iff_eq];lia
 |t::X,i+1,h=>by
  rw[dY,cH,cH];have:=BF (r:=r) (r':=r') (X:=X) (i:=i) (by simpa using h)
  lia
def nL(C LL:Λ):Nat:=LL.length+C.count []
def Q4{r L:Ϝ}(h:¬ L++r≠[]):r=[]/\L=[]:=by
 have:L++r=[]:=Classical.not_not.mp h;rw[dr]at this;exact⟨this.2,this.1⟩
def Ln.open(h:Ln C LL){r L:Ϝ}(hi:C[i]?=some (r++L))(e:Int):∃t,Ln (C.set i (r++[e]++(-e::L))) t/\nL (C.set i (r++[e]++(-e::L))) t=nL C LL+1:=by
 have cs:=BF (r':=r++[e]++(-e::L)) hi;have P:r++[e]++(-e::L)≠[]:=by simp
 rw[pE P]at cs;have st:=λx y=>yV (r':=r++[e]++(-e::L)) (x,y) hi
 have u:=λq=>tK r L q
 have B:=λq=>tK (r++[e]++[-e]) L q
 have I:r++[e]++(-e::L)=(r++[e]++[-e])++L:=by simp
 by_cases E:L++r≠[]
 .obtain⟨l',a,J⟩:=uC E;obtain⟨f,H,M⟩:=uQ E;have O:cp (L++r)=pp (L++r)++[(a,f)]:=sF J M;have Q:cp (L++(r++[e]++[-e]))=pp (L++r)++[(a,e),(e, -e),(-e,f)]:=by
   have R:L++(r++[e]++[-e])=(L++r)++[e, -e]:=by simp
   rw[R,sF (l:=(L++r)++[e, -e]) (a:=-e) (h:=f) (l':=(L++r)++[e]) (l'':=H++[e, -e]) (by simp) (by rw[M];rfl),tR J (r:=[e, -e]) rfl]
   simp[pp]
  have m:=h.mem (x:=a) (y:=f) (tY hi (aZ.mp (by rw[u,O,cAq];simp)))
  obtain⟨t,l1,S,k⟩:=D7 e m h.ne;refine⟨[-e]::t,⟨λx y=>?_,λc n=>?_⟩,?_⟩
  .have s:=st (-x) y;rw[I,B,u,O,Q]at s;have:=k x y;have n:=h.cnt x y;rw[pM,I];simp only[cAq,rK,bX,vf,aM]at s;have G:(cp [-e]).count (x,y)=ct (-e) (-e) x y:=rfl;rw[G];lia
  .rcases ae.mp n with rfl|n
   .simp
   .exact S c n
  .unfold nL;have U:r++L≠[]:=λq=>E (by rw[dr]at q ⊢;exact⟨q.2,q.1⟩)
   rw[pE U]at cs;rw[lCq];lia
 .obtain⟨hr,X⟩:=Q4 E;subst hr;subst X;refine⟨[e]::[-e]::LL,⟨λx y=>?_,λc n=>?_⟩,?_⟩
  .have s:=st (-x) y;have n:=h.cnt x y;rw[pM,pM];have G:∀z,(cp [z]).count (x,y)=ct z z x y:=λ_=>rfl
   have Y:(cp ([]++[e]++(-e::[]))).count (-x,y)=ct e (-e) (-x) y+ct (-e) e (-x) y:=by
    show[(e, -e),(-e,e)].count (-x,y)=_;rw[rK,ZJ]
   have c4:(cp ([]++[]:Ϝ)).count (-x,y)=0:=rfl;rw[Y,c4,vf,vf,aM]at s;rw[G,G];lia
  .rcases ae.mp n with rfl|n
   .simp
   .rcases ae.mp n with rfl|n
    .simp
    .exact h.ne c n
  .unfold nL;rw[aNq,pH rfl]at cs;rw[lCq,lCq];rw[cX]at cs ⊢;lia
def Ln.newp(h:Ln C LL)(hn:C.flatten.Nodup){r L:Ϝ}(hi:C[i]?=some (r++L))(e:Int):∃n,Ln (C.set i (r++[e])++[-e::L]) n/\nL (C.set i (r++[e])++[-e::L]) n=nL C LL:=by
 have cs:=BF (r':=r++[e]) hi;have n1:r++[e]≠[]:=by simp
 rw[pE n1]at cs;have st:=λx y=>yV (r':=r++[e]) (x,y) hi
 have t:∀X,nL (C.set i (r++[e])++[-e::L]) X=X.length+(C.set i (r++[e])).count []:=λX=>by
  unfold nL;rw[cAq];rfl
 have pn:∀x y,(PC (C.set i (r++[e])++[-e::L])).count (x,y)=(PC (C.set i (r++[e]))).count (x,y)+(cp (-e::L)).count (x,y):=λx y=>by
  rw[AF,pM];rfl
 by_cases hr:r=[]
 .subst hr
  by_cases B:L=[]
  .subst B;refine⟨[e, -e]::LL,⟨λx y=>?_,λc E=>?_⟩,?_⟩
   .have s:=st (-x) y;have E:=h.cnt x y;rw[pM,pn];have O:(cp [e, -e]).count (x,y)=ct e (-e) x y+ct (-e) e x y:=by
     show[(e, -e),(-e,e)].count (x,y)=_;rw[rK,ZJ]
    have c3:(cp ([]++[e])).count (-x,y)=ct e e (-x) y:=rfl;have R:(cp [-e]).count (-x,y)=ct (-e) (-e) (-x) y:=rfl;have c4:(cp ([]++[]:Ϝ)).count (-x,y)=0:=rfl;rw[c3,c4]at s;rw[R,O];simp only[vf,aM]at s ⊢;lia
   .rcases ae.mp E with rfl|E
    .simp
    .exact h.ne c E
   .rw[t];unfold nL;rw[aNq,pH rfl]at cs;rw[lCq];lia
  .obtain⟨P,l,G⟩:=uC B;obtain⟨f,S,I⟩:=uQ B;have u:cp L=pp L++[(l,f)]:=sF G I;rw[cX]at hi;have m:=h.mem (x:=l) (y:=f) (tY hi (aZ.mp (by rw[u,cAq];simp)))
   obtain⟨n,l1,J,H⟩:=aaD (W:=[-e,e]) (W'':=[-e]) rfl rfl m h.ne;refine⟨n,⟨λx y=>?_,J⟩,?_⟩
   .have s:=st (-x) y;have E:=h.cnt x y;have k:=H x y;rw[pn];have U:cp (-e::L)=(-e,f)::pp L++[(l, -e)]:=by
     rw[sF (l:=-e::L) (a:=l) (h:=-e) (l':=-e::P) (l'':=L) (by rw[G];rfl) rfl,show -e::L=[-e]++L from rfl,tR (l:=[-e]) (l':=[]) rfl I]
     rfl
    have s:(PC (C.set i ([]++[e]))).count (-x,y)+(cp L).count (-x,y)=(PC C).count (-x,y)+ct e e (-x) y:=s;rw[u]at s;rw[U];simp only[cAq,rK,bX,vf,aM,pp,dW]at s k ⊢;lia
   .rw[t];unfold nL;have cs:(C.set i ([]++[e])).count []+(if L=[]then 1 else 0)=C.count []+0:=cs
    rw[pE B]at cs;lia
 .obtain⟨r',a,Q⟩:=uC hr;obtain⟨g,M,Y⟩:=uQ hr;have O:cp (r++[e])=pp r++[(a,e),(e,g)]:=by
   rw[sF (l:=r++[e]) (a:=e) (h:=g) (l':=r) (l'':=M++[e]) rfl (by rw[Y];rfl),tR Q (r:=[e]) rfl]
   simp[pp]
  by_cases B:L=[]
  .subst B;have u:cp r=pp r++[(a,g)]:=sF Q Y;rw[aNq]at hi;have m:=h.mem (x:=a) (y:=g) (tY hi (aZ.mp (by rw[u,cAq];simp)))
   obtain⟨n,l1,J,H⟩:=aaD (W:=[e, -e]) (W'':=[e]) rfl rfl m h.ne;refine⟨n,⟨λx y=>?_,J⟩,?_⟩
   .have s:=st (-x) y;have E:=h.cnt x y;have k:=H x y;rw[pn];have R:(cp [-e]).count (-x,y)=ct (-e) (-e) (-x) y:=rfl;rw[aNq,u,O]at s;rw[R];simp only[cAq,rK,bX,vf,aM,pp]at s k ⊢;lia
   .rw[t];unfold nL;rw[aNq,pE hr]at cs;lia
  .obtain⟨P,l,G⟩:=uC B;obtain⟨f,S,I⟩:=uQ B;have u:cp (r++L)=pp r++(a,f)::pp L++[(l,g)]:=by
    rw[sF (l:=r++L) (a:=l) (h:=g) (l':=r++P) (l'':=M++L) (by rw[G,aa]) (by rw[Y];rfl),tR Q I]
   have U:cp (-e::L)=(-e,f)::pp L++[(l, -e)]:=by
    rw[sF (l:=-e::L) (a:=l) (h:=-e) (l':=-e::P) (l'':=L) (by rw[G];rfl) rfl,show -e::L=[-e]++L from rfl,tR (l:=[-e]) (l':=[]) rfl I]
    rfl
   have m:=h.mem (x:=a) (y:=f) (tY hi (by rw[u];simp))
   have m':=h.mem (x:=l) (y:=g) (tY hi (by rw[u];simp))
   obtain⟨L1,l1,J,H⟩:=D7 e m h.ne;have al:a≠l:=λq=>by
    have:=hn.sublist (bh (mGq hi));have:=(nAq.mp this).2.2 a (by rw[Q];simp) l (by rw[G];simp)
    exact this q
   have m1:(-l,g)∈PC L1:=uK.mpr (by
    have k:=H (-l) g;have z:ct (-a) f (-l) g=0:=by
     unfold ct;rw[dA];intro q;have:=mSq.mp q;rw[Prod.mk.injEq]at this;exact al (by lia)
    have:=uK.mp m';lia)
   obtain⟨L2,l2,n3,k2⟩:=D7 (-e) m1 J;refine⟨L2,⟨λx y=>?_,n3⟩,?_⟩
   .have s:=st (-x) y;have E:=h.cnt x y;have k:=H x y;have k':=k2 x y;rw[pn];rw[u,O]at s;rw[U];simp only[cAq,rK,bX,vf,aM,dW]at s k k' ⊢;lia
   .rw[t];unfold nL;rw[pE (by simp[hr])]at cs
    lia
end
end K18
namespace K18
open PySem L2 Mr Z Xe Zl K15 K16
section
variable {C LL:Λ}
theorem Ad:∀{l:List (Int×Int)},(l.map (·.2)).Nodup->∀{p q:Int×Int},p∈l->q∈l->p.2=q.2->p=q
 | [],_,_,_,h,_,_=>by cases h
 |w::l,h,x,y,E,u,e=>by
  rw[au]at h;obtain⟨z,G⟩:=ar.mp h;rcases ae.mp E with B|s
  .rcases ae.mp u with t|n
   .rw[B,t]
   .rw[B]at e;exact absurd (mMq.mpr ⟨y,n,e.symm⟩) z
  .rcases ae.mp u with t|n
   .rw[t]at e;exact absurd (mMq.mpr ⟨x,s,e⟩) z
   .exact Ad G s n e
def Vr{r:Ϝ}{x y:Int}(h:(x,y)∈cp r):∃j,r[j]?=some x/\r[(j+1) % r.length]?=some y:=by
 cases r with
 |nil=>cases h
 |cons a r=>
  have key:∀{l:Ϝ},(x,y)∈pp l->∃j,l[j]?=some x/\l[j+1]?=some y:=by
   intro l
   induction l with
   |nil=>intro h;cases h
   |cons b l t=>
    cases l with
    |nil=>intro h;cases h
    |cons c l=>
     intro h;rcases ae.mp (show(x,y)∈(b,c)::pp (c::l)from h)with e|h
     .cases e;exact⟨0,rfl,rfl⟩
     .obtain⟨j,s,n⟩:=t h;exact⟨j+1,by simpa using s,by simpa using n⟩
  obtain⟨j,s,n⟩:=key (show(x,y)∈pp (a::r++[a])from h)
  have lt:=(gSq.mp n).1;rw[lAq,lSq]at lt;refine⟨j,?_,?_⟩
  .rw[gZq (by lia)]at s
   exact s
  .by_cases c:j+1<(a::r).length
   .rw[gZq c]at n;rw[fc c];exact n
   .have e:j+1=(a::r).length:=by lia
    rw[e,gYq (af _),cR]at n;rw[e,gV];exact n
def Bk{X:Λ}(hn:X.flatten.Nodup){x y:Int}(h:(x,y)∈PC X):nx X x=y:=by
 obtain⟨r,hr,q⟩:=bp.mp h;obtain⟨j,l,n⟩:=Vr q;exact Fw hn hr l n
def Ln.flat(h:Ln C LL)(hneg:∀e∈C.flatten, -e∈C.flatten)(hn:C.flatten.Nodup):LL.flatten.Perm C.flatten:=by
 have n:=DM LL;have s:=DM C;refine n.symm.trans (aL.trans ?_ s);have:(PC LL).Perm ((PC C).map λq=>(-q.1,q.2)):=by
  refine fL.mpr λq=>?_
  obtain⟨x,y⟩:=q;rw[h.cnt];generalize PC C=l
  induction l with
  |nil=>rfl
  |cons p l t=>
   obtain⟨u,v⟩:=p;rw[au,rK,rK,t,vf]
 refine(this.map (·.2)).trans ?_;rw[mPq];exact .refl _
def Ln.orb(h:Ln C LL)(mp:Mp C):CW (fw C) C.flatten LL:=by
 have s:=h.flat mp.hneg mp.hn;have nd:=s.nodup_iff.mpr mp.hn;have eq:∀x∈LL.flatten,nx LL x=fw C x:=λx t=>by
  rw[←D0 LL]at t;obtain⟨⟨u,v⟩,z,rfl⟩:=mMq.mp t;have q:(-u,v)∈PC C:=by
   rw[uK,←h.cnt];exact uK.mp z
  show nx LL u=nx C (-u);rw[Bk nd z,Bk mp.hn q]
 refine⟨λl hl=>?_,nd,λx=>s.mem_iff⟩
 obtain⟨a,G,B⟩:=uQ (h.ne l hl);have cy:=Ys nd hl (show l[0]?=some a by rw[B];rfl)
 have ha:a∈LL.flatten:=mFq.mpr ⟨l,hl,by rw[B];exact ai ..⟩
 have same:∀n,itr (nx LL) n a=itr (fw C) n a:=λn=>by
  induction n with
  |zero=>rfl
  |succ n E=>
   show nx LL (itr (nx LL) n a)=fw C (itr (fw C) n a);rw[←E];exact eq _ ((Wa nd).itr_mem ha n)
 refine⟨a,cy.len,?_,?_,cy.nd⟩
 .have:=cy.get;rw[mCq λn _=>same n]at this
  exact this
 .rw[←same];exact cy.back
def T8(C:Λ):(Cr C).length=C.count []:=by
 unfold Cr;rw[lMq,List.count_eq_countP,dO];congr 1;refine List.filter_congr λr _=>?_
 cases r <;> rfl
def Ln.lands(h:Ln C LL)(mp:Mp C):∃G:Λ,K15.wZ [dM C]=some (.ow (G.map aI))/\G.length=nL C LL:=by
 obtain⟨L,o,e⟩:=DB mp;refine⟨_,e,?_⟩;have p:=(CW.perm (uL mp) o (h.orb mp)).length_eq;rw[lMq,lMq]at p;rw[vR,lMq,lAq,T8,p];unfold nL;lia
end
end K18
namespace K23
open PySem L2 Mr Z Xe Zl
def abA(z:Int)(t:Ϝ):Ϝ:=t.filter λe=>!decide (e∈[z, -z])
def C(z:Int)(rs:Λ):Λ:=rs.map (abA z)
end K23
namespace K25
open PySem L2 Mr Z Xe Zl K15 K16
section
variable {rs:Λ}
def Rt(rs:Λ)(x:Int)(w:Ϝ):Prop:=∃u v,u++x::v∈rs/\w=v++u
def pz(z e:Int):Bool:=!decide (e∈[z, -z])
def trg(z:Int)(f:Int->Int)(x:Int):Int:=if pz z (f x)=true then f x else if pz z (f (-f x))=true then f (-f x)else f (-f (-f x))
structure Due (rs:Λ)(z:Int)(D:Λ):Prop where
 nd:D.flatten.Nodup
 mem:∀x,x∈D.flatten↔x∈rs.flatten/\pz z x=true
 on:∀x∈D.flatten,nx D x=trg z (nx rs) x
 br:bare D=bare rs+((if nx rs (-z)=z then 1 else 0)+(if nx rs z = -z then 1 else 0)+(if nx rs (-z) = -z/\nx rs z=z then 1 else 0))
 len:D.length<=rs.length+2
end
end K25
namespace K43
open PySem L2 Mr Z Xe Zl
open K51 (ud Ps Pc)
section
variable {rs A B:Λ}
def CP(h:Mp rs):K51.Mp rs:=⟨h.hn,h.hl,h.hr,h.hneg⟩
structure Ind (rs:Λ)(l:Θ):Prop where
 lt:∀k∈l,k<rs.length
 pw:l.Pairwise λa b=>¬ ud rs a b
def emp(B:Λ):Θ:=(az B.length).filter λk=>decide (B.getD k []=[])
def qe{k:Nat}(h:k<B.length):B[k]?=some (B.getD k []):=by rw[gDq,gEg h];rfl
def rA(B:Λ):(az B.length).map (λk=>B.getD k [])=B:=by
 refine cV λi=>?_
 rw[gMq]
 by_cases h:i<B.length
 .rw[dh h,qe h];rfl
 .rw[bo (by rw[aB];lia),bo (by lia)]
  rfl
end
end K43
namespace K11
open PySem L2 Mr Z Xe Zl K12
def CU(p:Λ):Prop:=∀k,0<k->k<p.length->∃j e,j<k/\e∈p.getD j []/\-e∈p.getD k []
structure Cn (p:Λ):Prop where
 ne:p≠[]
 clo:∀z∈p.flatten, -z∈p.flatten
 tr:CU p
def Bv{l:Λ}{h:Nat}{r x:Ϝ}(hr:l[h]?=some r){k:Nat}{e:Int}(n:e∈l.getD k []):e∈(l.set h (r++x)).getD k []:=by
 rw[gDq]at n ⊢
 by_cases q:h=k
 .subst q;have s:=(gSq.mp hr).1;rw[aN s];rw[hr]at n;exact ak _ n
 .rw[aG q];exact n
def Ha{l:Λ}{h:Nat}{r x:Ϝ}(hr:l[h]?=some r){e:Int}(s:e∈x):e∈(l.set h (r++x)).getD h []:=by
 have n:=(gSq.mp hr).1;rw[gDq,aN n];exact aj _ s
theorem CU.set{l:Λ}{h:Nat}{r x:Ϝ}(t:CU l)(hr:l[h]?=some r):CU (l.set h (r++x)):=λk n hk=>by
 rw[lZq]at hk;obtain⟨j,e,s,u,z⟩:=t k n hk;exact⟨j,e,s,Bv hr u,Bv hr z⟩
def getD_app{l:Λ}{x:Ϝ}{k:Nat}(h:k<l.length):(l++[x]).getD k []=l.getD k []:=by
 rw[gDq,gDq,gZq h]
def P4{l:Λ}{x:Ϝ}:(l++[x]).getD l.length []=x:=by
 rw[gDq,gYq (af _),cR];rfl
def CU.add{l:Λ}{h:Nat}{e:Int}(t:CU l)(hh:h<l.length)(n:e∈l.getD h []):CU (l++[[-e]]):=λk s hk=>by
 rw[lAq,lSq]at hk
 by_cases q:k<l.length
 .obtain⟨j,u,x,z,B⟩:=t k s q;exact⟨j,u,x,by rw[getD_app (by lia)];exact z,by rw[getD_app q];exact B⟩
 .have E:k=l.length:=by lia
  subst E;exact⟨h,e,hh,by rw[getD_app hh];exact n,by rw[P4];simp⟩
def P3(r:Ϝ):CU [r]:=λk l hk=>by
 rw[lSq]at hk;lia
end K11
namespace K31
open PySem L2 Mr Z Xe Zl K12
def Bh{T:Λ}{h:Nat}{r:Ϝ}(hr:T[h]?=some r):qp (.ow (T.map aI)) [h]=some (r.map λn=>.sh (.int n)):=by
 rw[Hw,gMq,hr];rfl
def Pj{T:Λ}{h:Nat}{r r':Ϝ}(hr:T[h]?=some r):putAt (.ow (T.map aI)) [h] (r'.map λn=>.sh (.int n)) = .ow ((T.set h r').map aI):=by
 rw[KQ (a:=aI r) (by rw[gMq,hr];rfl)]
 show AV.ow ((T.map aI).set h (aI r'))=_;rw[Pz]
structure Wd where
 T:Λ
 t0:Θ
 h:Nat
 loose:Ϝ
 left:Ϝ
def atL(l:Bool)(c:Int)(loose:Ϝ):Nat:=if l then (c / 8 % loose.length).toNat else loose.length-1
def sg(c x:Int):Int:=x*(1-2*(c / 4 % 2))
def abM(l:Bool)(w:Wd)(c:Int):Wd:=
 let r:=w.T.getD w.h []
 if c % 4=1/\w.t0≠[]then { w with t0:=w.t0.dropLast,h:=w.t0.getLast?.getD 0 }
 else if c % 4=2/\w.loose≠[]then { w with T:=w.T.set w.h (r++[w.loose.getD (atL l c w.loose) 0]),loose:=w.loose.eraseIdx (atL l c w.loose) }
 else match w.left with
  | []=>w
  |x::left=>if c % 4=0 then { w with T:=w.T.set w.h (r++[sg c x])++[[-(sg c x)]],t0:=w.t0++[w.h],h:=w.T.length,left:=left }
   else { w with T:=w.T.set w.h (r++[sg c x]),loose:=w.loose++[-(sg c x)],left:=left }
def st(v0 v1:Option AV)(l:Bool)(w:Wd)(v7 v8 v9 v10:Option AV):AS:=[v0,v1,i5 l,some (.ow (w.T.map aI)),some (aI (cN (w.t0++[w.h]))),some (aI w.loose),some (aI w.left),v7,v8,v9,v10]
section
variable {T:Λ}{t0:Θ}{hd:Nat}{loose left r:Ϝ}{c:Int}{wild:Bool}{v0 v1 v8 v9 v10:Option AV}
def Eg(l:Θ):(cN l).length=l.length:=lMq ..
end
def CK(l:Ϝ):Ϝ:=l.flatMap λx=>[x, -x]
def Ef(x:Int)(l:Ϝ)(a:Int):(CK (x::l)).count a=[x, -x].count a+(CK l).count a:=by
 unfold CK;rw[bO,cAq]
theorem Ho:∀l:Ϝ,(CK l).length=2*l.length
 | []=>rfl
 |x::l=>by
  unfold CK;have:=Ho l;unfold CK at this;rw[bO,lAq,this];show 2+2*l.length=2*(l.length+1);lia
def To{l:Ϝ}{z:Int}:z∈CK l↔∃x∈l,z=x∨z = -x:=by
 unfold CK;rw[bp];simp
structure Tr (nm:Ϝ)(w:Wd)(n:Nat):Prop where
 hh:w.h<w.T.length
 ht:∀k∈w.t0,k<w.T.length
 lw:w.t0.length<=n
 lT:w.T.length<=n+1
 lf:w.left.length<=nm.length
 cnt:∀a,w.T.flatten.count a+w.loose.count a+(CK w.left).count a=(CK nm).count a
 tr:K11.CU w.T
def Tr.len{nm:Ϝ}{w:Wd}{n:Nat}(h:Tr nm w n):w.T.flatten.length+w.loose.length+(CK w.left).length=2*nm.length:=by
 have:(w.T.flatten++w.loose++CK w.left).Perm (CK nm):=by
  rw[fL];intro a;rw[cAq,cAq];exact h.cnt a
 have:=this.length_eq;rw[lAq,lAq,Ho nm]at this;exact this
def w0(nm:Ϝ):Wd:=⟨[[]],[],0,[],nm⟩
def Zm(nm:Ϝ):Tr nm (w0 nm) 0:=⟨by simp[w0],(λk h=>by cases h),af _,af _,af _,(λa=>by simp[w0]),K11.P3 _⟩
end K31
namespace K31
open PySem L2 Mr Z Xe Zl
structure Nm (nm:Ϝ):Prop where
 len:nm.length<=100
 nd:nm.Nodup
 lo:∀x∈nm,1<=x
structure Wm (nm:Ϝ)(T:Λ):Prop where
 cnt:∃left,∀a,T.flatten.count a+(CK left).count a=(CK nm).count a
 tr:K11.CU T
 pos:0<T.length
 len:T.length<=64
def E4{nm:Ϝ}(h:Nm nm):(CK nm).Nodup:=K12.pm_nodup h.nd h.lo
def Mg(l:Ϝ)(a:Int):(CK l).count (-a)=(CK l).count a:=by
 induction l with
 |nil=>rfl
 |cons x l n=>
  rw[Ef,Ef,n];congr 1;rw[show[x, -x]=[x]++[-x]from rfl,cAq,cAq]
  simp only[List.count_singleton];have s:(x == -a)=(-x == a):=by rw[bS];simp <;> lia
  have t:(-x == -a)=(x == a):=by rw[bS];simp <;> lia
  rw[s,t];lia
def Wm.nodup{nm:Ϝ}{T:Λ}(hn:Nm nm)(h:Wm nm T):T.flatten.Nodup:=by
 obtain⟨left,l⟩:=h.cnt;rw[eR];intro a;have n:=eR.mp (E4 hn) a;have:=l a;lia
def Wm.sub{nm:Ϝ}{T:Λ}(h:Wm nm T){z:Int}(hz:z∈T.flatten):z∈CK nm:=by
 obtain⟨left,l⟩:=h.cnt;have n:=aZ.mpr hz;have:=l z;exact aZ.mp (by lia)
def Wm.neg{nm:Ϝ}{T:Λ}(hn:Nm nm)(h:Wm nm T){z:Int}(hz:z∈T.flatten):-z∈T.flatten:=by
 obtain⟨left,l⟩:=h.cnt;have s:=aZ.mpr hz;have t:=eR.mp (E4 hn) z;have u:=l z;have n:=l (-z);rw[Mg,Mg]at n;exact aZ.mp (by lia)
def Wm.le{nm:Ϝ}{T:Λ}(h:Wm nm T):T.flatten.length<=2*nm.length:=by
 obtain⟨left,l⟩:=h.cnt;have:(T.flatten++CK left).Perm (CK nm):=by
  rw[fL];intro a;rw[cAq];exact l a
 have:=this.length_eq;rw[lAq,Ho nm]at this;lia
abbrev gm:=K12.gm
def S6(T:Λ):(gm T).flatten.Perm T.flatten:=(qz (K12.Dg T)).trans (tF uM T)
def W8(T:Λ):(gm T).length=T.length:=by rw[(K12.Dg T).length_eq,lMq]
def aa6(rs:Λ):Prop:=∀P:Nat->Prop,(∃s,s<rs.length/\P s)->(∀(p:Nat) (r:Ϝ) (x:Int),rs[p]?=some r->x∈r->P p->P (plc rs (-x)))->∀q,q<rs.length->P q
def O5{T:Λ}(n:Mp (gm T)){r:Ϝ}(hr:r∈T):∃p,(gm T)[p]?=some (good r)/\∀x∈r,plc (gm T) x=p:=by
 have s:good r∈gm T:=(K12.Dg T).mem_iff.mpr (mMq.mpr ⟨r,hr,rfl⟩);obtain⟨p,l⟩:=ay.mp s;exact⟨p,l,λx t=>plc_eq n.hn l ((uM r).mem_iff.mpr t)⟩
def NG{T:Λ}(M:Mp (gm T))(U:0<T.length)(tr:K11.CU T):aa6 (gm T):=by
 intro P ⟨s,hs,X⟩ hc q H
 by_cases h1:T.length=1
 .rw[W8,h1]at hs H;have:q=s:=by lia
  rw[this];exact X
 have E:∀k,k<T.length->∃z,z∈T.getD k []:=λk hk=>by
  by_cases n:k=0
  .subst n;obtain⟨j,e,I,a,b⟩:=tr 1 (by lia) (by lia)
   have:j=0:=by lia
   subst this;exact⟨e,a⟩
  .obtain⟨j,e,I,a,b⟩:=tr k (by lia) hk
   exact⟨_,b⟩
 have u:∀k,k<T.length->T.getD k []∈T:=λk hk=>by
  rw[gDq,gEg hk];exact gRq hk
 have x:∀k,k<T.length->∀z,z∈T.getD k []->z∈(gm T).flatten:=λk hk z l=>(S6 T).mem_iff.mpr (mFq.mpr ⟨_,u k hk,l⟩)
 have same:∀k,k<T.length->∀z w,z∈T.getD k []->w∈T.getD k []->P (plc (gm T) z)->P (plc (gm T) w):=λk hk z w l hw L=>by
  obtain⟨p,_,J⟩:=O5 M (u k hk);rw[J w hw];rw[J z l]at L;exact L
 have t:∀z,z∈(gm T).flatten->P (plc (gm T) z)->P (plc (gm T) (-z)):=λz l L=>by
  obtain⟨r,hr,hx⟩:=M.at l;exact hc _ r z hr hx L
 have down:(∀z,z∈T.getD 0 []->P (plc (gm T) z))->∀k,k<T.length->∀z,z∈T.getD k []->P (plc (gm T) z):=λh0 k=>by
  induction k using gN with
  |ind k O=>
   intro hk z l
   by_cases n:k=0
   .subst n;exact h0 z l
   .obtain⟨j,e,I,a,b⟩:=tr k (by lia) hk
    exact same k hk _ z b l (t e (x j (by lia) e a) (O j I (by lia) e a))
 have up:∀k,k<T.length->(∀z,z∈T.getD k []->P (plc (gm T) z))->∀z,z∈T.getD 0 []->P (plc (gm T) z):=λk=>by
  induction k using gN with
  |ind k O=>
   intro hk l
   by_cases n:k=0
   .subst n;exact l
   .obtain⟨j,e,I,a,b⟩:=tr k (by lia) hk
    have Y:=t (-e) (x k hk _ b) (l _ b);rw[aM]at Y;exact O j I (by lia) λz G=>same j (by lia) e z a G Y
 have B:∀q,q<(gm T).length->∃k,k<T.length/\∃z,z∈T.getD k []/\plc (gm T) z=q:=λq H=>by
  have hr:=gEg H;obtain⟨r,Q,e⟩:=mMq.mp ((K12.Dg T).mem_iff.mp (gRq H));obtain⟨k,hk,e2⟩:=cP.mp Q;have e3:T.getD k []=r:=by rw[gDq,gEg hk,e2];rfl
  obtain⟨z,l⟩:=E k hk;refine⟨k,hk,z,l,plc_eq M.hn hr ?_⟩;rw[←e];exact(uM r).mem_iff.mpr (e3 ▸ l)
 obtain⟨k,hk,z,l,ez⟩:=B s hs;have z0:=up k hk λw hw=>same k hk z w l hw (by rw[ez];exact X)
 obtain⟨k',R,z',G,S⟩:=B q H;have:=down z0 k' R z' G;rw[S]at this;exact this
end K31
namespace K31
open PySem L2 Mr Z Xe Zl
open K12 (nmk)
def nmN(st sh a b:Int)(n:Nat):Ϝ:=(az n).map λk:Nat=>nmk st sh a b k
end K31
namespace K43
open PySem L2 Mr Z Xe Zl
open K51 (ud Ps Pc)
section
variable {M:Λ}{z:Int}
def ZC(M:Λ)(z:Int):Bool:=@decide (¬ ud (K23.C z M) (plc M z) (plc M (-z))) (fh _)
def rds(M:Λ):Ϝ:=(qQ M.flatten).filter λz=>decide (0<z)
end
end K43
namespace K46
open PySem L2 Mr Z Xe Zl
open K18 (pp cp PC tR sF uC uQ tK DM pM AF yV ct vf ZJ rK uK Ln nL tY BF Ad)
def O6{c:Ϝ}{x y:Int}(n:x∈c)(s:y∈c)(ne:x≠y):∃X Y:Ϝ,(∀q,(cp (x::X++y::Y)).count q=(cp c).count q):=by
 obtain⟨a,b,rfl⟩:=dC n;have t:∀q,(cp (a++x::b)).count q=(cp (x::b++a)).count q:=λq=>tK a (x::b) q
 have l:y∈b++a:=by
  rcases mAq.mp s with h|h
  .exact aj _ h
  .rcases ae.mp h with h|h
   .exact absurd h.symm ne
   .exact ak _ h
 obtain⟨X,Y,e⟩:=dC l;refine⟨X,Y,λq=>?_⟩
 rw[t q];show(cp (x::X++y::Y)).count q=(cp (x::(b++a))).count q;rw[e];rfl
def AB(A B:Ϝ)(x y:Int):∃s t:Int,(∀u v,(cp (x::A++y::B)).count (u,v)=(pp (x::A)).count (u,v)+(pp (y::B)).count (u,v)+ct s y u v+ct t x u v)/\(∀u v,(cp (x::A)).count (u,v)=(pp (x::A)).count (u,v)+ct s x u v)/\∀u v,(cp (y::B)).count (u,v)=(pp (y::B)).count (u,v)+ct t y u v:=by
 obtain⟨G,s,n⟩:=uC (show x::A≠[] by simp)
 obtain⟨E,t,z⟩:=uC (show y::B≠[] by simp)
 refine⟨s,t,λu v=>?_,λu v=>?_,λu v=>?_⟩
 .rw[sF (l:=x::A++y::B) (a:=t) (h:=x) (l':=x::A++E) (l'':=A++y::B) (by rw[z,aa]) rfl,tR n rfl]
  simp only[cAq,rK,bX];lia
 .rw[sF n rfl];simp only[cAq,rK,bX];lia
 .rw[sF z rfl];simp only[cAq,rK,bX];lia
section
variable {C LL:Λ}{i:Nat}
def uj(u v:Int):ct u v u v=1:=by unfold ct;simp
def Ln.split(h:Ln C LL)(hn:C.flatten.Nodup)(hneg:∀e∈C.flatten, -e∈C.flatten){r A B:Ϝ}{x y:Int}(hi:C[i]?=some r)(hr:∀q,(cp (x::A++y::B)).count q=(cp r).count q)(ne:x≠y){c:Ϝ}(M:c∈LL)(P:x∈c)(Q:y∈c):∃n,Ln (C.set i (x::A)++[y::B]) n/\nL (C.set i (x::A)++[y::B]) n=nL C LL+1:=by
 obtain⟨s,t,G,R,S⟩:=AB A B x y;obtain⟨X,Y,H⟩:=O6 P Q ne;obtain⟨l,I,J,U,m3⟩:=AB X Y x y;obtain⟨j,hj⟩:=ay.mp M;have nd:((PC C).map (·.2)).Nodup:=(DM C).nodup_iff.mpr hn;have z:∀{u v:Int},0<(cp r).count (u,v)->(u,v)∈PC C:=λq=>tY hi (aZ.mp q)
 have q1:(s,y)∈PC C:=z (by rw[←hr,G];have:=uj s y;lia)
 have q2:(t,x)∈PC C:=z (by rw[←hr,G];have:=uj t x;lia)
 have E:∀{u v:Int},0<(cp c).count (u,v)->(-u,v)∈PC C:=λ{u v} q=>by
  have:(u,v)∈PC LL:=bp.mpr ⟨c,M,aZ.mp q⟩;rw[uK,←h.cnt];exact uK.mp this
 have q3:(-l,y)∈PC C:=E (by rw[←H,J];have:=uj l y;lia)
 have q4:(-I,x)∈PC C:=E (by rw[←H,J];have:=uj I x;lia)
 have es:s = -l:=congrArg (·.1) (Ad nd q1 q3 rfl);have et:t = -I:=congrArg (·.1) (Ad nd q2 q4 rfl);subst es;subst et;have L:r≠[]:=λq=>by
  subst q;have:=hr (-l,y);rw[G]at this;have:=uj (-l) y;have e0:(cp ([]:Ϝ)).count (-l,y)=0:=rfl;lia
 have cs:=BF (r':=x::A) hi;rw[pE L,pE (by simp)]at cs
 refine⟨LL.set j (x::X)++[y::Y],⟨λu v=>?_,λd hd=>?_⟩,?_⟩
 .have a1:=yV (r':=x::X) (u,v) hj;have O:=yV (r':=x::A) (-u,v) hi;have a3:=h.cnt u v;rw[AF,AF,pM,pM];have z1:(PC ([]:Λ)).count (u,v)=0:=rfl;have z2:(PC ([]:Λ)).count (-u,v)=0:=rfl;rw[z1,z2];rw[←H,J,U]at a1;rw[←hr,G,R]at O;rw[m3,S];simp only[vf,aM]at O ⊢;lia
 .rcases mAq.mp hd with hd|hd
  .rcases eO hd with q|q
   .exact h.ne d q
   .rw[q];simp
  .rw[mSq.mp hd];simp
 .unfold nL;rw[cAq,lAq,lZq];have:([y::B]:Λ).count []=0:=by simp
  rw[this];show _+1+_=_;lia
end
end K46
namespace K18
open PySem L2 Mr Z Xe Zl
open K15 (nx fw uL Rd GC)
open K43 (CP ZC emp)
open K46 (O6 AB uj)
open K51 (ud Ps)
def TL{f:Int->Int}{E:Ϝ}(one:KZ f E):∃L,CW f E L:=by
 have key:∀n,∃kn L,Rd f E kn L/\∀x∈E.take n,x∈kn:=by
  intro n
  induction n with
  |zero=>exact⟨[],[],⟨by simp,rfl,bw,by simp,by simp⟩,by simp⟩
  |succ n z=>
   obtain⟨kn,L,rd,h⟩:=z;cases t:E[n]? with
   |none=>
    rw[bF,t];exact⟨kn,L,rd,by simpa using h⟩
   |some e=>
    have s:=mGq t;rw[qf t]
    by_cases c:e∈kn
    .refine⟨kn,L,rd,λx u=>?_⟩
     rcases mAq.mp u with q|q
     .exact h x q
     .rw[mSq.mp q];exact c
    .obtain⟨l,cy,_⟩:=one.cy s;refine⟨kn++l,L++[l],rd.add one cy s c,λx u=>?_⟩
     rcases mAq.mp u with q|q
     .exact ak _ (h x q)
     .rw[mSq.mp q];exact aj _ cy.self
 obtain⟨kn,L,rd,h⟩:=key E.length;rw[aE]at h;exact⟨L,rd.orb h⟩
section
variable {C LL:Λ}{z:Int}
def Yd(hn:C.flatten.Nodup){u y:Int}:(u,y)∈PC C↔u∈C.flatten/\y=nx C u:=by
 constructor
 .intro h;refine⟨?_,(Bk hn h).symm⟩;rw[←D0 C];exact mMq.mpr ⟨_,h,rfl⟩
 .rintro⟨h,rfl⟩;rw[←D0 C]at h;obtain⟨⟨a,b⟩,l,rfl⟩:=mMq.mp h;rw[Bk hn l];exact l
def W3{f:Int->Int}{E:Ϝ}{L:Λ}(o:CW f E L){x y:Int}:(x,y)∈PC L↔x∈E/\y=f x:=by
 have to:∀{x y:Int},(x,y)∈PC L->x∈E/\y=f x:=λ{x y} h=>by
  obtain⟨l,hl,q⟩:=bp.mp h;obtain⟨e,c⟩:=o.cy l hl;obtain⟨j,n,t⟩:=Vr q;have u:=(gSq.mp n).1;refine⟨(o.all x).mp (mFq.mpr ⟨l,hl,mGq n⟩),?_⟩;rw[c.at u]at n;have ex:=aO.inj n
  by_cases s:j+1<l.length
  .rw[fc s,c.at s]at t;rw[←ex];exact(aO.inj t).symm
  .have B:j+1=l.length:=by lia
   rw[B,gV,c.at (by lia)]at t
   have:=c.back;rw[←B]at this;rw[←ex,←aO.inj t];exact this.symm
 constructor
 .exact to
 .rintro⟨h,rfl⟩;have:x∈(PC L).map (·.1):=by rw[D0];exact(o.all x).mpr h
  obtain⟨⟨a,b⟩,G,rfl⟩:=mMq.mp this;rw[← (to G).2];exact G
def Xb{A B:List (Int×Int)}(l:A.Nodup)(n:B.Nodup){p q:Int×Int}(h:p∈A↔q∈B):A.count p=B.count q:=by
 by_cases c:p∈A
 .have s:=eR.mp l p;have t:=eR.mp n q;have b1:=aZ.mpr c;have b2:=aZ.mpr (h.mp c);lia
 .rw[dA.mpr c,dA.mpr λz=>c (h.mpr z)]
def VO(hn:C.flatten.Nodup):(PC C).Nodup:=by
 have:((PC C).map (·.1)).Nodup:=by rw[D0];exact hn
 exact bq.of_map (·.1) (λa b h q=>h (by rw[q])) this
def WG(mp:Mp C){L:Λ}(o:CW (fw C) C.flatten L):Ln C L:=by
 refine⟨λx y=>Xb (VO o.dj) (VO mp.hn) ?_,λc l q=>?_⟩
 .rw[W3 o,Yd mp.hn];constructor
  .exact λh=>⟨mp.hneg x h.1,h.2⟩
  .rintro⟨n,s⟩;have:=mp.hneg _ n;rw[aM]at this;exact⟨this,s⟩
 .obtain⟨e,cy⟩:=o.cy c l;have:=cy.len;rw[q]at this;simp at this
def zC(mp:Mp C):∃LL,Ln C LL:=by
 obtain⟨L,o⟩:=TL (uL mp);exact⟨L,WG mp o⟩
def Ln.one{l:Λ}(mp:Mp C)(h:Ln C LL)(h':Ln C l):nL C LL=nL C l:=by
 have p:=(CW.perm (uL mp) (h.orb mp) (h'.orb mp)).length_eq;rw[lMq,lMq]at p;unfold nL;rw[p]
def Ln.congr{l:Λ}(h:Ln C LL)(e:∀q,(PC l).count q=(PC C).count q):Ln l LL:=⟨λx y=>by rw[e];exact h.cnt x y,h.ne⟩
def Ln.join{A B c G:Ϝ}{x y:Int}{R:Λ}(h:Ln ((x::A++y::B)::R) LL)(hn:((x::A++y::B)::R).flatten.Nodup)(J:c∈LL)(n:G∈LL)(ne:c≠G)(L:x∈c)(hy:y∈G):∃E,Ln ((x::A)::(y::B)::R) E/\nL ((x::A)::(y::B)::R) E+1=nL ((x::A++y::B)::R) LL/\∃d∈E,x∈d/\y∈d:=by
 obtain⟨s,t,M,k2,k3⟩:=AB A B x y;have rot:∀{c:Ϝ}{x:Int},x∈c->∃X:Ϝ,∀q,(cp (x::X)).count q=(cp c).count q:=λ{c x} L=>by
  obtain⟨a,b,rfl⟩:=dC L;exact⟨b++a,λq=>(tK a (x::b) q).symm⟩
 obtain⟨X,eX⟩:=rot L;obtain⟨Y,eY⟩:=rot hy;obtain⟨O,P,m1,m2,m3⟩:=AB X Y x y;have nd:((PC ((x::A++y::B)::R)).map (·.2)).Nodup:=(DM _).nodup_iff.mpr hn;have H:∀{u v:Int},0<(cp (x::A++y::B)).count (u,v)->(u,v)∈PC ((x::A++y::B)::R):=λq=>tY (i:=0) rfl (aZ.mp q)
 have q1:=H (u:=s) (v:=y) (by rw[M];have:=uj s y;lia)
 have q2:=H (u:=t) (v:=x) (by rw[M];have:=uj t x;lia)
 have I:∀{c:Ϝ}{u v:Int},c∈LL->0<(cp c).count (u,v)->(-u,v)∈PC ((x::A++y::B)::R):=λ{c u v} J q=>by
  have:(u,v)∈PC LL:=bp.mpr ⟨c,J,aZ.mp q⟩;rw[uK,←h.cnt];exact uK.mp this
 have q3:=I J (u:=O) (v:=x) (by rw[←eX,m2];have:=uj O x;lia)
 have q4:=I n (u:=P) (v:=y) (by rw[←eY,m3];have:=uj P y;lia)
 have es:t = -O:=congrArg (·.1) (Ad nd q2 q3 rfl);have et:s = -P:=congrArg (·.1) (Ad nd q1 q4 rfl);subst es;subst et;obtain⟨l1,l2,e1⟩:=dC J;have Q:G∈l1++l2:=by
  rw[e1]at n;rcases mAq.mp n with q|q
  .exact ak _ q
  .rcases ae.mp q with q|q
   .exact absurd q.symm ne
   .exact aj _ q
 obtain⟨m4,m5,e2⟩:=dC Q;have S:LL.Perm (c::G::(m4++m5)):=by
  rw[e1];refine iE.trans (aL.cons _ ?_);rw[e2];exact iE
 refine⟨(x::X++y::Y)::(m4++m5),⟨λu v=>?_,λd hd=>?_⟩,?_,_,ai ..,by simp,by simp⟩
 .have a1:=vB S (u,v);have U:=h.cnt u v;rw[pM,pM]at a1;rw[pM]at U ⊢;rw[pM,pM];rw[←eX,←eY,m2,m3]at a1;rw[M]at U;rw[m1,k2,k3];simp only[vf,aM]at U ⊢;lia
 .rcases ae.mp hd with rfl|hd
  .simp
  .exact h.ne d (S.mem_iff.mpr (by simp only[ae];exact .inr (.inr hd)))
 .unfold nL;have l:=S.length_eq;simp only[lCq,cH]at l ⊢;have n1:(x::A == ([]:Ϝ))=false:=rfl;have n2:(y::B == ([]:Ϝ))=false:=rfl;have n3:(x::A++y::B == ([]:Ϝ))=false:=rfl;rw[n1,n2,n3];simp only[cK,if_false];lia
def Ln.loop{A B:Ϝ}{x y:Int}{R:Λ}(h:Ln ((x::A)::(y::B)::R) LL)(ne:x≠y)(z:Int):∃n,Ln ((z::x::A ++ -z::y::B)::R) n/\nL ((z::x::A ++ -z::y::B)::R) n=nL ((x::A)::(y::B)::R) LL:=by
 obtain⟨s,t,k1,E,G⟩:=AB A B x y;obtain⟨O,P,Q,S,U⟩:=AB (x::A) (y::B) z (-z);have X:∀u v,(pp (z::x::A)).count (u,v)=ct z x u v+(pp (x::A)).count (u,v):=λu v=>by
  show((z,x)::pp (x::A)).count (u,v)=_;rw[rK]
 have Y:∀u v,(pp (-z::y::B)).count (u,v)=ct (-z) y u v+(pp (y::B)).count (u,v):=λu v=>by
  show((-z,y)::pp (y::B)).count (u,v)=_;rw[rK]
 have lst:∀{w:Int}{l:Ϝ}{a b c:Int},(∀u v,(cp (a::l)).count (u,v)=(pp (a::l)).count (u,v)+ct b a u v)->(∀u v,(cp (w::a::l)).count (u,v)=(pp (w::a::l)).count (u,v)+ct c w u v)->b=c:=λ{w l a b c} h1 h2=>by
  obtain⟨l',k,J⟩:=uC (show a::l≠[] by simp)
  have e1:=sF J rfl;have e2:=sF (l:=w::a::l) (a:=k) (h:=w) (l':=w::l') (l'':=a::l) (by rw[J];rfl) rfl
  have f1:=h1 k a;have f2:=h2 k w;rw[e1,cAq,ZJ]at f1;rw[e2,cAq,ZJ]at f2;have o1:=uj k a;have o2:=uj k w;have g:∀{p q r s:Int},0<ct p q r s->p=r:=λ{p q r s} hp=>by
   unfold ct at hp;have:=mSq.mp (aZ.mp hp);exact(congrArg (·.1) this).symm
  rw[g (p:=b) (q:=a) (r:=k) (s:=a) (by lia),g (p:=c) (q:=w) (r:=k) (s:=w) (by lia)]
 have es:s=O:=lst E S;have et:t=P:=lst G U;subst es;subst et;have m1:(-s,x)∈PC LL:=h.mem (tY (i:=0) rfl (aZ.mp (by rw[E];have:=uj s x;lia)))
 have m2:(-t,y)∈PC LL:=h.mem (tY (i:=1) rfl (aZ.mp (by rw[G];have:=uj t y;lia)))
 obtain⟨L1,l1,H,L⟩:=D7 (-z) m1 h.ne;have m3:(-t,y)∈PC L1:=uK.mpr (by
  have:=L (-t) y;have z0:ct (-s) x (-t) y=0:=by
   unfold ct;rw[dA];intro q;have:=mSq.mp q;rw[Prod.mk.injEq]at this;exact ne this.2.symm
  have:=uK.mp m2;lia)
 obtain⟨L2,l2,I,i2⟩:=D7 z m3 H;refine⟨L2,⟨λu v=>?_,I⟩,?_⟩
 .have a1:=L u v;have a2:=i2 u v;have M:=h.cnt u v;rw[pM,pM,E,G]at M;rw[pM,Q,X,Y];simp only[vf,aM]at M ⊢;lia
 .unfold nL;simp only[lCq,cH];have H:(x::A == ([]:Ϝ))=false:=rfl;have I:(y::B == ([]:Ϝ))=false:=rfl;have n3:(z::x::A ++ -z::y::B == ([]:Ϝ))=false:=rfl;rw[H,I,n3];simp only[cK,if_false];lia
end
end K18
namespace K18
open PySem L2 Mr Z Xe Zl
open K15 (nx fw uL GC)
open K16 (Fw)
open K43 (CP ZC emp)
open K46 (Ln.split)
open K51 (ud Ps)
section
variable {M LL:Λ}{z:Int}{p:Nat}{r:Ϝ}
def qV(s:Ϝ)(R:Λ):(s::R).count []=R.count []+(if s=[]then 1 else 0):=by
 rw[cH];simp only[beq_iff_eq]
def Ly(l:Mp M)(h:Ln M LL){x:Int}(n:x∈M.flatten):∃c∈LL,x∈c:=mFq.mp (((h.orb l).all x).mpr n)
def Yf{A B:Ϝ}{x y:Int}{R:Λ}{c:Ϝ}(h:Ln ((x::A++y::B)::R) LL)(n:Mp ((x::A++y::B)::R))(ne:x≠y)(s:c∈LL)(t:x∈c)(u:y∈c):∃l,Ln ((x::A)::(y::B)::R) l/\nL ((x::A)::(y::B)::R) l=nL ((x::A++y::B)::R) LL+1:=by
 obtain⟨l,E,G⟩:=Ln.split h n.hn n.hneg (i:=0) rfl (λ_=>rfl) ne s t u
 have pm:((x::A)::(y::B)::R).Perm (((x::A++y::B)::R).set 0 (x::A)++[y::B]):=aL.cons _ (aT (l₁:=[y::B]));refine⟨l,E.congr λq=>vB pm q,?_⟩
 rw[←G];unfold nL;rw[pm.count_eq]
end
end K18
namespace K17
open PySem L2 Mr Z Xe Zl
open K51 (ud Ps Pc)
structure Bp (A:List Λ):Prop where
 nd:A.flatten.flatten.Nodup
 ne:∀p∈A,p≠[]
 ba:∀p∈A,([]:Ϝ)∈p->p=[[]]
def DY{l m:Λ}(h:l.Sublist m):l.flatten.Sublist m.flatten:=by
 induction h with
 |slnil=>exact .refl _
 |cons a _ n=>rw[fCq];exact n.trans (iz ..)
 |cons_cons a _ n=>rw[fCq,fCq];exact(cD.refl a).append n
abbrev cls(M:Λ)(PS:List Θ):List Λ:=PS.map λps=>ps.map λk=>M.getD k []
end K17
namespace K52
open PySem L2 Mr Z Xe Zl
open K15 (nx)
open K18 (pp cp PC Ce sF tK Bk tY)
open K43 (CP rA qe)
open K51 (ud)
structure Fm where
 p:Nat
 a:Ϝ
 d:Ϝ
 r:Ϝ
structure Sw where
 st:List Fm
 cl:Θ
 cb:List (Nat×Int)
 th:List (String×Int)
def frm(M:Λ)(x:Int):Ϝ:=(M.getD (plc M x) []).drop ((M.getD (plc M x) []).idxOf x+1)++(M.getD (plc M x) []).take ((M.getD (plc M x) []).idxOf x)
noncomputable def Sw.ks(s:Sw):Θ:=0::s.cb.map (·.1)
def Fm.tell(f:Fm)(e:Int)(r:Ϝ):Fm:=⟨f.p,f.a,f.d++[e],r⟩
def stp(M:Λ)(s:Sw):Sw:=match s.st with
 | []=>s
 |f::fs=>match f.r with
  |e::r=>if plc M (-e)∈s.ks then ⟨f.tell e r::fs,s.cl,s.cb,s.th++[("side", e)]⟩
   else ⟨⟨plc M (-e),[-e],[],frm M (-e)⟩::f.tell e r::fs,s.cl,s.cb++[(plc M (-e), -e)],s.th++[("down", e)]⟩
  | []=>match f.a,fs with
   | [x],g::gs=>⟨g::gs,f.p::s.cl,s.cb,s.th++[("up", x)]⟩
   |_,_=>s
def run(M:Λ):Nat->Sw
 |0=>⟨[⟨0,[],[],M.getD 0 []⟩],[],[],[]⟩
 |n+1=>stp M (run M n)
noncomputable def Fm.c(f:Fm):Ϝ:=f.a++f.d++f.r
structure Os (M:Λ)(f:Fm):Prop where
 lt:f.p<M.length
 pm:f.c.Perm (M.getD f.p [])
 cy:∀q∈cp f.c,nx M q.1=q.2
def Yp:List Fm->Prop
 | []=>False
 | [f]=>f.a=[]/\f.p=0
 |f::g::fs=>(∃x d,f.a=[x]/\g.d=d++[-x])/\Yp (g::fs)
structure Wi (M:Λ)(s:Sw):Prop where
 ch:Yp s.st
 ok:∀f∈s.st,Os M f
 nd:(s.st.map (·.p)++s.cl).Nodup
 ck:∀t,t∈s.ks↔t∈s.st.map (·.p)++s.cl
 cv:∀f∈s.st,∀x,f.a=[x]->(f.p,x)∈s.cb
 kn:s.ks.Nodup
 lc:∀p∈s.cl,p<M.length
 tl:(s.th.map (·.2)).Perm (s.st.flatMap (·.d)++s.cl.flatMap λp=>M.getD p [])
 out:∀x∈s.th.map (·.2),plc M (-x)∈s.ks
section
variable {M:Λ}{s:Sw}{f:Fm}{fs:List Fm}{x e:Int}
def Yp.top{g:Fm}:∀{fs:List Fm},Yp (f::fs)->g.a=f.a->g.p=f.p->Yp (g::fs)
 | [],h,ha,l=>⟨by rw[ha];exact h.1,by rw[l];exact h.2⟩
 |k::fs,h,ha,l=>⟨by rw[ha];exact h.1,h.2⟩
def AO(n:Mp M)(t:x∈M.flatten):plc M x<M.length/\x∈M.getD (plc M x) []:=by
 obtain⟨r,l,u⟩:=n.at t;refine⟨(gSq.mp l).1,?_⟩;rw[gDq,l];exact u
def Kb(l:Mp M)(B:x∈M.flatten):Os M ⟨plc M x,[x],[],frm M x⟩:=by
 obtain⟨n,E⟩:=AO l B;have hr:=qe n;have key:∀r:Ϝ,x∈r->∃X Y,r=X++x::Y/\r.drop (r.idxOf x+1)++r.take (r.idxOf x)=Y++X:=λr h=>by
  have lt:=bz h;refine⟨r.take (r.idxOf x),r.drop (r.idxOf x+1),?_,rfl⟩;have e:r[r.idxOf x]=x:=bQ lt
  conv=>lhs;rw[←aS (r.idxOf x) r,aC lt,e]
 obtain⟨X,Y,t,G⟩:=key _ E;have u:(⟨plc M x,[x],[],frm M x⟩:Fm).c=x::Y++X:=by
  show[x]++[]++frm M x=_;unfold frm;rw[G];rfl
 refine⟨n,?_,λq z=>?_⟩
 .rw[u,t];exact aT
 .rw[u]at z;refine Bk l.hn (tY hr ?_);rw[t];have:=aZ.mpr z;rw[tK]at this;exact aZ.mp this
def Os.mem(l:Mp M)(h:Os M f)(n:x∈f.c):x∈M.flatten/\plc M x=f.p:=by
 have hr:=qe h.lt;have:=h.pm.mem_iff.mp n;exact⟨mFq.mpr ⟨_,mGq hr,this⟩,plc_eq l.hn hr this⟩
def QN{r:Ϝ}(h:f.r=e::r):(f.tell e r).c=f.c:=by
 unfold Fm.tell Fm.c;rw[h];simp
theorem Os.tell{r:Ϝ}(h:Os M f)(hr:f.r=e::r):Os M (f.tell e r):=⟨h.lt,by rw[QN hr];exact h.pm,by rw[QN hr];exact h.cy⟩
def wi0(u:Mp M)(n:0<M.length):Wi M (run M 0):=by
 have hr:=qe n;refine⟨⟨rfl,rfl⟩,λf l=>?_,by simp[run],λt=>?_,λf l x h=>?_,by simp[run,Sw.ks],λp z=>(by cases z),by simp[run],λx B=>(by cases B)⟩
 .rw[mSq.mp l];refine⟨n,.refl _,λq E=>Bk u.hn (tY hr E)⟩
 .show t∈[0]↔t∈[0]++[];rw[aNq]
 .rw[mSq.mp l]at h;cases h
def Gz(I:Mp M)(h:Wi M s):Wi M (stp M s):=by
 obtain⟨st,cl,cb,th⟩:=s;cases st with
 |nil=>exact h.ch.elim
 |cons f fs=>
  have J:=h.ok f (ai ..);cases q:f.r with
  |cons e r=>
   have Q:e∈f.c:=by unfold Fm.c;rw[q];simp
   obtain⟨R,pe⟩:=J.mem I Q;have S:=J.tell q;have E:∀g∈f.tell e r::fs,Os M g:=λg n=>by
    rcases ae.mp n with z|z
    .rw[z];exact S
    .exact h.ok g (mCo _ z)
   have G:Yp (f.tell e r::fs):=h.ch.top rfl rfl;have tl:(th.map (·.2)++[e]).Perm ((f.tell e r::fs).flatMap (·.d)++cl.flatMap λp=>M.getD p []):=by
    refine(h.tl.append_right [e]).trans ?_;show((f.d++fs.flatMap (·.d))++_++[e]).Perm (((f.d++[e])++fs.flatMap (·.d))++_);rw[aa,aa,aa,aa];refine aL.append_left _ ?_;rw[←aa];exact aT
   by_cases c:plc M (-e)∈(⟨f::fs,cl,cb,th⟩:Sw).ks
   .have H:stp M ⟨f::fs,cl,cb,th⟩=⟨f.tell e r::fs,cl,cb,th++[("side", e)]⟩:=by
     unfold stp;simp only[q];rw[pH c]
    rw[H];refine⟨G,E,h.nd,h.ck,λg n x l=>?_,h.kn,h.lc,by rw[mBq];exact tl,λx l=>?_⟩
    .rcases ae.mp n with z|z
     .rw[z]at l ⊢;exact h.cv f (ai ..) x l
     .exact h.cv g (mCo _ z) x l
    .rw[mBq]at l;rcases mAq.mp l with z|z
     .exact h.out x z
     .rw[mSq.mp z];exact c
   .have H:stp M ⟨f::fs,cl,cb,th⟩=⟨⟨plc M (-e),[-e],[],frm M (-e)⟩::f.tell e r::fs,cl,cb++[(plc M (-e), -e)],th++[("down", e)]⟩:=by
     unfold stp;simp only[q];rw[pE c]
    rw[H];have U:plc M (-e)∉(f::fs).map (·.p)++cl:=λz=>c ((h.ck _).mpr z)
    have L:(⟨⟨plc M (-e),[-e],[],frm M (-e)⟩::f.tell e r::fs,cl,cb++[(plc M (-e), -e)],th++[("down", e)]⟩:Sw).ks=(⟨f::fs,cl,cb,th⟩:Sw).ks++[plc M (-e)]:=by
     unfold Sw.ks;rw[mBq];rfl
    refine⟨⟨⟨-e,f.d,rfl,by rw[aM];rfl⟩,G⟩,λg n=>?_,ar.mpr ⟨U,h.nd⟩,λt=>?_,λg n x l=>?_,?_,h.lc,by rw[mBq];exact tl,λx l=>?_⟩
    .rcases ae.mp n with z|z
     .rw[z];exact Kb I (I.hneg e R)
     .exact E g z
    .rw[L,mAq,mSq,h.ck];show _↔t∈plc M (-e)::((f::fs).map (·.p)++cl);rw[ae];exact Or.comm
    .rcases ae.mp n with z|z
     .rw[z]at l ⊢;cases l;exact aj _ (mSq.mpr rfl)
     .refine ak _ ?_;rcases ae.mp z with w|w
      .rw[w]at l ⊢;exact h.cv f (ai ..) x l
      .exact h.cv g (mCo _ w) x l
    .rw[L];exact nAq.mpr ⟨h.kn,by simp,λa ha b hb z=>c (by rw[mSq.mp hb]at z;exact z ▸ ha)⟩
    .rw[L];rw[mBq]at l;rcases mAq.mp l with z|z
     .exact ak _ (h.out x z)
     .rw[mSq.mp z];exact aj _ (mSq.mpr rfl)
  |nil=>
   cases fs with
   |nil=>
    have:stp M ⟨[f],cl,cb,th⟩=⟨[f],cl,cb,th⟩:=by
     have ha:f.a=[]:=h.ch.1;unfold stp;simp only[q,ha]
    rw[this];exact h
   |cons g u=>
    obtain⟨⟨x,d,O,X⟩,ch⟩:=h.ch;have H:stp M ⟨f::g::u,cl,cb,th⟩=⟨g::u,f.p::cl,cb,th++[("up", x)]⟩:=by
     unfold stp;simp only[q,O]
    rw[H];have pm:((f::g::u).map (·.p)++cl).Perm ((g::u).map (·.p)++f.p::cl):=iE.symm;have n:=h.ok g (by simp)
    refine⟨ch,λk hk=>h.ok k (mCo _ hk),pm.nodup_iff.mp h.nd,λt=>(h.ck t).trans pm.mem_iff,λk hk=>h.cv k (mCo _ hk),h.kn,λp Y=>?_,?_,λy P=>?_⟩
    .rcases ae.mp Y with z|z
     .rw[z];exact J.lt
     .exact h.lc p z
    .rw[mBq];refine(h.tl.append_right [x]).trans ?_;have row:(f.d++[x]).Perm (M.getD f.p []):=by
      refine aT.trans ?_;have:=J.pm;unfold Fm.c at this;rw[O,q,aNq]at this;exact this
     show((f.d++(g::u).flatMap (·.d))++cl.flatMap (λp=>M.getD p [])++[x]).Perm ((g::u).flatMap (·.d)++(M.getD f.p []++cl.flatMap λp=>M.getD p []))
     generalize (g::u).flatMap (·.d)=A;generalize (cl.flatMap λp=>M.getD p [])=B
     refine aL.trans ?_ (aL.append_left A (aL.append_right B row));rw[aa,aa,←aa A B];refine(gY f.d (A++B) [x]).trans ?_;rw[aa];exact aL.append_left A aT
    .rw[mBq]at P;rcases mAq.mp P with z|z
     .exact h.out y z
     .rw[mSq.mp z];have:-x∈g.c:=by unfold Fm.c;rw[X];simp
      refine(h.ck _).mpr ?_;rw[(n.mem I this).2];simp
theorem sP(l:Mp M)(t:0<M.length):∀n,Wi M (run M n)
 |0=>wi0 l t
 |n+1=>Gz l (sP l t n)
def Fin(s:Sw):Prop:=∃f,s.st=[f]/\f.r=[]
def Ux{P:Θ}(nd:P.Nodup)(lt:∀p∈P,p<M.length):∃Q:Θ,P.Perm Q/\(Q.flatMap λp=>M.getD p []).Sublist M.flatten:=by
 refine⟨(az M.length).filter λk=>decide (k∈P),(aX nd (dz.filter _)).mpr λk=>?_,?_⟩
 .rw[aU,bD,decide_eq_true_iff];exact⟨λh=>⟨lt k h,h⟩,λh=>h.2⟩
 .rw[iF];have:=K17.DY ((dP (p:=λk=>decide (k∈P)) (l:=az M.length)).map λk=>M.getD k [])
  rwa [rA]at this
def Jx(st:List Fm):(st.flatMap Fm.c).Perm (st.flatMap (·.d)++st.flatMap λf=>f.a++f.r):=by
 induction st with
 |nil=>exact .refl _
 |cons f fs l=>
  show(f.a++f.d++f.r++fs.flatMap Fm.c).Perm ((f.d++fs.flatMap (·.d))++((f.a++f.r)++fs.flatMap λf=>f.a++f.r))
  refine(aL.append_left _ l).trans ?_;generalize fs.flatMap (·.d)=A;generalize (fs.flatMap λf=>f.a++f.r)=B
  rw[fL];intro z;simp only[cAq];lia
def Wi.full(h:Wi M s):∃F:Ϝ,F.Sublist M.flatten/\(s.th.map (·.2)++s.st.flatMap λf=>f.a++f.r).Perm F:=by
 have lt:∀p∈s.st.map (·.p)++s.cl,p<M.length:=λp n=>by
  rcases mAq.mp n with z|z
  .obtain⟨f,t,rfl⟩:=mMq.mp z;exact(h.ok f t).lt
  .exact h.lc p z
 obtain⟨Q,u,sub⟩:=Ux h.nd lt;refine⟨_,sub,?_⟩;have l:∀st:List Fm,(∀f∈st,Os M f)->(st.flatMap Fm.c).Perm ((st.map (·.p)).flatMap λp=>M.getD p []):=λst=>by
  induction st with
  |nil=>intro _;exact .refl _
  |cons f fs B=>
   intro ok;exact aL.append (ok f (ai ..)).pm (B λg E=>ok g (mCo _ E))
 have G:=(Jx s.st).symm.trans (l s.st h.ok);have H:((s.st.map (·.p)++s.cl).flatMap λp=>M.getD p []).Perm (Q.flatMap λp=>M.getD p []):=aL.flatMap_right _ u
 refine aL.trans ?_ H;rw[fK];refine aL.trans ?_ (aL.append_right _ G);refine(aL.append_right _ h.tl).trans ?_;rw[aa,aa];exact aL.append_left _ aT
def Wi.less(h:Wi M s)(t:¬ Fin s):s.th.length<M.flatten.length:=by
 obtain⟨F,sub,pm⟩:=h.full;have B:=sub.length_le;have u:=pm.length_eq;rw[lAq,lMq]at u
 suffices (s.st.flatMap λf=>f.a++f.r)≠[] by
  have:=eU.mpr this;lia
 intro q;have n:∀f∈s.st,f.a++f.r=[]:=List.flatMap_eq_nil_iff.mp q;have l:=h.ch
 match e:s.st,l with
 | [f],_=>exact t ⟨f,e,(dr.mp (n f (by rw[e];simp))).2⟩
 |f::g::fs,hc=>
  obtain⟨⟨x,d,z,_⟩,_⟩:=hc;have:=n f (by rw[e];simp)
  rw[z]at this;cases this
def Wi.whole(L:Mp M)(h:Wi M s)(fin:Fin s)(one:∀k,k<M.length->ud M 0 k):s.th.length=M.flatten.length/\s.ks.length=M.length/\(s.th.map (·.2)).Perm M.flatten:=by
 obtain⟨f,e,B⟩:=fin;have l:=h.ch;rw[e]at l;have E:=h.ok f (by rw[e];simp)
 have n:∀k∈s.ks,∀x∈M.getD k [],x∈s.th.map (·.2):=λk hk x t=>by
  rw[h.ck,e]at hk;refine h.tl.mem_iff.mpr ?_;rcases mAq.mp hk with z|z
  .have z:=mSq.mp z;rw[z]at t;have:=E.pm.mem_iff.mpr t;unfold Fm.c at this;rw[l.1,B,aNq]at this;refine ak _ ?_;rw[e];exact ak _ this
  .exact aj _ (bp.mpr ⟨k,z,t⟩)
 have all:∀k,ud M 0 k->k∈s.ks:=λk hk=>by
  induction hk with
  |base=>exact ai ..
  | @step k r x _ hr t H=>
   refine h.out x (n k H x ?_);rw[gDq,hr];exact t
 have kp:s.ks.Perm (az M.length):=(aX h.kn dz).mpr λk=>by
  rw[bD];refine⟨λhk=>?_,λhk=>all k (one k hk)⟩
  rcases mAq.mp ((h.ck k).mp hk)with z|z
  .obtain⟨g,I,rfl⟩:=mMq.mp z;exact(h.ok g I).lt
  .exact h.lc k z
 have u:(s.st.map (·.p)++s.cl).Perm s.ks:=(aX h.nd h.kn).mpr λk=>(h.ck k).symm
 have G:(s.th.map (·.2)).Perm M.flatten:=by
  refine h.tl.trans ?_;have J:s.st.flatMap (·.d)=f.c:=by
   rw[e];show f.d++[]=f.a++f.d++f.r;rw[l.1,B];rfl
  rw[J];refine(aL.append_right _ E.pm).trans ?_;have:(M.getD f.p []++s.cl.flatMap λp=>M.getD p [])=(s.st.map (·.p)++s.cl).flatMap λp=>M.getD p []:=by
   rw[e];rfl
  rw[this];refine(aL.flatMap_right _ (u.trans kp)).trans ?_;rw[iF,rA]
 refine⟨?_,?_,G⟩
 .have:=G.length_eq
  rwa [lMq]at this
 .have:=kp.length_eq
  rwa [aB]at this
end
end K52
namespace K52
open PySem L2 Mr Z Xe Zl
open K15 (nx yg)
open K18 (pp cp PC Ce sF tK Bk tY)
open K43 (CP qe)
open K51 (ud AY)
def Sw.cur(s:Sw):Int:=match s.st with
 | []=>0
 |f::_=>(f.r++f.a).headD 0
section
variable {M:Λ}{s:Sw}{f:Fm}{fs:List Fm}{x e:Int}
def Os.nxt(h:Os M f){L:Ϝ}{y:Int}(u:f.a++f.d=L++[y])(ne:f.r++f.a≠[]):nx M y=(f.r++f.a).headD 0:=by
 have n:f.c=L++[y]++f.r:=by unfold Fm.c;rw[u]
 cases q:f.r with
 |nil=>
  rw[q,cX]at ne;rw[q,aNq]at n;obtain⟨z,l,t⟩:=K18.uQ ne;have B:f.c=z::(l++f.d++f.r):=by unfold Fm.c;rw[t];simp
  have:=h.cy (y,z) (by rw[sF n B];simp)
  rw[t];exact this
 |cons z r=>
  rw[q]at n;have:f.c≠[]:=by rw[n];simp
  obtain⟨w,l,E⟩:=K18.uQ this;have G:cp f.c=pp (f.c++[w]):=by rw[E];rfl
  have H:f.c++[w]=L++y::z::(r++[w]):=by rw[n];simp
  exact h.cy (y,z) (by rw[G,H,Ce];simp)
def C1(s:Sw):List (pI×D):=(.inl 0,.non)::s.cb.map λp=>(.inl (p.1:Int),.int p.2)
def C4(kn:s.ks.Nodup){p:Nat}(h:(p,x)∈s.cb):Z.getD (C1 s) (.inl (p:Int))=some (.int x):=by
 have key:∀cb:List (Nat×Int),(cb.map (·.1)).Nodup->(p,x)∈cb->Z.getD (cb.map λp=>((.inl (p.1:Int):pI),D.int p.2)) (.inl (p:Int))=some (.int x):=λcb=>by
  induction cb with
  |nil=>intro _ h;cases h
  |cons c cb t=>
   intro nd h;rw[au]at nd;obtain⟨l,n⟩:=ar.mp nd;unfold Z.getD;rw[au,dG];rcases ae.mp h with z|z
   .subst z;rw[d0 rfl];rfl
   .have ne:¬ ((aA (c.1:Int):pI) = .inl (p:Int)):=λq=>l (by
     have:c.1=p:=by have:=aA.inj q;lia
     rw[this];exact mMq.mpr ⟨_,z,rfl⟩)
    rw[d4 ne];exact t n z
 obtain⟨l,n⟩:=ar.mp kn;have u:¬ ((aA 0:pI) = .inl (p:Int)):=λq=>l (by
  have:p=0:=by have:=aA.inj q;lia
  rw[←this];exact mMq.mpr ⟨_,h,rfl⟩)
 have:=key s.cb n h;unfold Z.getD C1 at *;rw[dG,d4 u];exact this
def K6(s:Sw)(t:Nat):(Z.getD (C1 s) (.inl (t:Int))).isSome=decide (t∈s.ks):=by
 unfold Z.getD;rw[cU,bS,fv,decide_eq_true_iff];constructor
 .rintro⟨q,n,h⟩;have h:q.1=(aA (t:Int):pI):=of_decide_eq_true h;rcases ae.mp n with z|z
  .rw[z]at h;have:t=0:=by have:=aA.inj h;lia
   rw[this];exact ai ..
  .obtain⟨c,l,rfl⟩:=mMq.mp z;have:c.1=t:=by have:=aA.inj h;lia
   exact mCo _ (mMq.mpr ⟨c,l,this⟩)
 .intro h;rcases ae.mp h with z|z
  .exact⟨_,ai ..,d0 (by rw[z];rfl)⟩
  .obtain⟨c,l,rfl⟩:=mMq.mp z;exact⟨_,mCo _ (mMq.mpr ⟨c,l,rfl⟩),d0 rfl⟩
def Wi.ahead(h:Wi M s){f:Fm}(l:f∈s.st){y:Int}(n:y∈f.a++f.r)(hn:M.flatten.Nodup):y∉s.th.map (·.2):=by
 obtain⟨F,sub,pm⟩:=h.full;have nd:=pm.nodup_iff.mpr (hn.sublist sub);exact λq=>(nAq.mp nd).2.2 y q y (bp.mpr ⟨f,l,n⟩) rfl
def Sw.way(s:Sw):Ϝ:=(s.st.flatMap (·.a)).reverse
inductive Go (M:Λ)(s t:Sw):Prop
 |up:t.th=s.th++[("up", s.cur)]->t.cb=s.cb->Z.getD (C1 s) (.inl (plc M s.cur:Int))=some (.int s.cur)->s.way=t.way++[s.cur]->(¬ Fin t->t.cur=nx M (-s.cur))->Go M s t
 |down:t.th=s.th++[("down", s.cur)]->t.cb=s.cb++[(plc M (-s.cur), -s.cur)]->plc M (-s.cur)∉s.ks->(∃v,Z.getD (C1 s) (.inl (plc M s.cur:Int))=some v/\B0 (.int s.cur) v=some (.bl false))->t.way=s.way++[-s.cur]->(∀w y,s.way=w++[y]->y≠s.cur)->t.cur=nx M (-s.cur)->Go M s t
 |side:t.th=s.th++[("side", s.cur)]->t.cb=s.cb->plc M (-s.cur)∈s.ks->(∃v,Z.getD (C1 s) (.inl (plc M s.cur:Int))=some v/\B0 (.int s.cur) v=some (.bl false))->t.way=s.way->(∀w y,s.way=w++[y]->y≠s.cur)->(¬ Fin t->t.cur=nx M s.cur)->Go M s t
def LY(B:Mp M)(h:Wi M s)(R:¬ Fin s):s.cur∈M.flatten/\s.cur∉s.th.map (·.2)/\Go M s (stp M s):=by
 have h':=Gz B h;obtain⟨st,cl,cb,th⟩:=s;cases st with
 |nil=>exact h.ch.elim
 |cons f fs=>
  have H:=h.ok f (ai ..);have t:f.c.Nodup:=H.pm.nodup_iff.mpr (B.hn.sublist (bh (mGq (qe H.lt))));have u:f.a=[]/\f.p=0/\fs=[]∨∃x,f.a=[x]/\(f.p,x)∈cb:=by
   cases fs with
   |nil=>exact .inl ⟨h.ch.1,h.ch.2,rfl⟩
   |cons g E=>
    obtain⟨⟨x,d,n,_⟩,_⟩:=h.ch;exact .inr ⟨x,n,h.cv f (ai ..) x n⟩
  cases q:f.r with
  |cons e r=>
   have l:(⟨f::fs,cl,cb,th⟩:Sw).cur=e:=by show(f.r++f.a).headD 0=e;rw[q];rfl
   have S:e∈f.c:=by unfold Fm.c;rw[q];simp
   obtain⟨P,U⟩:=H.mem B S;have X:=h.ahead (ai ..) (y:=e) (by rw[q];simp) B.hn
   have Y:=H.tell q;have val:∃v,Z.getD (C1 ⟨f::fs,cl,cb,th⟩) (.inl (plc M e:Int))=some v/\B0 (.int e) v=some (.bl false):=by
    rw[U];rcases u with⟨_,z,_⟩|⟨x,n,hx⟩
    .rw[z];exact⟨.non,rfl,rfl⟩
    .refine⟨.int x,C4 h.kn hx,?_⟩;have:e≠x:=λw=>by
      unfold Fm.c at t;rw[n,q]at t;exact(ar.mp t).1 (by rw[←w];simp)
     rw[GF,d4 this]
   have Q:∀w y,(⟨f::fs,cl,cb,th⟩:Sw).way=w++[y]->y≠e:=λw y I z=>by
    have e2:(⟨f::fs,cl,cb,th⟩:Sw).way=(fs.flatMap (·.a)).reverse++f.a.reverse:=by
     show(f.a++fs.flatMap (·.a)).reverse=_;rw[eZ]
    rw[e2]at I;rcases u with⟨z1,_,z2⟩|⟨x,n,_⟩
    .rw[z1,z2]at I;have:=congrArg bV I;simp at this
    .rw[n]at I;have:=(iD I rfl).2;have:x=y:=by simpa using this
     unfold Fm.c at t;rw[n,q]at t;exact(ar.mp t).1 (by rw[this,z];simp)
   rw[l];refine⟨P,X,?_⟩
   by_cases c:plc M (-e)∈(⟨f::fs,cl,cb,th⟩:Sw).ks
   .have J:stp M ⟨f::fs,cl,cb,th⟩=⟨f.tell e r::fs,cl,cb,th++[("side", e)]⟩:=by
     unfold stp;simp only[q];rw[pH c]
    rw[J];refine .side (by rw[l]) rfl (by rw[l];exact c) (by rw[l];exact val) rfl (by rw[l];exact Q) λG=>?_
    rw[l];refine(Y.nxt (L:=f.a++f.d) (y:=e) (by show f.a++(f.d++[e])=_;rw[aa]) λz=>G ?_).symm
    have z2:=dr.mp z;rcases u with⟨_,_,O⟩|⟨x,n,_⟩
    .exact⟨f.tell e r,by rw[O],z2.1⟩
    .have O:f.a=[]:=z2.2;rw[n]at O;cases O
   .have J:stp M ⟨f::fs,cl,cb,th⟩=⟨⟨plc M (-e),[-e],[],frm M (-e)⟩::f.tell e r::fs,cl,cb++[(plc M (-e), -e)],th++[("down", e)]⟩:=by
     unfold stp;simp only[q];rw[pE c]
    rw[J];refine .down (by rw[l]) (by rw[l]) (by rw[l];exact c) (by rw[l];exact val) ?_ (by rw[l];exact Q) ?_
    .rw[l];show([-e]++(f.a++fs.flatMap (·.a))).reverse=(f.a++fs.flatMap (·.a)).reverse++[-e];rw[eZ];rfl
    .rw[l];exact((Kb B (B.hneg e P)).nxt (L:=[]) (y:=-e) rfl (by simp)).symm
  |nil=>
   cases fs with
   |nil=>exact absurd ⟨f,rfl,q⟩ R
   |cons g E=>
    obtain⟨⟨x,d,n,ed⟩,ch⟩:=h.ch;have l:(⟨f::g::E,cl,cb,th⟩:Sw).cur=x:=by show(f.r++f.a).headD 0=x;rw[q,n];rfl
    have cx:x∈f.c:=by unfold Fm.c;rw[n];simp
    obtain⟨xM,px⟩:=H.mem B cx;have xt:=h.ahead (ai ..) (y:=x) (by rw[n];simp) B.hn
    have J:stp M ⟨f::g::E,cl,cb,th⟩=⟨g::E,f.p::cl,cb,th++[("up", x)]⟩:=by
     unfold stp;simp only[q,n]
    rw[l,J];refine⟨xM,xt,.up (by rw[l]) rfl ?_ ?_ λG=>?_⟩
    .rw[l,px];exact C4 h.kn (h.cv f (ai ..) x n)
    .rw[l];show(f.a++(g::E).flatMap (·.a)).reverse=((g::E).flatMap (·.a)).reverse++[x];rw[n,eZ];rfl
    .rw[l];refine((h.ok g (by simp)).nxt (L:=g.a++d) (y:=-x) (by rw[ed,aa]) λz=>G ?_).symm
     have z2:=dr.mp z;cases E with
     |nil=>exact⟨g,rfl,z2.1⟩
     |cons k ks=>
      obtain⟨⟨y,_,ey,_⟩,_⟩:=ch;exact absurd z2.2 (by rw[ey];simp)
theorem wW(l:Mp M)(t:0<M.length)(one:∀k,k<M.length->ud M 0 k):∀n,n<=M.flatten.length->(run M n).th.length=n
 |0,_=>rfl
 |n+1,h=>by
  have z:=wW l t one n (by lia)
  have w:=sP l t n;have u:¬ Fin (run M n):=λf=>by
   have:=(w.whole l f one).1;lia
  have e:(run M (n+1)).th.length=(run M n).th.length+1:=by
   rcases(LY l w u).2.2 with⟨a,_⟩|⟨a,_⟩|⟨a,_⟩
   all_goals
    show(stp M (run M n)).th.length=_;rw[a,lAq];rfl
  lia
def yW(l:Mp M)(t:0<M.length)(one:∀k,k<M.length->ud M 0 k){n:Nat}(h:n<M.flatten.length):(run M n).cur∈M.flatten/\(run M n).cur∉(run M n).th.map (·.2)/\Go M (run M n) (run M (n+1))/\¬ Fin (run M n):=by
 have w:=sP l t n;have u:¬ Fin (run M n):=λf=>by
  have:=(w.whole l f one).1;have:=wW l t one n (by lia)
  lia
 obtain⟨a,b,c⟩:=LY l w u;exact⟨a,b,c,u⟩
def ui(l:Mp M)(n:0<M.length)(one:∀k,k<M.length->ud M 0 k):Fin (run M M.flatten.length):=iA λt=>by
 have:=(sP l n M.flatten.length).less t;have:=wW l n one M.flatten.length (af _);lia
def Rz(M:Λ)(s:Sw)(e:Int)(v6:Option AV):AS:=[some (.sh (dM M)),some (.owd (qj 0 M)),some (.owd (K51.vm (K51.pU M))),some (.owd (C1 s)),some (.ow (s.th.map AY)),i3 e,v6]
def muw(N:Nat):AS->Nat
 | [_,_,_,_,some (.ow l),_,_]=>N-l.length
 |_=>0
def Vn{p:Nat}(h:p∉s.ks)(v:Int):xn (C1 s) (.inl (p:Int)) (.int v)=C1 ⟨s.st,s.cl,s.cb++[(p,v)],s.th⟩:=by
 unfold xn;have:(C1 s).any (λkv=>decide (kv.1=(aA (p:Int):pI)))=false:=by
  rw[Bool.eq_false_iff];intro q;refine h (decide_eq_true_iff.mp ?_);rw[←K6 s p];unfold Z.getD;rw[cU,fv];obtain⟨x,l,n⟩:=fF.mp q;exact⟨x,l,n⟩
 rw[this,pE (by simp)]
 unfold C1;rw[mBq];rfl
def Vi(u:Mp M){t:Sw}(B:s.cur∈M.flatten)(g:Go M s t)(hl:s.th.length<=1000)(hk:s.cb.length<=1000){v6:Option AV}:∃e G,K51.vM (Rz M s s.cur v6)=some (.nx (Rz M t e G))/\(¬ Fin t->e=t.cur):=by
 have H:Z.getD (qj 0 M) (.inl s.cur)=some (.int (plc M s.cur:Int)):=(CP u).kv B;have I:Z.getD (qj 0 M) (.inl (-s.cur))=some (.int (plc M (-s.cur):Int)):=(CP u).kv (u.hneg _ B);have S:=yg u.hn B;have Q:=yg u.hn (u.hneg _ B);have hs:=K6 s (plc M (-s.cur));have J:(s.th.map AY).length<qF:=by rw[lMq];show _<16777216;lia
 have n:s.th.length<qF:=by show _<16777216;lia
 have R:(C1 s).length<qF:=by
  show(s.cb.map _).length+1<16777216;rw[lMq];lia
 have l:∀w:String,s.th.map AY++[.sh (.tup [.str w,.int s.cur])]=(s.th++[(w,s.cur)]).map AY:=λw=>by rw[mBq];rfl
 rcases g with⟨a,b,c,_,d⟩|⟨a,b,c,⟨v,L,O⟩,_,_,d⟩|⟨a,b,c,⟨v,L,O⟩,_,_,d⟩
 .refine⟨nx M (-s.cur),i3 (plc M (-s.cur):Int),?_,λE=>(d E).symm⟩
  have z:C1 t=C1 s:=by unfold C1;rw[b]
  have U:decide (s.cur=s.cur)=true:=d0 rfl;have l:=l "up";unfold Rz;rw[z,a]
  simp_arith [K51.vM,H,I,c,U,J,n,l,Q]
 .refine⟨nx M (-s.cur),i3 (plc M (-s.cur):Int),?_,λE=>d.symm⟩
  rw[d4 c]at hs;have z:=Vn c (-s.cur);have P:C1 t=C1 ⟨s.st,s.cl,s.cb++[(plc M (-s.cur), -s.cur)],s.th⟩:=by unfold C1;rw[b]
  have l:=l "down";unfold Rz;rw[P,a,←z]
  simp_arith [K51.vM,H,I,L,O,hs,J,n,R,l,Q]
 .refine⟨nx M s.cur,i3 (plc M (-s.cur):Int),?_,λE=>(d E).symm⟩
  rw[d0 c]at hs;have z:C1 t=C1 s:=by unfold C1;rw[b]
  have l:=l "side";unfold Rz;rw[z,a]
  simp_arith [K51.vM,H,I,L,O,hs,J,n,R,l,S]
def Yn(n:Mp M)(h:Wi M s):s.cb.length<=M.length:=by
 have:=K51.WZ M.length s.ks h.kn λk hk=>by
  rcases mAq.mp ((h.ck k).mp hk)with z|z
  .obtain⟨g,l,rfl⟩:=mMq.mp z;exact(h.ok g l).lt
  .exact h.lc k z
 unfold Sw.ks at this;rw[lCq,lMq]at this;lia
end
end K52
namespace K54
open PySem L2 Mr Z Xe Zl
open K18 (pp cp PC tK vB pM Ln nL qV)
open K43 (CP qe rA)
open K51 (ud)
open K52 (Fm Sw Wi Os run stp Fin frm Kb AO Yp sP yW ui wW)
def qP(s:Sw):Ϝ:=(s.th.filter λx=>decide (x.1 = "side")).map (·.2)
def big(s:Sw):Ϝ:=qP s++s.st.flatMap (·.r)
def WS(M:Λ)(s:Sw):Λ:=((az M.length).filter λk=>decide (k∉s.ks)).map λk=>M.getD k []
def Cw(M:Λ)(s:Sw):Λ:=big s::WS M s
section
variable {M:Λ}{s:Sw}
def vI(th:List (String×Int))(w:String)(e:Int):((th++[(w,e)]).filter λx=>decide (x.1 = "side")).map (·.2)=(th.filter λx=>decide (x.1 = "side")).map (·.2)++(if w = "side" then [e]else []):=by
 rw[fT,mBq];congr 1
 by_cases h:w = "side"
 .rw[pH h,cS (by simpa using h)]
  rfl
 .rw[pE h,cT (by simpa using h)]
  rfl
def Vm{r:Ϝ}{x:Int}(h:x∈r):∃X Y,r=X++x::Y/\r.drop (r.idxOf x+1)++r.take (r.idxOf x)=Y++X:=by
 have lt:=bz h;refine⟨r.take (r.idxOf x),r.drop (r.idxOf x+1),?_,rfl⟩;have e:r[r.idxOf x]=x:=bQ lt
 conv=>lhs;rw[←aS (r.idxOf x) r,aC lt,e]
def Vc(u:Mp M)(h:Wi M s)(J:¬ Fin s):Cw M (stp M s)=Cw M s∨∃(A B F:Ϝ) (e:Int) (R:Λ),big s=A++e::B/\big (stp M s)=A++F++B/\WS M (stp M s)=R/\(∃t,(WS M s).Perm (t::R)/\t≠[]/\∀q,(cp t).count q=(cp (-e::F)).count q):=by
 obtain⟨st,cl,cb,th⟩:=s;cases st with
 |nil=>exact h.ch.elim
 |cons f fs=>
  have L:=h.ok f (ai ..);cases q:f.r with
  |cons e r=>
   have O:e∈f.c:=by unfold Fm.c;rw[q];simp
   obtain⟨P,pe⟩:=L.mem u O
   by_cases c:plc M (-e)∈(⟨f::fs,cl,cb,th⟩:Sw).ks
   .left;have l:stp M ⟨f::fs,cl,cb,th⟩=⟨f.tell e r::fs,cl,cb,th++[("side", e)]⟩:=by
     unfold K52.stp;simp only[q];rw[pH c]
    rw[l];unfold Cw;have E:big ⟨f.tell e r::fs,cl,cb,th++[("side", e)]⟩=big ⟨f::fs,cl,cb,th⟩:=by
     unfold big qP;show((th++[("side", e)]).filter _).map _++(r++fs.flatMap (·.r))=(th.filter _).map _++(f.r++fs.flatMap (·.r));rw[vI,pH rfl,q];simp
    rw[E];rfl
   .right;have l:stp M ⟨f::fs,cl,cb,th⟩=⟨⟨plc M (-e),[-e],[],frm M (-e)⟩::f.tell e r::fs,cl,cb++[(plc M (-e), -e)],th++[("down", e)]⟩:=by
     unfold K52.stp;simp only[q];rw[pE c]
    obtain⟨tl,G⟩:=AO u (u.hneg e P);have Q:(⟨⟨plc M (-e),[-e],[],frm M (-e)⟩::f.tell e r::fs,cl,cb++[(plc M (-e), -e)],th++[("down", e)]⟩:Sw).ks=(⟨f::fs,cl,cb,th⟩:Sw).ks++[plc M (-e)]:=by
     unfold K52.Sw.ks;rw[mBq];rfl
    refine⟨(th.filter λx=>decide (x.1 = "side")).map (·.2),r++fs.flatMap (·.r),frm M (-e),e,_,?_,?_,rfl,M.getD (plc M (-e)) [],?_,λz=>(by rw[z]at G;cases G),?_⟩
    .show(th.filter _).map _++(f.r++fs.flatMap (·.r))=_;rw[q];rfl
    .rw[l];show((th++[("down", e)]).filter _).map _++(frm M (-e)++(r++fs.flatMap (·.r)))=_;rw[vI,pE (by decide),aNq,aa]
    .rw[l];unfold WS;rw[Q];refine aL.map (λk=>M.getD k []) (l₂:=plc M (-e)::_) ((aX (dz.filter _) (ar.mpr ⟨λz=>?_,dz.filter _⟩)).mpr λk=>?_)
     .have:=(aU.mp z).2;simp at this
     .rw[ae,aU,aU,bD,decide_eq_true_iff,decide_eq_true_iff,mAq,mSq];constructor
      .rintro⟨H,I⟩
       by_cases z:k=plc M (-e)
       .exact .inl z
       .exact .inr ⟨H,λw=>w.elim I z⟩
      .rintro(z|⟨H,I⟩)
       .rw[z];exact⟨tl,c⟩
       .exact⟨H,λw=>I (.inl w)⟩
    .intro p;obtain⟨X,Y,S,U⟩:=Vm G;rw[S];unfold K52.frm;rw[U];exact tK X (-e::Y) p
  |nil=>
   cases fs with
   |nil=>exact absurd ⟨f,rfl,q⟩ J
   |cons g n=>
    left;obtain⟨⟨x,d,ea,ed⟩,ch⟩:=h.ch;have l:stp M ⟨f::g::n,cl,cb,th⟩=⟨g::n,f.p::cl,cb,th++[("up", x)]⟩:=by
     unfold K52.stp;simp only[q,ea]
    rw[l];unfold Cw;have E:big ⟨g::n,f.p::cl,cb,th++[("up", x)]⟩=big ⟨f::g::n,cl,cb,th⟩:=by
     unfold big qP;show((th++[("up", x)]).filter _).map _++(g::n).flatMap (·.r)=(th.filter _).map _++(f.r++(g::n).flatMap (·.r));rw[vI,pE (by decide),aNq,q]
     rfl
    rw[E];rfl
def Y6{A B F:Ϝ}{e:Int}{R n:Λ}(hn:((A++F++B)::R).flatten.Nodup)(H:Ln ((A++F++B)::R) n):∃l,Ln ((A++e::B)::(-e::F)::R) l/\nL ((A++e::B)::(-e::F)::R) l=nL ((A++F++B)::R) n:=by
 have I:∀q,(PC (((B++A)++F)::R)).count q=(PC ((A++F++B)::R)).count q:=λq=>by
  rw[pM,pM,aa B A F,tK B (A++F)]
 have t:Ln (((B++A)++F)::R) n:=H.congr λq=>I q
 have u:(((B++A)++F)::R).flatten.Nodup:=by
  rw[fCq]at hn ⊢;refine(aL.nodup_iff (aL.append_right _ ?_)).mpr hn;rw[aa];exact aT
 obtain⟨l,J,G⟩:=Ln.newp t u (i:=0) (r:=B++A) (L:=F) rfl e;have O:∀q,(PC ((A++e::B)::(-e::F)::R)).count q=(PC ((((B++A)++F)::R).set 0 ((B++A)++[e])++[-e::F])).count q:=λq=>by
  show _=(PC ((((B++A)++[e])::R)++[-e::F])).count q;have pm:((((B++A)++[e])::R)++[-e::F]).Perm (((B++A)++[e])::(-e::F)::R):=aL.cons _ aT;rw[vB pm,pM,pM,pM,pM,aa B A [e],tK B (A++[e])];have:A++[e]++B=A++e::B:=by simp
  rw[this]
 refine⟨l,J.congr λq=>O q,?_⟩
 unfold K18.nL at G ⊢;have P:((A++e::B)::(-e::F)::R).count []=R.count []:=by
  rw[qV,qV,pE (by simp),pE (by simp)]
  lia
 have Q:((((B++A)++F)::R).set 0 ((B++A)++[e])++[-e::F]).count []=R.count []:=by
  show((((B++A)++[e])::R)++[-e::F]).count []=_;rw[cAq,qV,qV,pE (by simp),pE (by simp)]
  simp
 have S:(((B++A)++F)::R).count []=((A++F++B)::R).count []:=by
  rw[qV,qV];congr 1;refine ite_congr (propext ?_) (λ_=>rfl) λ_=>rfl
  simp only[dr];constructor
  .rintro⟨⟨x,z⟩,E⟩;exact⟨⟨z,E⟩,x⟩
  .rintro⟨⟨x,z⟩,E⟩;exact⟨⟨E,x⟩,z⟩
 rw[P,←Q,G,S]
def ZT(t:Mp M)(h:Wi M s):(Cw M s).flatten.Nodup:=by
 obtain⟨F,sub,pm⟩:=h.full;have nd:=pm.nodup_iff.mpr (t.hn.sublist sub);have sb:(big s).Sublist (s.th.map (·.2)++s.st.flatMap λf=>f.a++f.r):=by
  unfold big qP;refine cD.append (dP.map _) ?_;generalize s.st=st
  induction st with
  |nil=>exact .refl _
  |cons f fs J=>exact cD.append (iz _ _) J
 have sf:(WS M s).flatten.Sublist M.flatten:=by
  have:=K17.DY ((dP (p:=λk=>decide (k∉s.ks)) (l:=az M.length)).map λk=>M.getD k [])
  rwa [rA]at this
 have E:∀x∈big s,plc M x∈s.ks:=λx u=>by
  have u:=sb.subset u;rw[h.ck];rcases mAq.mp u with z|z
  .rcases mAq.mp (h.tl.mem_iff.mp z)with z|z
   .obtain⟨f,B,n⟩:=bp.mp z;rw[((h.ok f B).mem t (by unfold Fm.c;exact ak _ (aj _ n))).2]
    exact ak _ (mMq.mpr ⟨f,B,rfl⟩)
   .obtain⟨p,I,G⟩:=bp.mp z;rw[plc_eq t.hn (qe (h.lc p I)) G];exact aj _ I
  .obtain⟨f,B,n⟩:=bp.mp z;have:x∈f.c:=by
    unfold Fm.c;rcases mAq.mp n with w|w
    .exact ak _ (ak _ w)
    .exact aj _ w
   rw[((h.ok f B).mem t this).2];exact ak _ (mMq.mpr ⟨f,B,rfl⟩)
 unfold Cw;rw[fCq];refine nAq.mpr ⟨nd.sublist sb,t.hn.sublist sf,λx u y L e=>?_⟩
 subst e;obtain⟨r,hr,H⟩:=mFq.mp L;obtain⟨k,hk,rfl⟩:=mMq.mp hr;obtain⟨O,P⟩:=aU.mp hk;have:plc M x=k:=plc_eq t.hn (qe (bD.mp O)) H;exact of_decide_eq_true P (this ▸ E x u)
def YH(u:Mp M)(h:Wi M s)(E:¬ Fin s){x:Λ}(n:Ln (Cw M (stp M s)) x):∃l,Ln (Cw M s) l/\nL (Cw M s) l=nL (Cw M (stp M s)) x:=by
 rcases Vc u h E with z|⟨A,B,F,e,R,b1,b2,G,t,pt,H,ct⟩
 .rw[z]at n ⊢;exact⟨x,n,rfl⟩
 .have I:Cw M (stp M s)=(A++F++B)::R:=by unfold Cw;rw[b2,G]
  have nd:=ZT u (K52.Gz u h);rw[I]at n nd ⊢;obtain⟨l,J,L⟩:=Y6 (e:=e) nd n;have pm:(Cw M s).Perm ((A++e::B)::t::R):=by unfold Cw;rw[b1];exact aL.cons _ pt
  refine⟨l,J.congr λq=>?_,?_⟩
  .rw[vB pm,pM,pM,pM,pM,ct q]
  .rw[←L];unfold K18.nL;rw[pm.count_eq,qV,qV,qV,qV,pE (show ¬ A++e::B=[] by simp),pE H,pE (show ¬ (-e::F)=[] by simp)]
theorem Rm(u:Mp M)(x:0<M.length)(one:∀k,k<M.length->ud M 0 k):∀n,n<=M.flatten.length->∀{l:Λ},Ln (Cw M (run M n)) l->∃t,Ln (Cw M (run M 0)) t/\nL (Cw M (run M 0)) t=nL (Cw M (run M n)) l
 |0,_,l,z=>⟨l,z,rfl⟩
 |n+1,hn,l,z=>by
  obtain⟨_,_,_,B⟩:=yW u x one (show n<M.flatten.length by lia)
  obtain⟨J,E,G⟩:=YH u (sP u x n) B z;obtain⟨L2,H,I⟩:=Rm u x one n (by lia) E
  exact⟨L2,H,I.trans G⟩
def Sl(l:Mp M)(n:0<M.length)(one:∀k,k<M.length->ud M 0 k){B:Λ}(E:Ln [qP (run M M.flatten.length)] B):∃t,Ln M t/\nL M t=nL [qP (run M M.flatten.length)] B:=by
 have w:=sP l n M.flatten.length;have G:Cw M (run M M.flatten.length)=[qP (run M M.flatten.length)]:=by
  obtain⟨f,e,u⟩:=ui l n one;have S:=(w.whole l (ui l n one) one).2.1;unfold Cw;have x:big (run M M.flatten.length)=qP (run M M.flatten.length):=by
   unfold big;rw[e];show _++(f.r++[])=_;rw[u];simp
  have H:WS M (run M M.flatten.length)=[]:=by
   unfold WS;rw[List.map_eq_nil_iff,List.filter_eq_nil_iff];intro k hk;intro z;have z:=of_decide_eq_true z;have:=K51.WZ M.length (k::(run M M.flatten.length).ks) (ar.mpr ⟨z,w.kn⟩) λp I=>by
    rcases ae.mp I with q|q
    .rw[q];exact bD.mp hk
    .rcases mAq.mp ((w.ck p).mp q)with q|q
     .obtain⟨g,J,rfl⟩:=mMq.mp q;exact(w.ok g J).lt
     .exact w.lc p q
   rw[lCq]at this;lia
  rw[x,H]
 rw[←G]at E;obtain⟨L,O,x⟩:=Rm l n one M.flatten.length (af _) E;have pm:(Cw M (run M 0)).Perm M:=by
  have u:=rA M;have P:(0::(az M.length).filter λk=>decide (k∉(run M 0).ks)).Perm (az M.length):=by
   refine(aX (ar.mpr ⟨λz=>?_,dz.filter _⟩) dz).mpr λk=>?_
   .have:=of_decide_eq_true (aU.mp z).2;exact this (ai ..)
   .rw[ae,aU,bD,decide_eq_true_iff];have Q:k∈(run M 0).ks↔k=0:=mSq;constructor
    .rintro(z|z)
     .rw[z];exact n
     .exact z.1
    .intro z
     by_cases c:k=0
     .exact .inl c
     .exact .inr ⟨z,λq=>c (Q.mp q)⟩
  have:=P.map λk=>M.getD k []
  rw[u]at this;have R:big (run M 0)=M.getD 0 []:=by
   show[]++(M.getD 0 []++[])=_;simp
  unfold Cw;rw[R];exact this
 refine⟨L,O.congr λq=>(vB pm q).symm,?_⟩
 rw[←G,←x];unfold K18.nL;rw[pm.count_eq]
end
end K54
namespace K47
open PySem L2 Mr Z Xe Zl
open K18 (PC AF pM vB cp Ln nL qV)
open K43 (CP ZC)
open K17 (cls Bp)
open K51 (ud Ps Pc)
def pn(M:Λ):Nat:=@dite _ (∃kn PS,Ps M M.length kn PS) (fh _) (λh=>(Classical.choose (Classical.choose_spec h)).length) λ_=>0
section
variable {M N X Y:Λ}{z:Int}
def UT(l:Mp M)(h:M.Perm N):Mp N:=⟨(qz h).nodup_iff.mp l.hn,by rw[← (qz h).length_eq];exact l.hl,by rw[←h.length_eq];exact l.hr,λe n=>(qz h).mem_iff.mp (l.hneg e ((qz h).mem_iff.mpr n))⟩
end
end K47
namespace K47
open PySem L2 Mr Z Xe Zl
open K18 (PC AF pM vB cp Ln nL qV zC)
open K43 (CP ZC)
open K51 (ud Ps Pc)
structure Mv (M:Λ):Prop where
 mp:Mp M
 nz:∀e∈M.flatten,e≠0
 lv:M.length<=450
 le:M.flatten.length<=450
def Bl(M:Λ):Prop:=∃l,Ln M l/\4*pn M+M.flatten.length=2*M.length+2*nL M l
section
variable {M N:Λ}{z:Int}
def kp(S:Int->Bool)(M:Λ):Λ:=M.map λr=>r.filter S
end
end K47
namespace K54
open PySem L2 Mr Z Xe Zl
open K18 (Ln nL zC)
open K43 (CP qe)
open K47 (pn Bl Mv)
open K51 (ud)
open K52 (Fm Sw Wi run stp Fin frm sP yW ui wW)
section
variable {M:Λ}{s:Sw}
def PN(h:Wi M s)(t:¬ Fin s):(qP (stp M s)).length+(stp M s).cb.length+(stp M s).cl.length=(qP s).length+s.cb.length+s.cl.length+1:=by
 obtain⟨st,cl,cb,th⟩:=s;cases st with
 |nil=>exact h.ch.elim
 |cons f fs=>
  cases q:f.r with
  |cons e r=>
   by_cases c:plc M (-e)∈(⟨f::fs,cl,cb,th⟩:Sw).ks
   .have l:stp M ⟨f::fs,cl,cb,th⟩=⟨f.tell e r::fs,cl,cb,th++[("side", e)]⟩:=by
     unfold K52.stp;simp only[q];rw[pH c]
    rw[l];unfold qP;rw[vI,pH rfl,lAq,lSq];dsimp only;lia
   .have l:stp M ⟨f::fs,cl,cb,th⟩=⟨⟨plc M (-e),[-e],[],frm M (-e)⟩::f.tell e r::fs,cl,cb++[(plc M (-e), -e)],th++[("down", e)]⟩:=by
     unfold K52.stp;simp only[q];rw[pE c]
    rw[l];unfold qP;rw[vI,pE (by decide),aNq]
    dsimp only;rw[lAq,lSq];lia
  |nil=>
   cases fs with
   |nil=>exact absurd ⟨f,rfl,q⟩ t
   |cons g n=>
    obtain⟨⟨x,d,u,z⟩,ch⟩:=h.ch;have l:stp M ⟨f::g::n,cl,cb,th⟩=⟨g::n,f.p::cl,cb,th++[("up", x)]⟩:=by
     unfold K52.stp;simp only[q,u]
    rw[l];unfold qP;rw[vI,pE (by decide),aNq]
    dsimp only;rw[lCq];lia
theorem LU(l:Mp M)(t:0<M.length)(one:∀k,k<M.length->ud M 0 k):∀n,n<=M.flatten.length->(qP (run M n)).length+(run M n).cb.length+(run M n).cl.length=n
 |0,_=>rfl
 |n+1,hn=>by
  have u:=LU l t one n (by lia)
  have:=PN (sP l t n) (yW l t one (show n<M.flatten.length by lia)).2.2.2
  show(qP (stp M (run M n))).length+(stp M (run M n)).cb.length+(stp M (run M n)).cl.length=_;lia
def M1(l:Mp M)(n:0<M.length)(one:∀k,k<M.length->ud M 0 k):(qP (run M M.flatten.length)).length+2*M.length=M.flatten.length+2:=by
 have a:=LU l n one M.flatten.length (af _);have w:=sP l n M.flatten.length;obtain⟨f,e,_⟩:=ui l n one;have x:=(w.whole l (ui l n one) one).2.1;have z:(run M M.flatten.length).ks.length=(run M M.flatten.length).cb.length+1:=by unfold K52.Sw.ks;rw[lCq,lMq]
 have t:((run M M.flatten.length).st.map (·.p)++(run M M.flatten.length).cl).Perm (run M M.flatten.length).ks:=(aX w.nd w.kn).mpr λk=>(w.ck k).symm
 have u:=t.length_eq;rw[lAq,e]at u;have B:([f].map (·.p)).length=1:=rfl;lia
end
end K54
namespace K54
open PySem L2 Mr Z Xe Zl
open K43 (CP qe)
open K51 (ud)
open K52 (Fm Sw Wi run stp Fin Go C1 C4 sP yW ui wW)
section
variable {M:Λ}{s t:Sw}
def U6(u:Mp M)(h:Wi M s){x:Int}(G:x∈s.th.map (·.2)):plc M x∈s.ks:=by
 rw[h.ck];rcases mAq.mp (h.tl.mem_iff.mp G)with z|z
 .obtain⟨f,B,l⟩:=bp.mp z;rw[((h.ok f B).mem u (by unfold Fm.c;exact ak _ (aj _ l))).2]
  exact ak _ (mMq.mpr ⟨f,B,rfl⟩)
 .obtain⟨p,E,n⟩:=bp.mp z;rw[plc_eq u.hn (qe (h.lc p E)) n];exact aj _ E
def T7{p:Nat}{v:Int}(h:Z.getD (C1 s) (.inl (p:Int))=some (.int v)):v∈s.cb.map (·.2):=by
 unfold Z.getD at h;obtain⟨q,n,l⟩:=oMq.mp h;have:=List.mem_of_find?_eq_some n;rcases ae.mp this with z|z
 .rw[z]at l;cases l
 .obtain⟨c,u,rfl⟩:=mMq.mp z;have:D.int c.2=D.int v:=l;cases this;exact mMq.mpr ⟨c,u,rfl⟩
structure Si (M:Λ)(s:Sw):Prop where
 dn:∀e,("down", e)∈s.th->-e∈s.cb.map (·.2)
 up:∀e,("up", e)∈s.th->e∈s.cb.map (·.2)
 sd:∀e,("side", e)∈s.th->e∉s.cb.map (·.2)/\-e∉s.cb.map (·.2)
 vt:∀v∈s.cb.map (·.2),("down", -v)∈s.th
 pl:∀c∈s.cb,plc M c.2=c.1
 wd:∀x∈s.th,x.1 = "down" ∨ x.1 = "up" ∨ x.1 = "side"
def Si.step(L:Mp M)(w:Wi M s)(h:Si M s)(hn:s.cur∉s.th.map (·.2))(g:Go M s t):Si M t:=by
 have n:∀{w:String}{e:Int},(w,e)∈s.th->e∈s.th.map (·.2):=λh=>mMq.mpr ⟨_,h,rfl⟩
 have last:∀{a b:String}{e f:Int},(a,e)∈s.th++[(b,f)]->(a,e)∈s.th∨(a=b/\e=f):=λh=>by
  rcases mAq.mp h with z|z
  .exact .inl z
  .have:=mSq.mp z;exact .inr ⟨congrArg jP this,congrArg Prod.snd this⟩
 rcases g with⟨a,b,c,_,_⟩|⟨a,b,c,_,_,_,_⟩|⟨a,b,c,⟨v,G,H⟩,_,_,_⟩
 .refine⟨λe l=>?_,λe l=>?_,λe l=>?_,λv B=>?_,by rw[b];exact h.pl,λx u=>?_⟩
  .rw[a]at l;rw[b];rcases last l with z|⟨z,_⟩
   .exact h.dn e z
   .exact absurd z (by decide)
  .rw[a]at l;rw[b];rcases last l with z|⟨_,z⟩
   .exact h.up e z
   .rw[z];exact T7 c
  .rw[a]at l;rw[b];rcases last l with z|⟨z,_⟩
   .exact h.sd e z
   .exact absurd z (by decide)
  .rw[b]at B;rw[a];exact ak _ (h.vt v B)
  .rw[a]at u;rcases mAq.mp u with z|z
   .exact h.wd x z
   .rw[mSq.mp z];exact .inr (.inl rfl)
 .have cv:t.cb.map (·.2)=s.cb.map (·.2)++[-s.cur]:=by rw[b,mBq];rfl
  refine⟨λe l=>?_,λe l=>?_,λe l=>?_,λv B=>?_,λx u=>?_,λx u=>?_⟩
  .rw[a]at l;rw[cv];rcases last l with z|⟨_,z⟩
   .exact ak _ (h.dn e z)
   .rw[z];exact aj _ (mSq.mpr rfl)
  .rw[a]at l;rw[cv];rcases last l with z|⟨z,_⟩
   .exact ak _ (h.up e z)
   .exact absurd z (by decide)
  .rw[a]at l;rw[cv];rcases last l with z|⟨z,_⟩
   .obtain⟨O,P⟩:=h.sd e z;have Q:e ≠ -s.cur:=λq=>c (by rw[←q];exact U6 L w (n z))
    have R:-e ≠ -s.cur:=λq=>hn (by
     have:s.cur=e:=by lia
     rw[this];exact n z)
    refine⟨λq=>?_,λq=>?_⟩
    .rcases mAq.mp q with q|q
     .exact O q
     .exact Q (mSq.mp q)
    .rcases mAq.mp q with q|q
     .exact P q
     .exact R (mSq.mp q)
   .exact absurd z (by decide)
  .rw[cv]at B;rw[a];rcases mAq.mp B with z|z
   .exact ak _ (h.vt v z)
   .rw[mSq.mp z,aM];exact aj _ (mSq.mpr rfl)
  .rw[b]at u;rcases mAq.mp u with z|z
   .exact h.pl x z
   .rw[mSq.mp z]
  .rw[a]at u;rcases mAq.mp u with z|z
   .exact h.wd x z
   .rw[mSq.mp z];exact .inl rfl
 .refine⟨λe l=>?_,λe l=>?_,λe l=>?_,λv B=>?_,by rw[b];exact h.pl,λx u=>?_⟩
  .rw[a]at l;rw[b];rcases last l with z|⟨z,_⟩
   .exact h.dn e z
   .exact absurd z (by decide)
  .rw[a]at l;rw[b];rcases last l with z|⟨z,_⟩
   .exact h.up e z
   .exact absurd z (by decide)
  .rw[a]at l;rw[b];rcases last l with z|⟨_,z⟩
   .exact h.sd e z
   .rw[z];refine⟨λq=>?_,λq=>?_⟩
    .obtain⟨p,I,J⟩:=mMq.mp q;have pp:=h.pl p I;rw[J]at pp;have E:(p.1,s.cur)∈s.cb:=by rw[←J];exact I
     have S:=C4 w.kn E;rw[pp,S]at G;cases G;rw[GF,d0 rfl]at H;cases H
    .have:=h.vt _ q;rw[aM]at this;exact hn (n this)
  .rw[b]at B;rw[a];exact ak _ (h.vt v B)
  .rw[a]at u;rcases mAq.mp u with z|z
   .exact h.wd x z
   .rw[mSq.mp z];exact .inr (.inr rfl)
theorem JS(l:Mp M)(u:0<M.length)(one:∀k,k<M.length->ud M 0 k):∀n,n<=M.flatten.length->Si M (run M n)
 |0,_=>⟨λe h=>(by cases h),λe h=>(by cases h),λe h=>(by cases h),λv h=>(by cases h),λc h=>(by cases h),λx h=>(by cases h)⟩
 |n+1,hn=>by
  obtain⟨_,b,c,_⟩:=yW l u one (show n<M.flatten.length by lia)
  exact(JS l u one n (by lia)).step l (sP l u n) b c
def Qx(n:Mp M)(H:0<M.length)(one:∀k,k<M.length->ud M 0 k):Mp [qP (run M M.flatten.length)]:=by
 have w:=sP n H M.flatten.length;have B:=JS n H one M.flatten.length (af _);obtain⟨_,_,E⟩:=w.whole n (ui n H one) one;have I:[qP (run M M.flatten.length)].flatten=qP (run M M.flatten.length):=by simp
 have sb:(qP (run M M.flatten.length)).Sublist ((run M M.flatten.length).th.map (·.2)):=dP.map _;have mem:∀{x:Int},x∈qP (run M M.flatten.length)↔("side", x)∈(run M M.flatten.length).th:=λ{x}=>by
  unfold qP;constructor
  .intro h;obtain⟨q,G,e⟩:=mMq.mp h;obtain⟨J,L⟩:=aU.mp G;have:q=("side", x):=jd (of_decide_eq_true L) e;rw[←this];exact J
  .exact λh=>mMq.mpr ⟨_,aU.mpr ⟨h,by simp⟩,rfl⟩
 have R:=sb.length_le;have S:=E.length_eq;have hl:=n.hl;refine⟨by rw[I];exact(E.nodup_iff.mpr n.hn).sublist sb,by rw[I];lia,by simp,λx u=>?_⟩
 rw[I]at u ⊢;have u:=mem.mp u;obtain⟨O,P⟩:=B.sd x u;have Q:-x∈(run M M.flatten.length).th.map (·.2):=E.mem_iff.mpr (n.hneg x (E.mem_iff.mp (mMq.mpr ⟨_,u,rfl⟩)));obtain⟨q,G,e⟩:=mMq.mp Q;have l:(q.1, -x)∈(run M M.flatten.length).th:=by rw[←e];exact G
 rcases B.wd q G with z|z|z
 .rw[z]at l;have:=B.dn _ l;rw[aM]at this;exact absurd this O
 .rw[z]at l;exact absurd (B.up _ l) P
 .rw[z]at l;exact mem.mpr l
end
end K54
namespace K41
open PySem L2 Mr Z Xe Zl
def thn(g t:Ϝ):Ϝ:=t.filter λe=>!decide (e∈g)
def pst(g:Ϝ)(M:Λ):Λ:=M.map (thn g)
variable {M:Λ}
end K41
namespace K41
open PySem L2 Mr Z Xe Zl
open K51 (ud Pc)
noncomputable def ab(i:Int):Int:=if i<0 then -i else i
def YX(i:Int):(if i<0 then -i else i)=ab i:=rfl
variable {M:Λ}{p:Nat}{r:Ϝ}
end K41
namespace K41
open PySem L2 Mr Z Xe Zl K31
def P1(x:Int):ab (-x)=ab x:=by
 unfold ab;split <;> split <;> lia
variable {M:Λ}{p:Nat}{r:Ϝ}
def drs(n:Nat)(g:Nat->Λ):Ϝ:=((az n).filter λk=>decide (2<=(g k).length)).map λk:Nat=>(k:Int)
end K41
namespace K45
open PySem L2 Mr Z Xe Zl K31 K41
open K51 (ud Pc)
def gr(r:Ϝ):Ϝ:=(r.map ab)++(r.map ab).map λz=>-z
def Tch(M:Λ)(z:Int)(a:Nat):Prop:=∃e row,M[a]?=some row/\e∈row/\ab e=z
variable {M:Λ}{p:Nat}{r:Ϝ}
def Lk(M:Λ)(r:Ϝ)(p:Nat)(z l:Int):Prop:=∃a b,a≠p/\b≠p/\Tch M z a/\Tch M l b/\ud (pst (gr r) M) a b
structure Fam (E:Int->Int->Prop)(U:Ϝ)(X:Λ):Prop where
 so:∀x∈X,qQ x=x
 ne:∀x∈X,x≠[]
 fl:X.flatten.Perm U
 eq:∀x∈X,∀z∈x,∀z'∈x,E z z'
 on:∀x∈X,∀y∈X,∀z∈x,∀z'∈y,E z z'->x=y
variable {M:Λ}{p:Nat}{r:Ϝ}
end K45
namespace K54
open PySem L2 Mr Z Xe Zl
open K18 (Ln nL zC PC cp qV)
open K47 (pn Bl Mv kp)
structure Wo (W:Ϝ):Prop where
 nd:W.Nodup
 ng:∀x∈W, -x∈W
 nz:∀x∈W,x≠0
 le:W.length<=400
section
variable {W A B:Ϝ}{x y:Int}
def Wo.mp(h:Wo W):Mp [W]:=by
 have l:[W].flatten=W:=by simp
 have:=h.le;exact⟨by rw[l];exact h.nd,by rw[l];lia,by simp,by rw[l];exact h.ng⟩
end
end K54
namespace K55
open Zl
open K15 (nx fw)
open K18 (Ln nL)
open K54 (Wo)
structure Fe (W E:Ϝ):Prop where
 perm:W.Perm (E++E.map λe=>-e)
 lt:∀e∈E,W.idxOf e<W.idxOf (-e)
def xv(E:Ϝ)(x:List Bool)(w:Int):Bool:=if w∈E then x.getD (E.idxOf w) false else x.getD (E.idxOf (-w)) false
def cu(W:Ϝ)(v:Int->Bool)(f:Int):Bool:=pz ((W.take (W.idxOf f)).map v)
noncomputable def cr(a b p q:Nat):Int:=if (a<p/\p<b/\b<q)∨(p<a/\a<q/\q<b)then 1 else 0
section
variable {W E:Ϝ}{x:List Bool}{e f:Int}
theorem Fe.nd(h:Fe W E)(w:Wo W):(E++E.map λe=>-e).Nodup:=h.perm.nodup_iff.mp w.nd
def Fe.ndE(h:Fe W E)(w:Wo W):E.Nodup:=(nAq.mp (h.nd w)).1
def Fe.not(h:Fe W E)(w:Wo W)(l:e∈E):-e∉E:=λq=>(nAq.mp (h.nd w)).2.2 (-e) q (-e) (mMq.mpr ⟨e,l,rfl⟩) rfl
def Fe.inW(h:Fe W E)(l:e∈E):e∈W:=h.perm.mem_iff.mpr (ak _ l)
def Fe.nW(h:Fe W E)(l:e∈E):-e∈W:=h.perm.mem_iff.mpr (aj _ (mMq.mpr ⟨e,l,rfl⟩))
def Fe.cs(h:Fe W E)(l:f∈W):f∈E∨-f∈E:=by
 rcases mAq.mp (h.perm.mem_iff.mp l)with q|q
 .exact .inl q
 .obtain⟨e,n,rfl⟩:=mMq.mp q;rw[aM];exact .inr n
def J6(h:Fe W E)(w:Wo W)(l:f∈W):xv E x (-f)=xv E x f:=by
 unfold xv;rcases h.cs l with q|q
 .rw[pE (h.not w q),pH q,aM]
 .have:=h.not w q;rw[aM]at this;rw[pH q,pE this]
def OU(h:Fe W E)(w:Wo W)(l:x.length=E.length):E.map (xv E x)=x:=by
 apply cV;intro i;rw[gMq]
 by_cases hi:i<E.length
 .rw[gEg hi,gEg (by lia)]
  show some (xv E x E[i])=_;unfold xv;rw[pH (gRq hi),(h.ndE w).idxOf_getElem,gDq,gEg (by lia)]
  rfl
 .rw[bo (by lia),bo (by lia)]
  rfl
def HQ{α:Type}{l:List α}{g:α->Bool}(h:∀a∈l,g a=false):pz (l.map g)=false:=by
 induction l with
 |nil=>rfl
 |cons a l n=>
  rw[au,tG,h a (ai ..),n λb hb=>h b (mCo _ hb)]
  rfl
def WK{l:Ϝ}(nd:l.Nodup)(n:e∈l)(v:Int->Bool):pz (l.map λf=>decide (f=e) && v f)=v e:=by
 induction l with
 |nil=>cases n
 |cons a l t=>
  obtain⟨s,u⟩:=ar.mp nd;rw[au,tG];rcases ae.mp n with rfl|n
  .rw[HQ λb hb=>by rw[d4 (show ¬ b=e from λq=>s (q ▸ hb))];rfl]
   simp
  .rw[t u n,d4 (show ¬ a=e from λq=>s (by rw[q];exact n))]
   simp
def S0(nd:W.Nodup)(v:Int->Bool)(f:Int):cu W v f=pz (W.map λw=>decide (W.idxOf w<W.idxOf f) && v w):=by
 unfold cu;generalize W.idxOf f=j
 conv=>rhs;rw[←aS j (W.map _)]
 rw[El,←ir,←jC,HQ (l:=W.drop j) λw hw=>by
  obtain⟨i,hi⟩:=ay.mp hw;rw[cf]at hi;obtain⟨s,n⟩:=gSq.mp hi;rw[←n,nd.idxOf_getElem,d4 (by lia)]
  rfl,hU]
 congr 1;refine mCq λw hw=>?_
 obtain⟨i,hi⟩:=ay.mp hw;rw[hV]at hi;split at hi
 case isTrue c=>
  obtain⟨s,n⟩:=gSq.mp hi;rw[←n,nd.idxOf_getElem,d0 c];rfl
 case isFalse=>cases hi
def QE(h:Fe W E)(w:Wo W)(f:Int):cu W (xv E x) f=pz (E.map λg=>xor (decide (W.idxOf g<W.idxOf f) && xv E x g) (decide (W.idxOf (-g)<W.idxOf f) && xv E x g)):=by
 rw[S0 w.nd,Lf (h.perm.map _),mBq,El,mPq,GX];congr 2;refine mCq λg l=>?_
 show(decide _ && xv E x (-g))=_;rw[J6 h w (h.inW l)]
def W2{a b p q:Nat}(u:a<b)(z:p<q)(B:p≠a)(G:p≠b)(H:q≠a)(I:q≠b):decide (cr a b p q=1)=xor (xor (decide (p<b)) (decide (q<b))) (xor (decide (p<a)) (decide (q<a))):=by
 unfold cr
 by_cases c:(a<p/\p<b/\b<q)∨(p<a/\a<q/\q<b)
 .rw[pH c];rcases c with c|c
  .rw[d0 (p:=p<b) (by lia),d4 (p:=q<b) (by lia),d4 (p:=p<a) (by lia),d4 (p:=q<a) (by lia)];rfl
  .rw[d0 (p:=p<b) (by lia),d0 (p:=q<b) (by lia),d0 (p:=p<a) (by lia),d4 (p:=q<a) (by lia)];rfl
 .rw[pE c]
  by_cases l:p<b <;> by_cases n:q<b <;> by_cases s:p<a <;> by_cases t:q<a <;> simp[l,n,s,t] <;> lia
def LX(h:Fe W E)(w:Wo W)(z:x.length=E.length)(s:e∈E):AH (E.map λf=>cr (W.idxOf e) (W.idxOf (-e)) (W.idxOf f) (W.idxOf (-f))) x=xor (xor (cu W (xv E x) (-e)) (cu W (xv E x) e)) (xv E x e):=by
 have B:∀(l:Ϝ) (g:Int->Int) (k:Int->Bool),gS (λa b=>decide (a=1) && b) (l.map g) (l.map k)=l.map λf=>decide (g f=1) && k f:=λl g k=>by
  induction l with
  |nil=>rfl
  |cons a l G=>rw[au,au,List.zipWith_cons_cons,G];rfl
 conv=>lhs;rw[←OU h w z]
 unfold AH;rw[B,QE h w,QE h w,←WK (h.ndE w) s (xv E x),←GX,←GX];congr 1;refine mCq λf t=>?_
 have H:∀{a b:Int},a∈W->b∈W->W.idxOf a=W.idxOf b->a=b:=λ{a b} ha hb q=>by
  have:=bQ (bz ha);have:=bQ (bz hb)
  simp_all
 have le:=h.lt e s;have lf:=h.lt f t
 by_cases c:f=e
 .subst c;rw[show cr (W.idxOf f) (W.idxOf (-f)) (W.idxOf f) (W.idxOf (-f))=0 from pE (by lia)]
  rw[d0 (p:=W.idxOf f<W.idxOf (-f)) lf,d4 (p:=W.idxOf (-f)<W.idxOf (-f)) (by lia),d4 (p:=W.idxOf f<W.idxOf f) (by lia),d4 (p:=W.idxOf (-f)<W.idxOf f) (by lia),d0 (p:=f=f) rfl]
  cases xv E x f <;> rfl
 .have u:∀{a b:Int},a∈W->b∈W->a≠b->W.idxOf a≠W.idxOf b:=λha hb n q=>n (H ha hb q)
  rw[W2 le lf (u (h.inW t) (h.inW s) c) (u (h.inW t) (h.nW s) λq=>h.not w s (q ▸ t)) (u (h.nW t) (h.inW s) λq=>h.not w t (q ▸ s)) (u (h.nW t) (h.nW s) λq=>c (by lia)),d4 (p:=f=e) c]
  generalize decide (W.idxOf f<W.idxOf (-e))=b1;generalize decide (W.idxOf (-f)<W.idxOf (-e))=b2;generalize decide (W.idxOf f<W.idxOf e)=b3;generalize decide (W.idxOf (-f)<W.idxOf e)=I;cases xv E x f <;> cases b1 <;> cases b2 <;> cases b3 <;> cases I <;> rfl
end
section
variable {W E:Ϝ}{LL:Λ}{x y:List Bool}{e f:Int}
def Pe(W:Ϝ):[W].flatten=W:=by simp
def V2(h:Fe W E)(w:Wo W)(s:f∈W):cu W (xv E x) (nx [W] f)=xor (cu W (xv E x) f) (xv E x f):=by
 have lt:=bz s;have l:W[W.idxOf f]?=some f:=by rw[gEg lt,bQ lt]
 have nd:[W].flatten.Nodup:=by rw[Pe];exact w.nd
 have t:pz ((W.take (W.idxOf f+1)).map (xv E x))=xor (cu W (xv E x) f) (xv E x f):=by
  rw[bF,l,mBq,El];show xor _ (xor (xv E x f) false)=_;rw[hU];rfl
 rw[←t]
 by_cases c:W.idxOf f+1<W.length
 .have n:=K16.Fw nd (mSq.mpr rfl) l (y:=W[W.idxOf f+1]) (by rw[fc c,gEg c])
  rw[n];unfold cu;rw[w.nd.idxOf_getElem]
 .have u:0<W.length:=by lia
  have n:=K16.Fw nd (mSq.mpr rfl) l (y:=W[0]) (by rw[show W.idxOf f+1=W.length by lia,gV,gEg u])
  rw[n];unfold cu;rw[w.nd.idxOf_getElem,cw (by lia:W.length<=W.idxOf f+1),Lf (h.perm.map _),mBq,El,mPq,mCq (f:=xv E x∘λe=>-e) (g:=xv E x) λg z=>J6 h w (h.inW z),Bool.xor_self]
  rfl
def tb(W E:Ϝ):Λ:=E.map λe=>E.map λf=>cr (W.idxOf e) (W.idxOf (-e)) (W.idxOf f) (W.idxOf (-f))
def LA(h:Fe W E)(w:Wo W)(n:x.length=E.length):op (tb W E) x=true↔∀f∈W,cu W (xv E x) (-f)=xor (cu W (xv E x) f) (xv E x f):=by
 unfold op tb;rw[jL,fG];constructor
 .intro q f s;have key:∀e∈E,cu W (xv E x) (-e)=xor (cu W (xv E x) e) (xv E x e):=λe l=>by
   have:=q e l;have:(!AH _ x)=true:=this;rw[LX h w n l]at this
   revert this
   cases cu W (xv E x) (-e) <;> cases cu W (xv E x) e <;> cases xv E x e <;> decide
  rcases h.cs s with a|a
  .exact key f a
  .have:=key _ a;rw[aM,J6 h w s]at this;rw[this];cases cu W (xv E x) (-f) <;> cases xv E x f <;> rfl
 .intro q e l;show(!AH _ x)=true;rw[LX h w n l,q e (h.inW l)];cases cu W (xv E x) e <;> cases xv E x e <;> rfl
def rI(LL:Λ)(f:Int):Nat:=LL.findIdx λl=>decide (f∈l)
def yv(LL:Λ)(y:List Bool)(f:Int):Bool:=y.getD (rI LL f) false
def LZ(nd:LL.flatten.Nodup){i:Nat}{l:Ϝ}(hi:LL[i]?=some l)(n:f∈l):rI LL f=i:=by
 obtain⟨s,t⟩:=gSq.mp hi;unfold rI;have lt:LL.findIdx (λl=>decide (f∈l))<LL.length:=eS ⟨l,mGq hi,d0 n⟩
 have u:f∈LL[LL.findIdx λl=>decide (f∈l)]:=of_decide_eq_true (gL (w:=lt))
 have pw:=Gy nd;rcases fu (LL.findIdx λl=>decide (f∈l)) i with c|c|c
 .exact absurd rfl (bI.mp pw _ _ lt s c f u f (by rw[t];exact n))
 .exact c
 .exact absurd rfl (bI.mp pw _ _ s lt c f (by rw[t];exact n) f u)
def T2{g:Int->Int}{l:Ϝ}(h:Cy g e l)(n:f∈l):g f∈l:=by
 obtain⟨i,hi⟩:=ay.mp n;have lt:=(gSq.mp hi).1;have:=h.at lt;rw[hi]at this;cases this
 by_cases c:i+1<l.length
 .exact mGq (h.at c)
 .have:g (itr g i e)=e:=by
   have:=h.back;rw[show l.length=i+1 by lia]at this
   exact this
  rw[this];exact h.self
def RT(o:CW (fw [W]) W LL)(s:f∈W):rI LL (fw [W] f)=rI LL f:=by
 obtain⟨l,hl,n⟩:=mFq.mp ((o.all f).mpr s);obtain⟨i,hi⟩:=ay.mp hl;obtain⟨e,c⟩:=o.cy l hl;rw[LZ o.dj hi n,LZ o.dj hi (T2 c n)]
def OX(w:Wo W)(o:CW (fw [W]) W LL){c:Int->Bool}(s:∀f∈W,c (fw [W] f)=c f){l:Ϝ}(hl:l∈LL){a b:Int}(ha:a∈l)(hb:b∈l):c a=c b:=by
 obtain⟨e,cy⟩:=o.cy l hl;have B:e∈W:=(o.all e).mp (mFq.mpr ⟨l,hl,cy.self⟩);have inW:∀{z},z∈l->z∈W:=λn=>(o.all _).mp (mFq.mpr ⟨l,hl,n⟩)
 have t:∀i,i<l.length->c (itr (fw [W]) i e)=c e:=λi=>by
  induction i with
  |zero=>intro _;rfl
  |succ i u=>
   intro lt;show c (fw [W] (itr (fw [W]) i e))=_;rw[s _ (inW (mGq (cy.at (by lia)))),u (by lia)]
 have to:∀{z},z∈l->c z=c e:=λ{z} n=>by
  obtain⟨i,hi⟩:=ay.mp n;have lt:=(gSq.mp hi).1;have:=cy.at lt;rw[hi]at this;cases this;exact t i lt
 rw[to ha,to hb]
def ty(LL:Λ)(E:Ϝ)(y:List Bool):List Bool:=E.map λe=>xor (yv LL y e) (yv LL y (-e))
def VQ(h:Fe W E)(w:Wo W)(l:f∈W):xv E (ty LL E y) f=xor (yv LL y f) (yv LL y (-f)):=by
 have k:∀e∈E,(ty LL E y).getD (E.idxOf e) false=xor (yv LL y e) (yv LL y (-e)):=λe n=>by
  have lt:=bz n;unfold ty;rw[gDq,gMq,gEg lt,bQ lt];rfl
 unfold xv;rcases h.cs l with q|q
 .rw[pH q,k f q]
 .have:=h.not w q;rw[aM]at this;rw[pE this,k _ q,aM,jE]
theorem V3(h:Fe W E)(w:Wo W)(o:CW (fw [W]) W LL)(t:∀z,W[0]?=some z->yv LL y z=false):∀(j:Nat) (f:Int),W[j]?=some f->cu W (xv E (ty LL E y)) f=yv LL y f
 |0,f,l=>by
  rw[t f l];obtain⟨u,B⟩:=gSq.mp l;unfold cu;rw[←B,w.nd.idxOf_getElem];rfl
 |j+1,f,l=>by
  obtain⟨u,B⟩:=gSq.mp l;have nd:[W].flatten.Nodup:=by rw[Pe];exact w.nd
  have G:W[j]?=some W[j]:=gEg (by lia)
  have n:W[j]∈W:=gRq _;have s:nx [W] W[j]=f:=K16.Fw nd (mSq.mpr rfl) G (by rw[fc u];exact l)
  have H:=V3 h w o t j _ G;have I:yv LL y f=yv LL y (-W[j]):=by
   have:fw [W] (-W[j])=f:=by show nx [W] (- -W[j])=f;rw[aM,s]
   unfold yv;rw[←RT o (w.ng _ n),this]
  rw[←s,V2 h w n,H,VQ h w n,s,I];cases yv LL y W[j] <;> cases yv LL y (-W[j]) <;> rfl
def M4(h:Fe W E)(w:Wo W)(ne:0<W.length)(o:CW (fw [W]) W LL):2*(uk E.length).countP (op (tb W E))=2 ^ LL.length:=by
 have X:W[0]?=some W[0]:=gEg ne;have Q:W[0]∈W:=gRq _;have u:∀{f},f∈W->∃l,LL[rI LL f]?=some l/\f∈l:=λ{f} s=>by
  obtain⟨l,hl,t⟩:=mFq.mp ((o.all f).mpr s);obtain⟨i,hi⟩:=ay.mp hl;exact⟨l,by rw[LZ o.dj hi t];exact hi,t⟩
 obtain⟨l0,L,_⟩:=u Q;have r0:=(gSq.mp L).1;have hh:=ZI r0 (p:=λ_=>true) (q:=λy=>!y.getD (rI LL W[0]) false) (λ_ _=>rfl) (λy B=>by
  show(!(G1 _ y).getD _ false)=_;unfold G1;rw[gDq,aN (by lia)]
  rfl)
 rw[show(uk LL.length).countP (λ_=>true)=(uk LL.length).length from iU.mpr λ_ _=>rfl,DU]at hh
 rw[hh];congr 1;rw[dO,dO];generalize G:(uk LL.length).filter (λy=>true && !y.getD (rI LL W[0]) false)=Y
 have n:∀{y},y∈Y↔y.length=LL.length/\yv LL y W[0]=false:=λ{y}=>by
  rw[←G,aU,rP];show _/\(true && !yv LL y W[0])=true↔_;cases yv LL y W[0] <;> simp
 have H:Y.Nodup:=by rw[←G];exact(zR _).filter _
 have I:∀{y},y∈Y->∀f∈W,cu W (xv E (ty LL E y)) f=yv LL y f:=λ{y} B f s=>by
  obtain⟨j,hj⟩:=ay.mp s;exact V3 h w o (λz q=>by rw[X]at q;cases q;exact(n.mp B).2) j f hj
 have nd:(Y.map (ty LL E)).Nodup:=by
  rw[aW]at H ⊢;rw[aV];refine bq.imp_of_mem (λ{a b} ha hb ne q=>ne ?_) H
  apply jq (by rw[(n.mp ha).1,(n.mp hb).1])
  intro i R h2;have M:i<LL.length:=by rw[← (n.mp ha).1];exact R
  obtain⟨e,cy⟩:=o.cy LL[i] (gRq M);have S:e∈W:=(o.all e).mp (mFq.mpr ⟨_,gRq M,cy.self⟩);have ri:rI LL e=i:=LZ o.dj (gEg M) cy.self;have J:=I ha e S;have q2:=I hb e S;rw[q,q2]at J;unfold yv at J;rw[ri,gDq,gDq,gEg R,gEg h2]at J;exact J.symm
 have pm:(Y.map (ty LL E)).Perm ((uk E.length).filter (op (tb W E))):=by
  refine(aX nd ((zR _).filter _)).mpr λx=>?_
  rw[aU,rP];constructor
  .intro hx;obtain⟨y,B,rfl⟩:=mMq.mp hx;have hl:(ty LL E y).length=E.length:=lMq _;refine⟨hl,(LA h w hl).mpr λf s=>?_⟩
   rw[I B f s,I B _ (w.ng f s),VQ h w s];cases yv LL y f <;> cases yv LL y (-f) <;> rfl
  .rintro⟨hl,hk⟩;have hk:=(LA h w hl).mp hk;have cc:∀f∈W,cu W (xv E x) (fw [W] f)=cu W (xv E x) f:=λf s=>by
    have U:=w.ng f s;show cu W (xv E x) (nx [W] (-f))=_;rw[V2 h w U,←hk _ U,aM]
   have O:∀f∈W,yv LL (LL.map λl=>cu W (xv E x) (l.headD 0)) f=cu W (xv E x) f:=λf s=>by
    obtain⟨l,hl,t⟩:=u s;unfold yv;rw[gDq,gMq,hl];show cu W (xv E x) (l.headD 0)=_;exact OX w o cc (mGq hl) (by
     cases l with
     |nil=>cases t
     |cons a l=>exact ai ..) t
   refine mMq.mpr ⟨LL.map λl=>cu W (xv E x) (l.headD 0),n.mpr ⟨lMq _,?_⟩,?_⟩
   .rw[O _ Q];unfold cu;rw[w.nd.idxOf_getElem];rfl
   .conv=>rhs;rw[←OU h w hl]
    refine mCq λe P=>?_
    rw[O e (h.inW P),O _ (h.nW P),hk e (h.inW P)];cases cu W (xv E x) e <;> cases xv E x e <;> rfl
 rw[←pm.length_eq,lMq]
def KA(h:Fe W E)(w:Wo W){LL:Λ}(s:Ln [W] LL){k:Nat}(t:Rk (tb W E) k):2*k+2*nL [W] LL=W.length+2:=by
 have H:W.length=2*E.length:=by rw[h.perm.length_eq,lAq,lMq];lia
 have cnt:=t.count (n:=E.length) λr hr=>by
  obtain⟨e,I,rfl⟩:=mMq.mp hr;refine⟨lMq _,λa ha=>?_⟩
  obtain⟨f,J,rfl⟩:=mMq.mp ha;unfold cr;split
  .exact .inr rfl
  .exact .inl rfl
 by_cases ne:0<W.length
 .have o:CW (fw [W]) W LL:=by
   have:=s.orb w.mp
   rwa [Pe]at this
  have u:=M4 h w ne o;have M:nL [W] LL=LL.length:=by
   unfold nL;rw[dA.mpr λq=>by rw[←mSq.mp q]at ne;simp at ne]
   rfl
  have e:2 ^ (LL.length+k)=2 ^ (E.length+1):=by
   rw[Nat.pow_add,←u,iK,←cnt,iy,gU 2]
  have:=(Nat.pow_right_inj (by decide:1<2)).mp e
  lia
 .have w0:W=[]:=gO (by lia)
  have z:E=[]:=gO (by lia)
  subst w0 z;have B:k=0:=by
   cases k with
   |zero=>rfl
   |succ k=>exact absurd (show 2*((uk ([]:Ϝ).length).countP (op (tb [] []))*2 ^ k)=1 by rw[←iy,gU 2,iy,gU 2,←iK];exact cnt) (by lia)
  have G:LL=[]:=by
   have o:=s.orb w.mp;cases LL with
   |nil=>rfl
   |cons l L=>
    obtain⟨e,cy⟩:=o.cy l (ai ..);have:=(o.all e).mp (mFq.mpr ⟨l,ai ..,cy.self⟩);simp at this
  rw[B,G];rfl
end
end K55
namespace K51
open PySem L2 Mr Z Xe Zl
def z2:((2:Nat):Int)=2:=rfl
abbrev vA(x:String×Int):D:=.tup [.str x.1,.int x.2]
def NB(xs:List (String×Int)):wq [.list (xs.map vA)]=i5 true:=by
 have key:=rZ (x:=1) (body:=xo) (λi S=>∃l,S=[i4 (xs.map vA),l]) (ds:=xs.map vA) (S:=[i4 (xs.map vA),none]) ⟨none,rfl⟩ (by
  rintro i d S hd ⟨l,rfl⟩;rw[gMq]at hd;obtain⟨x,t,rfl⟩:=oMq.mp hd;have n:atI [D.str x.1,D.int x.2] 0=some (.str x.1):=rfl;have s:atI [D.str x.1,D.int x.2] 1=some (.int x.2):=rfl;have z:decide ((2:Int)=2)=true:=rfl;refine⟨_,?_,some (.sh (vA x)),rfl⟩
  simp_arith [xo,uI,AX,n,s,z2,z])
 obtain⟨u,e,l,rfl⟩:=key
 simp_arith [wq,Cu,e]
end K51
namespace K54
open PySem L2 Mr Z Xe Zl
open K41 (ab YX)
open K51 (vA)
noncomputable def wB(th:List (String×Int)):Ϝ:=(th.filter λx=>decide (x.1 = "side")).map (·.2)
def yY(x:String×Int)(th:List (String×Int)):wB (x::th)=(if x.1 = "side" then [x.2]else [])++wB th:=by
 unfold wB
 by_cases h:x.1 = "side"
 .rw[pH h,cS (by simpa using h)]
  rfl
 .rw[pE h,cT (by simpa using h)]
  rfl
def Lm{op:Ϝ}{e:Int}(h:e∉op):ab e∈op.map ab↔-e∈op:=by
 constructor
 .intro q;obtain⟨z,n,l⟩:=mMq.mp q;unfold K41.ab at l;have:z=e∨z = -e:=by split at l <;> split at l <;> lia
  rcases this with w|w
  .exact absurd (w ▸ n) h
  .exact w ▸ n
 .exact λq=>mMq.mpr ⟨_,q,K41.P1 e⟩
def Hi:decide (Str.ofString "up" = Str.ofString "side")=false:=by trivial
def B5:decide (Str.ofString "down" = Str.ofString "side")=false:=by trivial
end K54
namespace K52
open PySem L2 Mr Z Xe Zl
open K15 (nx yg)
open K18 (pp cp PC Ce sF tK Bk tY)
open K43 (CP qe)
open K51 (ud AY)
section
variable {M:Λ}
def Ee(l:Mp M)(t:0<M.length)(one:∀k,k<M.length->ud M 0 k):K54.Cg [dM M]=some (.ow ((run M M.flatten.length).th.map AY)):=by
 obtain⟨kn,PS,L,O⟩:=K51.Fb (CP l);have P:((PS.length:Nat):Int)=1:=by rw[K51.Fo L t λa b ha hb=>((one a ha).symm (CP l)).trans (one b hb)];rfl
 have I:K54.qH [dM M]=some (.sh .non):=by
  simp_arith [K54.qH,K54.uc,O,P]
 have hr:=qe t;have u:atI (M.map dI) 0=some (dI (M.getD 0 [])):=uz (j:=0) (by rw[gMq,hr];rfl)
 have hl:=l.hl;have hv:=l.hr;cases q:M.getD 0 []with
 |nil=>
  rw[q]at u hr;have only:∀k,ud M 0 k->k=0:=λk hk=>by
   induction hk with
   |base=>rfl
   |step _ a b Q=>
    rw[Q,hr]at a;cases a;cases b
  have R:M.length=1:=by
   have:=only (M.length-1) (one _ (by lia))
   lia
  have U:M=[[]]:=by
   match M,R,hr with
   | [r],_,hr=>simp at hr;rw[hr]
  have n:(run M M.flatten.length).th=[]:=by rw[U];rfl
  rw[n];have x:decide (((0:Nat):Int)=0)=true:=rfl;have z:atI (M.map dI) 0=some (.list []):=u
  simp_arith [K54.Cg,K54.GL,I,dM,z,x]
 |cons n J=>
  rw[q]at u;have z:atI (D.int n::J.map D.int) 0=some (.int n):=uz (j:=0) rfl;have X:=yL l.hn (by lia)
  have B:=K51.Jk l.hn l.hl;have Y:(K51.vm (K51.pU M)).length=M.flatten.length:=by rw[K51.Lh,K51.FU]
  have x:decide (((J.length+1:Nat):Int)=0)=false:=d4 (by lia)
  have c0:(run M 0).cur=n:=by
   show(M.getD 0 []++[]).headD 0=n;rw[q];rfl
  have key:=ur (c:=ug (pO A8 (uY rH (oJ (oI 4) oS)) (uY IE (oJ (oI 2) oS)))) (body:=K51.vM) (λS=>∃i e s,i<=M.flatten.length/\S=Rz M (run M i) e s/\(i<M.flatten.length->e=(run M i).cur)) (muw M.flatten.length) (λS=>∃e s,S=Rz M (run M M.flatten.length) e s) (by
   rintro S ⟨i,e,s,hi,rfl,he⟩;have E:=wW l t one i hi;have w:=sP l t i;have lk:=Yn l w;refine⟨decide (i<M.flatten.length),Rz M (run M i) e s,?_,λlt=>?_,λge=>?_⟩
   .have lm:((run M i).th.map AY).length=i:=by rw[lMq,E]
    have dc:decide ((i:Int)<(M.flatten.length:Int))=decide (i<M.flatten.length):=decide_eq_decide.mpr (by lia)
    unfold Rz
    simp_arith [E,Y,dc]
   .have lt:i<M.flatten.length:=of_decide_eq_true lt;obtain⟨g1,g2,g3,g4⟩:=yW l t one lt;obtain⟨e',G,w1,w2⟩:=Vi l g1 g3 (by lia) (by lia) (v6:=s)
    rw[he lt];refine⟨_,w1,⟨i+1,e',G,by lia,rfl,λh=>w2 (yW l t one h).2.2.2⟩,?_⟩
    have l2:=wW l t one (i+1) (by lia)
    show M.flatten.length-((run M (i+1)).th.map AY).length<M.flatten.length-((run M i).th.map AY).length;rw[lMq,lMq,l2,E];lia
   .have:i=M.flatten.length:=by
     have:=of_decide_eq_false ge;lia
    subst this;exact⟨e,s,rfl⟩) 100000 (Rz M (run M 0) n none) ⟨0,n,none,by lia,rfl,λ_=>c0.symm⟩ (by
   show M.flatten.length-_<100000;lia)
  obtain⟨S',H,e,s,rfl⟩:=key;unfold Rz at H;have t0:(run M 0).th.map AY=[]:=rfl;have b0:C1 (run M 0)=[(.inl 0,.non)]:=rfl;rw[t0,b0]at H
  simp_arith [K54.Cg,K54.GL,I,dM,u,dI,z,x,X,B,H]
end
end K52
namespace K52
open PySem L2 Mr Z Xe Zl
open K15 (nx yg JT)
open K43 (CP qe)
open K51 (ud AY)
variable {M:Λ}{s:Sw}
def Nh(z:Mp M):yy [dM M]=some (.owd (K51.vm (K51.pU M))):=by
 have hn:=z.hn;have hl:=z.hl;have key:=rZ (x:=2) (body:=xx) (λi S=>∃B l n,S=[some (.sh (dM M)),some (.owd (K51.vm (K51.pU (M.take i)))),B,l,n]) (ds:=M.map dI) (S:=[some (.sh (dM M)),some (.owd []),none,none,none]) ⟨none,none,none,rfl⟩ (by
  rintro i d S hd ⟨B,l,n,rfl⟩;obtain⟨r,hr,rfl⟩:=Dk hd;have I:=z.row hr;have J:=K0 (x:=3) (y:=4) (body:=xq) (k:=0) (λj S=>∃l n,S=[some (.sh (dM M)),some (.owd (K51.vm (K51.pU (M.take i)++(K51.qZ r).take j))),some (.sh (dI r)),l,n]) (ds:=r.map D.int) (S:=[some (.sh (dM M)),some (.owd (K51.vm (K51.pU (M.take i)))),some (.sh (dI r)),l,n]) ⟨l,n,by simp⟩ (by
   rintro j d S hd ⟨l,n,rfl⟩;rw[bK];have E:j<r.length:=by
    have:=(gSq.mp hd).1
    rwa [lMq]at this
   rw[gMq,gEg E]at hd;cases hd;have L:r[j]?=some r[j]:=gEg E;have t:(j+1) % r.length<r.length:=jb _ (by lia)
   have O:(K51.rot r)[j]?=some r[(j+1) % r.length]:=by rw[JT E];exact gEg t
   have P:=K51.Fu (j:=j) hl hr;have u:=K51.HF hn hr L O;have G:=sv (i:=(j:Int)+1) (j:=(r.length:Int)) (by lia)
   have Q:((j:Int)+1) % (r.length:Int)=(((j+1) % r.length:Nat):Int):=by push_cast;rfl
   rw[Q]at G;have R:atI (r.map D.int) (((j+1) % r.length:Nat):Int)=some (.int r[(j+1) % r.length]):=uz (by rw[gMq,gEg t];rfl)
   refine⟨_,?_,i3 (j:Int),i3 (r[j]),rfl⟩
   simp_arith [xq,dI,G,R,P,u])
  obtain⟨Y,H,U,X,rfl⟩:=J;rw[bK,lMq,←K51.zw,aE]at H;refine⟨_,?_,some (.sh (dI r)),U,X,rfl⟩;rw[qf hr,K51.D9]
  simp_arith [xx,dI,H])
 obtain⟨S',e,B,l,n,rfl⟩:=key;rw[lMq,aE]at e
 simp_arith [yy,CB,e]
end K52
namespace K18
open PySem L2 Mr Z Xe Zl
open K12 (cN aP Z2 wN Nm)
open K11 (CU Cn)
def Wl(last:Λ):Nat->Θ->Prop
 |_,[]=>True
 |h,p::sU=>(p<h/\∃e l n,last[p]?=some (l++[e])/\last[h]?=some (-e::n))/\Wl last p sU
end K18
namespace K19
open PySem L2 Mr Z Xe Zl K15 K16
def YN{t:Ϝ}(h:t.Nodup):(t.map λz=>-z).Nodup:=by
 rw[aW,aV];exact(aW.mp h).imp λq e=>q (by lia)
end K19
namespace K17
open PySem L2 Mr Z Xe Zl
open K15 (nx fw)
open K25 (Rt)
open K43 (CP rds)
open K51 (ud Ps Pc)
def Yo{A B:Λ}(h:A.map aI=B.map aI):A=B:=by
 have:(A.map aI).map oP=(B.map aI).map oP:=by rw[h]
 rw[mPq,mPq]at this;have t:A.map dI=B.map dI:=by
  rw[←mCq (f:=oP∘aI) λr _=>pJ r,←mCq (f:=oP∘aI) (l:=B) λr _=>pJ r]
  exact this
 have s:(A.map dI).map A4=(B.map dI).map A4:=by rw[t]
 rw[mPq,mPq]at s;have n:∀C:Λ,C.map (A4∘dI)=C:=λC=>(mCq λr _=>vz r).trans (ij _)
 rwa [n,n]at s
section
variable {M:Λ}
def rds_len(n:Mp M)(hz:∀e∈M.flatten,e≠0):2*(rds M).length=M.flatten.length:=by
 unfold rds;rw[←dO,(qT _).countP_eq];have pm:(M.flatten.map λz=>-z).Perm M.flatten:=(aX (K19.YN n.hn) n.hn).mpr λx=>by
  rw[mMq];constructor
  .rintro⟨z,h,rfl⟩;exact n.hneg z h
  .exact λh=>⟨-x,n.hneg x h,aM x⟩
 have s:=pm.countP_eq λz=>decide (0<z)
 rw[ju]at s;have u:M.flatten.countP ((λz=>decide (0<z))∘λz=>-z)=M.flatten.countP λa=>decide ¬ (decide (0<a)=true):=gg λx t=>by
  have:=hz x t;simp;lia
 have l:=List.length_eq_countP_add_countP (l:=M.flatten) λz=>decide (0<z)
 lia
def N8(l:Mp M){F:Λ}(n:K15.wZ [dM M]=some (.ow (F.map aI))):∃kn PS,Ps M M.length kn PS/\K43.BG [dM M]=some (.sh (.tup [.int (M.length:Int),.int ((rds M).length:Int),.int (F.length:Int),.int ((PS.length:Nat):Int),.int ((2*((PS.length:Nat):Int)-(M.length:Int)+((rds M).length:Int)-(F.length:Int)) / 2)])):=by
 obtain⟨kn,PS,s,t⟩:=K51.Fb (CP l);have hl:=l.hl;have u:wg [dM M]=some (aI (rds M)):=roads_ok (rs:=M) (by lia)
 have x:=pJ (rds M);have mu:∀i:Int,xD (.int 2) (.int i)=some (.int (2*i)):=λi=>Jp (by decide) (by decide)
 have z:=λi:Int=>yM (i:=i) (j:=2) (by decide) (by decide)
 refine⟨kn,PS,s,?_⟩
 simp_arith [K43.BG,K43.FF,u,x,dI,n,t,mu,z]
end
end K17
namespace K44
open PySem L2 Mr Z Xe Zl
open K15 (nx fw uL yg Rd L9)
open K16 (HS Da zA BJ)
open K18 (Ln nL)
open K43 (ZC)
open K51 (ud Ps Pc)
def aaX(L:Λ):List (Int×Int):=L.flatMap λl=>l.map λx=>(x,l.headD 0)
end K44
namespace K44
open PySem L2 Mr Z Xe Zl
open K15 (Rd kI kI_get kI_new kI_len)
open K16 (HS Da zA BJ pm)
open K18 (Ln nL)
def fl(P:List (Int×Int))(x:Int):Int:=match Z.getD (HS P) (.inl x)with
 |some (.int y)=>y
 |_=>0
structure Mt (T:Λ):Prop where
 nd:T.flatten.Nodup
 ng:∀z∈T.flatten, -z∈T.flatten
 nz:∀z∈T.flatten,z≠0
 le:T.flatten.length<=60
 lt:T.length<=64
def Pn(T:Λ):Prop:=K11.Cn T/\∃l u,Ln T l/\nL T l+T.length=u+2/\T.flatten.length=2*u
end K44
namespace K46
open PySem L2 Mr Z Xe Zl
open K15 (nx fw uL)
open K16 (HS)
open K18 (Ln nL PC AF)
open K31 (Nm nmN)
open K41 (ab drs)
open K44 (aaX fl Mt Pn)
open K45 (Lk Fam)
open K51 (ud Ps)
section
variable {M L:Λ}
def Xz{x:AV}{ds:List D}(h:oP x = .list ds):lsQ x=some ds:=by
 cases x with
 |sh d=>
  rw[pW]at h;subst h;rfl
 |ow n=>
  rw[qX]at h;rw[Q5];exact congrArg some (D.list.inj h)
 |owd l=>rw[zK]at h;cases h
 |owl l=>cases h
def MR(x:AV):oP (Y8 x)=oP x:=by
 cases x with
 |ow l=>
  rw[Rv,qX,qX,mPq];exact congrArg D.list (jM (l.map oP))
 |_=>rfl
end
end K46
namespace K52
open PySem L2 Mr Z Xe Zl
open K43 (CP qe rA)
open K51 (ud)
section
variable {M:Λ}{g:Nat->Int}
structure Sj (M:Λ)(E:Ϝ)(g:Nat->Int):Prop where
 snd:∀a b,g a=g b->ud M a b
 cmp:∀e∈E,g (plc M e)=g (plc M (-e))
def Nl(g:Nat->Int)(l n:Int)(k:Nat):Int:=if g k=n then l else g k
theorem Sj.step(l:Mp M){E:Ϝ}(h:Sj M E g){e:Int}(t:e∈M.flatten):Sj M (E++[e]) (Nl g (g (plc M e)) (g (plc M (-e)))):=by
 have u:ud M (plc M e) (plc M (-e)):=by
  obtain⟨r,n,s⟩:=l.at t;exact .step .base n s
 have one:∀a b,g a=g (plc M (-e))->g (plc M e)=g b->ud M a b:=λa b n s=>(h.snd _ _ n).trans ((u.symm (CP l)).trans (h.snd _ _ s))
 refine⟨λa b q=>?_,λx B=>?_⟩
 .unfold Nl at q
  by_cases c:g a=g (plc M (-e)) <;> by_cases d:g b=g (plc M (-e))
  .exact h.snd a b (c.trans d.symm)
  .rw[pH c,pE d]at q;exact one a b c q
  .rw[pE c,pH d]at q;exact(one b a d q.symm).symm (CP l)
  .rw[pE c,pE d]at q;exact h.snd a b q
 .rcases mAq.mp B with z|z
  .unfold Nl;rw[h.cmp x z]
  .rw[mSq.mp z];unfold Nl;rw[pH (c:=g (plc M (-e))=g (plc M (-e))) rfl];split
   .rfl
   .rfl
def A9(M:Λ)(g:Nat->Int)(o:Int):Λ:=((az M.length).filter λk=>decide (g k=o)).map λk=>M.getD k []
def YA(u:Mp M)(h:Sj M M.flatten g){n:Nat}(hk:n<M.length):Mp (A9 M g (g n))/\0<(A9 M g (g n)).length/\(∀e∈(A9 M g (g n)).flatten,e∈M.flatten)/\∀k,k<(A9 M g (g n)).length->ud (A9 M g (g n)) 0 k:=by
 have s:∀{k:Nat},k∈(az M.length).filter (λk=>decide (g k=g n))↔k<M.length/\g k=g n:=λ{k}=>by
  rw[aU,bD,decide_eq_true_iff]
 have sub:(A9 M g (g n)).flatten.Sublist M.flatten:=by
  have:=K17.DY ((dP (p:=λk=>decide (g k=g n)) (l:=az M.length)).map λk=>M.getD k [])
  rwa [rA]at this
 have J:(A9 M g (g n)).length=((az M.length).filter λk=>decide (g k=g n)).length:=lMq _
 have Y:(A9 M g (g n)).length<=M.length:=by
  rw[J];have:=cG (λk=>decide (g k=g n)) (az M.length)
  rwa [aB]at this
 have L:∀{e:Int},e∈M.flatten->g (plc M e)=g n->e∈(A9 M g (g n)).flatten:=λ{e} t q=>by
  obtain⟨O,z⟩:=AO u t;exact mFq.mpr ⟨_,mMq.mpr ⟨plc M e,s.mpr ⟨O,q⟩,rfl⟩,z⟩
 have P:∀{e:Int},e∈(A9 M g (g n)).flatten->g (plc M e)=g n:=λ{e} t=>by
  obtain⟨r,hr,z⟩:=mFq.mp t;obtain⟨k,hk,rfl⟩:=mMq.mp hr;obtain⟨R,k2⟩:=s.mp hk;rw[plc_eq u.hn (qe R) z];exact k2
 have mp:Mp (A9 M g (g n)):=⟨u.hn.sublist sub,by have:=sub.length_le;have:=u.hl;lia,by have:=u.hr;lia,λe t=>L (u.hneg e (sub.subset t)) (by rw[←h.cmp e (sub.subset t)];exact P t)⟩
 have B:∀{j k:Nat},((az M.length).filter λk=>decide (g k=g n))[j]?=some k->(A9 M g (g n))[j]?=some (M.getD k []):=λ{j k} e=>by
  show(gP _ _)[j]?=_;rw[gMq,e];rfl
 have go:∀{i k Q:Nat},((az M.length).filter λk=>decide (g k=g n))[i]?=some k->ud M k Q->∃j,((az M.length).filter λk=>decide (g k=g n))[j]?=some Q/\ud (A9 M g (g n)) i j:=λ{i k Q} hi r=>by
  induction r with
  |base=>exact⟨i,hi,.base⟩
  | @step R row e r1 x t ih=>
   obtain⟨j,E,rj⟩:=ih;have S:e∈M.flatten:=mFq.mpr ⟨row,mGq x,t⟩;have q1:g (plc M (-e))=g n:=by
    rw[←h.cmp e S,plc_eq u.hn x t];exact(s.mp (mGq E)).2
   obtain⟨O,z⟩:=AO u (u.hneg e S);obtain⟨j',G⟩:=ay.mp (s.mpr ⟨O,q1⟩);have H:ud (A9 M g (g n)) i (plc (A9 M g (g n)) (-e)):=.step rj (B E) (by rw[gDq,x];exact t)
   rw[plc_eq mp.hn (B G) z]at H;exact⟨j',G,H⟩
 have pos:0<(A9 M g (g n)).length:=by
  rw[J];exact gi (s.mpr ⟨hk,rfl⟩)
 refine⟨mp,pos,λe t=>sub.subset t,λk I=>?_⟩
 rw[J]at I pos;have U:=gEg pos;have X:=gEg I;have g0:=(s.mp (mGq U)).2;have gk:=(s.mp (mGq X)).2;obtain⟨j,E,r⟩:=go U (h.snd _ _ (g0.trans gk.symm));have nd:((az M.length).filter λk=>decide (g k=g n)).Nodup:=dz.filter _
 have:j=k:=by
  have l1:=(gSq.mp E).1;exact(jk l1 nd).mp (E.trans X.symm)
 rw[←this];exact r
theorem BS{tf:MT}{te:MK}{cap:AS}(p:D×D->Bool)(f:D×D->AV):∀{l:List (D×D)},(∀d∈l,∃n,tf (some (.sh d.1)::some (.sh d.2)::cap)=some (p d,n)/\(p d=true->∃S',te n=some (f d,S')))->uh tf te cap l=some ((l.filter p).map f)
 | [],_=>rfl
 |d::l,h=>by
  obtain⟨n,t,u⟩:=h d (ai ..);have s:=BS (tf:=tf) (te:=te) (cap:=cap) p f (l:=l) λx z=>h x (mCo _ z)
  unfold uh;rw[t,bN];cases c:p d with
  |true=>
   obtain⟨S',B⟩:=u c;rw[pH rfl,B,bN,s,cS c];rfl
  |false=>
   rw[pE (by simp),s,cT (by rw[c];simp)]
def qo(M:Λ)(g:Nat->Int):Ϝ:=(az M.length).map g
def Ld(M:Λ)(P:Ϝ)(v3 v4 v5 v6 v7:Option AV):AS:=[some (.sh (dM M)),some (.owd (qj 0 M)),some (aI P),v3,v4,v5,v6,v7]
def Fi{k:Nat}(h:k<M.length):atI ((qo M g).map D.int) (k:Int)=some (.int (g k)):=uz (by
 unfold qo;rw[gMq,gMq,dh h];rfl)
def ND(t:Mp M){e:Int}(u:e∈M.flatten){v3 v5 v6:Option AV}:ux (Ld M (qo M g) v3 (i3 e) v5 v6 none)=some (.nx (Ld M (qo M (Nl g (g (plc M e)) (g (plc M (-e))))) v3 (i3 e) (i3 (g (plc M e))) (i3 (g (plc M (-e)))) none)):=by
 have E:Z.getD (qj 0 M) (.inl e)=some (.int (plc M e:Int)):=(CP t).kv u;have G:Z.getD (qj 0 M) (.inl (-e))=some (.int (plc M (-e):Int)):=(CP t).kv (t.hneg e u);have H:=Fi (g:=g) (AO t u).1;have I:=Fi (g:=g) (AO t (t.hneg e u)).1;generalize g (plc M e)=l at *;generalize g (plc M (-e))=s at *;have J:rL sJ (kSc (pO E7 (rOf (rY (oW (oX 0) (oW (oX 1) pP)))) (uY Dq (oJ (pO B0 (oI 0) (oI 2)) oS)))) [i3 l,i3 s] ((qo M g).map D.int)=some ((qo M (Nl g l s)).map λn=>.sh (.int n)):=by
  rw[Z.uA (λd=>match d with|.int i=>AV.sh (.int (if i=s then l else i))|_=>.sh .non)]
  .unfold qo;rw[mPq,mPq,mPq];rfl
  .intro d hd;obtain⟨i,hi,rfl⟩:=mMq.mp hd;refine⟨[i3 i,i3 l,i3 s],?_⟩;show _=some (AV.sh (.int (if i=s then l else i)),_)
   by_cases c:i=s
   .have x:decide (i=s)=true:=d0 c;have z:atI [D.int i,D.int l] 1=some (.int l):=uz (j:=1) rfl;rw[pH c]
    simp_arith [x,P2,z]
   .have x:decide (i=s)=false:=d4 c;have B:atI [D.int i,D.int l] 0=some (.int i):=uz (j:=0) rfl;rw[pE c]
    simp_arith [x,P2,B]
 have L:(qo M g).length<=qF:=tJ (by unfold qo;rw[lMq,aB];have:=t.hr;lia)
 unfold Ld
 simp_arith [ux,E,G,H,I,J,L]
def NN(t:Mp M){i:Nat}{r:Ϝ}(hr:M[i]?=some r){E:Ϝ}(h:Sj M E g){v4 v5 v6:Option AV}:∃g' l n s,rF 4 ux (r.map D.int) (Ld M (qo M g) (some (.sh (dI r))) v4 v5 v6 none)=some (.nx (Ld M (qo M g') (some (.sh (dI r))) l n s none))/\Sj M (E++r) g':=by
 have key:=rZ (x:=4) (body:=ux) (λj S=>∃g v4 v5 v6,S=Ld M (qo M g) (some (.sh (dI r))) v4 v5 v6 none/\Sj M (E++r.take j) g) (ds:=r.map D.int) (S:=Ld M (qo M g) (some (.sh (dI r))) v4 v5 v6 none) ⟨g,v4,v5,v6,rfl,by rw[iW,aNq];exact h⟩ (by
  rintro j d S hd ⟨g,v4,v5,v6,rfl,h⟩;rw[gMq]at hd;obtain⟨e,u,rfl⟩:=oMq.mp hd;have G:r.take (j+1)=r.take j++[e]:=by rw[bF,u];rfl
  have z:e∈M.flatten:=mFq.mpr ⟨r,mGq hr,mGq u⟩;refine⟨_,ND t z,_,_,_,_,rfl,?_⟩;rw[G,←aa];exact h.step t z)
 obtain⟨H,e,g',l,n,s,rfl,B⟩:=key;rw[lMq,aE]at B;exact⟨g',l,n,s,e,B⟩
def MC(z:Mp M):∃g v3 v4 v5 v6,rF 3 vF (M.map dI) (Ld M (qo M λk=>(k:Int)) none none none none none)=some (.nx (Ld M (qo M g) v3 v4 v5 v6 none))/\Sj M M.flatten g:=by
 have key:=rZ (x:=3) (body:=vF) (λi S=>∃g v3 v4 v5 v6,S=Ld M (qo M g) v3 v4 v5 v6 none/\Sj M (M.take i).flatten g) (ds:=M.map dI) (S:=Ld M (qo M λk=>(k:Int)) none none none none none) ⟨λk=>(k:Int),none,none,none,none,rfl,⟨λa b q=>by
  have:a=b:=by lia
  rw[this];exact .base,λe B=>by cases B⟩⟩ (by
  rintro i d S hd ⟨g,v3,v4,v5,v6,rfl,h⟩;rw[gMq]at hd;obtain⟨r,hr,rfl⟩:=oMq.mp hd;have E:(M.take (i+1)).flatten=(M.take i).flatten++r:=by rw[bF,hr,fAq];show _++(r++[])=_;rw[aNq]
  obtain⟨t,l,n,s,u,G⟩:=NN z hr h (v4:=v4) (v5:=v5) (v6:=v6);refine⟨Ld M (qo M t) (some (.sh (dI r))) l n s none,?_,t,_,_,_,_,rfl,by rw[E];exact G⟩
  unfold Ld at u ⊢
  simp_arith [vF,u,dI])
 obtain⟨H,e,g,v3,v4,v5,v6,rfl,h⟩:=key;rw[lMq,aE]at h;exact⟨g,v3,v4,v5,v6,e,h⟩
def RU(o:Int):uh (ug (pO B0 (oI 1) (oI 2))) (oX 0) [i3 o] ((M.map dI).zip ((qo M g).map D.int))=some ((A9 M g o).map λr=>.sh (dI r)):=by
 have l:(M.map dI).zip ((qo M g).map D.int)=(az M.length).map λk=>(dI (M.getD k []),D.int (g k)):=by
  have:M.map dI=(az M.length).map λk=>dI (M.getD k []):=by
   conv=>lhs;rw[←rA M]
   rw[mPq];rfl
  rw[this];unfold qo;rw[mPq,List.zip_map'];rfl
 rw[l,BS (λd=>match d.2 with|.int i=>decide (i=o)|_=>false) λd=>.sh d.1]
 .unfold A9;rw[gM,mPq,mPq];rfl
 .intro d hd;obtain⟨k,hk,rfl⟩:=mMq.mp hd;refine⟨[some (.sh (dI (M.getD k []))),i3 (g k),i3 o],?_,λ_=>⟨_,rfl⟩⟩
  show _=some (decide (g k=o),_)
  simp_arith []
def oL(L:List Λ):AV:=.ow (L.map λN=>.ow (N.map λr=>.sh (.list (r.map D.int))))
def Q7(u:Mp M){P:Ϝ}(L:P.length<=1000){x:AV}(n:oP x=dI (qo M g)){v1 v3 v4 v6:Option AV}{v5:Option AV}:∃s l,rF 5 vw (P.map D.int) [some (.sh (dM M)),v1,some x,v3,v4,v5,v6,some (.ow [])]=some (.nx [some (.sh (dM M)),v1,some s,v3,v4,l,v6,some (oL (P.map (A9 M g)))]):=by
 have key:=rZ (x:=5) (body:=vw) (λj S=>∃x v5,S=[some (.sh (dM M)),v1,some x,v3,v4,v5,v6,some (oL ((P.take j).map (A9 M g)))]/\oP x=dI (qo M g)) (ds:=P.map D.int) (S:=[some (.sh (dM M)),v1,some x,v3,v4,v5,v6,some (.ow [])]) ⟨x,v5,rfl,n⟩ (by
  rintro j d S hd ⟨x,v5,rfl,n⟩;rw[gMq]at hd;obtain⟨o,z,rfl⟩:=oMq.mp hd;have B:P.take (j+1)=P.take j++[o]:=by rw[bF,z];rfl
  have E:=RU (M:=M) (g:=g) o;have G:(M.map dI).length=((qo M g).map D.int).length:=by unfold qo;rw[lMq,lMq,lMq,aB]
  have t:M.length=(qo M g).length:=by unfold qo;rw[lMq,aB]
  have H:M.length<=qF:=tJ (by have:=u.hr;lia)
  have lt:=List.length_take_le' j P;have I:(P.take j).length<qF:=by show _<16777216;lia
  refine⟨[some (.sh (dM M)),v1,some (.sh (dI (qo M g))),v3,v4,i3 o,v6,some (oL ((P.take (j+1)).map (A9 M g)))],?_,_,_,rfl,pW _⟩;rw[B,mBq];have J:((P.take j).map (A9 M g)).map (λN=>AV.ow (N.map λr=>.sh (.list (r.map D.int))))++[.ow ((A9 M g o).map λr=>.sh (.list (r.map D.int)))]=((P.take j).map (A9 M g)++[o].map (A9 M g)).map λN=>AV.ow (N.map λr=>.sh (.list (r.map D.int))):=by rw[mBq];rfl
  unfold oL
  simp_arith [vw,La,n,dM,dI,E,G,←t,H,I,J,true_and])
 obtain⟨O,e,s,l,rfl,_⟩:=key;rw[lMq,aE]at e;exact⟨s,l,e⟩
def PM(L:List Λ):oP (oL L) = .list (L.map dM):=by
 unfold oL;rw[qX,mPq];refine congrArg D.list (mCq λN _=>?_)
 show oP (.ow _)=_;rw[qX,mPq];exact congrArg D.list (mCq λr _=>pW _)
theorem K2{α:Type}{a:Int}(x:α):∀{O:Ϝ},a∉O->(O.flatMap λo=>if a=o then [x]else [])=[]
 | [],_=>rfl
 |o::O,h=>by
  rw[bO,pE (λq=>h (by rw[q];exact ai ..)),K2 x λm=>h (mCo _ m)]
  rfl
theorem RO{α:Type}{a:Int}(x:α):∀{O:Ϝ},O.Nodup->a∈O->(O.flatMap λo=>if a=o then [x]else [])=[x]
 | [],_,h=>by cases h
 |o::O,hn,h=>by
  obtain⟨l,n⟩:=ar.mp hn;rw[bO]
  by_cases c:a=o
  .rw[pH c,K2 x (by rw[c];exact l)]
   rfl
  .rw[pE c,RO x n ((ae.mp h).resolve_left c)];rfl
theorem Ru{α β:Type}(f g:α->List β):∀O:List α,(O.flatMap λo=>f o++g o).Perm (O.flatMap f++O.flatMap g)
 | []=>.refl _
 |o::O=>by
  rw[bO,bO,bO,aa,aa];refine aL.append_left _ (((Ru f g O).append_left (g o)).trans ?_);rw[←aa,←aa];exact aT.append_right _
theorem IP{α:Type}(g:α->Int){O:Ϝ}(s:O.Nodup):∀(l:List α),(∀k∈l,g k∈O)->(O.flatMap λo=>l.filter λk=>decide (g k=o)).Perm l
 | [],_=>by
  have:∀O:Ϝ,(O.flatMap λ_=>([]:List α))=[]:=λO=>by
   induction O with
   |nil=>rfl
   |cons o O n=>rw[bO,n];rfl
  simp only[List.filter_nil];rw[this]
 |x::l,h=>by
  have n:=IP g s l λk hk=>h k (mCo _ hk)
  have e:(λo=>(x::l).filter λk=>decide (g k=o))=λo=>(if g x=o then [x]else [])++l.filter λk=>decide (g k=o):=by
   funext o;rw[List.filter_cons]
   by_cases c:g x=o <;> simp[c]
  rw[e];refine(Ru _ _ O).trans ?_;rw[RO x s (h x (ai ..))];exact n.cons x
def RD{O:Ϝ}(l:O.Nodup)(h:∀k,k<M.length->g k∈O):(O.map (A9 M g)).flatten.Perm M:=by
 have p:=(IP g l (az M.length) λk hk=>h k (bD.mp hk)).map λk=>M.getD k []
 have e:(O.map (A9 M g)).flatten=(O.flatMap λo=>(az M.length).filter λk=>decide (g k=o)).map λk=>M.getD k []:=by
  rw[List.map_flatMap,iF];rfl
 rw[e];refine p.trans ?_;rw[rA M]
structure YU (N:Λ):Prop where
 mp:Mp N
 pos:0<N.length
 one:∀k,k<N.length->ud N 0 k
def Po(s:Mp M):∃(x:AV) (L:List Λ),vJ [dM M]=some x/\oP x = .list (L.map dM)/\0<L.length/\L.length<=1000/\(∀N∈L,YU N)/\(L.flatten.Perm M∨L=[[[]]]):=by
 obtain⟨g,Q,R,S,U,z,X⟩:=MC s;have E:=yL s.hn (by have:=s.hl;lia)
 have hr:=s.hr;have G:=zQ (n:=M.length) (by lia)
 have rl:(qg 0 M.length).length<=qF:=tJ (by rw[pY];lia)
 have H:(qo M g).length=M.length:=by unfold qo;rw[lMq,aB]
 have lD:(qQ (Ms.dd (qo M g))).length<=M.length:=by
  rw[(qT _).length_eq];have:=Ms.KM (qo M g);lia
 obtain⟨x',Y,u⟩:=Q7 s (g:=g) (P:=qQ (Ms.dd (qo M g))) (by lia) (x:=aI (qo M g)) (pJ _) (v1:=some (.owd (qj 0 M))) (v3:=Q) (v4:=R) (v5:=S) (v6:=U)
 have I:(qo M g).length<=4000:=by lia
 have t:M.length<=4000:=by lia
 have J:(qg 0 M.length).map AV.sh=(qo M λk=>(k:Int)).map λn=>.sh (.int n):=by
  rw[zt];unfold qo;rw[mPq,mPq];rfl
 unfold Ld at z;have O:(qg 0 M.length).length=M.length:=pY 0 M.length;have la:M.length<=qF:=tJ (by lia)
 by_cases c:(qQ (Ms.dd (qo M g))).map (A9 M g)=[]
 .refine⟨.ow [.ow [.ow []]],[[[]]],?_,rfl,by simp,by simp,λN B=>?_,.inr rfl⟩
  .rw[c]at u
   simp_arith [vJ,AG,E,dM,G,GB,J,O,la,z,OS,I,t,H,u,VP,oL]
   rfl
  .rw[mSq.mp B];exact⟨⟨by simp,by simp,by simp,by simp⟩,by simp,λk hk=>by
    have:k=0:=by simpa using hk
    rw[this];exact .base⟩
 .refine⟨oL ((qQ (Ms.dd (qo M g))).map (A9 M g)),_,?_,PM _,eU.mpr c,by rw[lMq];lia,λN B=>?_,.inl (RD ((qT _).nodup_iff.mpr (Ms.Y4 _)) λk hk=>(qT _).mem_iff.mpr (Ms.QA.mpr (mMq.mpr ⟨k,bD.mpr hk,rfl⟩)))⟩
  .generalize (qQ (Ms.dd (qo M g))).map (A9 M g)=L at u c;have ne:(L.map λN=>AV.ow (N.map λr=>.sh (.list (r.map D.int)))).isEmpty=false:=by
    cases L with
    |nil=>exact absurd rfl c
    |cons a l=>rfl
   simp_arith [vJ,AG,E,dM,G,GB,J,O,la,z,OS,I,t,H,u,VP,oL,ne]
  .obtain⟨o,ho,rfl⟩:=mMq.mp B;obtain⟨k,hk,rfl⟩:=mMq.mp (Ms.QA.mp ((qT _).mem_iff.mp ho));obtain⟨p1,p2,_,p4⟩:=YA s X (bD.mp hk);exact⟨p1,p2,p4⟩
end
end K52
namespace K54
open PySem L2 Mr Z Xe Zl
open K15 (nx fw uL yg Rd L9 kI kI_get kI_new kI_len Cr DB)
def mu6(N:Nat):AS->Nat
 | [_,_,some (.owd kvs),_,_,_]=>N+1-kvs.length
 |_=>0
section
variable {rs:Λ}
def OA(z:Mp rs){kn:Ϝ}{H:Λ}(hr:Rd (fw rs) rs.flatten kn H){e:Int}(u:e∈rs.flatten)(I:e∉kn){v0 v3 v4:Option AV}:∃l v5,Cy (fw rs) e l/\rz (ug (rR (oI 5) (oI 2))) tu 100000 [v0,some (.sh (.fd (K51.vm (K51.pU rs)))),some (.owd (kI kn)),v3,v4,i3 e]=some (.nx [v0,some (.sh (.fd (K51.vm (K51.pU rs)))),some (.owd (kI (kn++l))),v3,v4,v5]):=by
 have one:=uL z;obtain⟨l,cy,J,E⟩:=one.cy u;have hl:=z.hl;have L:=Oa _ _ hr.nd hr.sub;have M:=hr.out cy I;have B:∀n,Z.getD (K51.vm (K51.pU rs)) (.inl (-(itr (fw rs) n e)))=some (.int (itr (fw rs) (n+1) e)):=λn=>yg z.hn (z.hneg _ (one.itr_mem u n))
 have key:=ur (c:=ug (rR (oI 5) (oI 2))) (body:=tu) (λS=>∃n,n<=l.length/\S=[v0,some (.sh (.fd (K51.vm (K51.pU rs)))),some (.owd (kI (kn++l.take n))),v3,v4,i3 (itr (fw rs) n e)]) (mu6 (kn.length+l.length)) (λS=>∃v5,S=[v0,some (.sh (.fd (K51.vm (K51.pU rs)))),some (.owd (kI (kn++l))),v3,v4,v5]) (by
  rintro S ⟨n,R,rfl⟩;have x:=kI_get (kn++l.take n) (itr (fw rs) n e)
  by_cases hn:n<l.length
  .have t:=cy.at hn;have s:itr (fw rs) n e∉kn++l.take n:=λm=>by
    rcases mAq.mp m with q|q
    .exact M _ (mGq t) q
    .have:=bq.sublist (bE (n+1) l) cy.nd;rw[qf t]at this;exact(nAq.mp this).2.2 _ q _ (by simp) rfl
   rw[d4 s]at x;have G:=kI_new s;rw[aa,←qf t]at G;have hs:=B n;have O:(kI (kn++l.take n)).length<qF:=by rw[kI_len,lAq,lTq];show _<16777216;lia
   refine⟨true,[v0,some (.sh (.fd (K51.vm (K51.pU rs)))),some (.owd (kI (kn++l.take n))),v3,v4,i3 (itr (fw rs) n e)],?_,λ_=>⟨[v0,some (.sh (.fd (K51.vm (K51.pU rs)))),some (.owd (kI (kn++l.take (n+1)))),v3,v4,i3 (itr (fw rs) (n+1) e)],?_,⟨n+1,by lia,rfl⟩,?_⟩,λq=>(nomatch q)⟩
   .simp_arith [x]
   .simp_arith [tu,O,G,hs]
   .show kn.length+l.length+1-_<kn.length+l.length+1-_;simp only[kI_len,lAq,lTq];lia
  .have P:n=l.length:=by lia
   subst P;have hb:=cy.back;rw[hb,aE]at x ⊢;rw[d0 (mAq.mpr (.inr cy.self))]at x;refine⟨false,[v0,some (.sh (.fd (K51.vm (K51.pU rs)))),some (.owd (kI (kn++l))),v3,v4,i3 e],?_,λq=>(nomatch q),λ_=>⟨_,rfl⟩⟩
   simp_arith [x])
 obtain⟨U,Q,v5,rfl⟩:=key 100000 [v0,some (.sh (.fd (K51.vm (K51.pU rs)))),some (.owd (kI kn)),v3,v4,i3 e] ⟨0,bx _,by simp[itr]⟩ (by
  show kn.length+l.length+1-_<100000;lia)
 exact⟨l,v5,cy,Q⟩
def lands_loop(I:Mp rs)(b:Nat):∃v2 v4 v5 L,rF 4 uw (rs.flatten.map D.int) [some (.sh (dM rs)),some (.sh (.fd (K51.vm (K51.pU rs)))),some (.owd []),i3 (b:Int),none,none]=some (.nx [some (.sh (dM rs)),some (.sh (.fd (K51.vm (K51.pU rs)))),v2,i3 ((b:Int)+(L.length:Int)),v4,v5])/\CW (fw rs) rs.flatten L:=by
 have one:=uL I;have key:=rZ (x:=4) (body:=uw) (λi S=>∃kn L v4 v5,S=[some (.sh (dM rs)),some (.sh (.fd (K51.vm (K51.pU rs)))),some (.owd (kI kn)),i3 ((b:Int)+(L.length:Int)),v4,v5]/\Rd (fw rs) rs.flatten kn L/\∀j x,j<i->rs.flatten[j]?=some x->x∈kn) (ds:=rs.flatten.map D.int) (S:=[some (.sh (dM rs)),some (.sh (.fd (K51.vm (K51.pU rs)))),some (.owd []),i3 (b:Int),none,none]) ⟨[],[],none,none,by simp[kI],⟨by simp,rfl,bw,by simp,by simp⟩,λj x h=>absurd h (cW _)⟩ (by
  rintro i d S hd ⟨kn,L,v4,v5,rfl,hr,n⟩;rw[gMq]at hd;obtain⟨e,B,rfl⟩:=oMq.mp hd;have u:e∈rs.flatten:=mGq B;have z:=kI_get kn e
  by_cases c:e∈kn
  .rw[d0 c]at z;refine⟨[some (.sh (dM rs)),some (.sh (.fd (K51.vm (K51.pU rs)))),some (.owd (kI kn)),i3 ((b:Int)+(L.length:Int)),i3 e,i3 e],?_,kn,L,_,_,rfl,hr,λj x t s=>?_⟩
   .have E:rz (ug (rR (oI 5) (oI 2))) tu 100000 [some (.sh (dM rs)),some (.sh (.fd (K51.vm (K51.pU rs)))),some (.owd (kI kn)),i3 ((b:Int)+(L.length:Int)),i3 e,i3 e]=some (.nx [some (.sh (dM rs)),some (.sh (.fd (K51.vm (K51.pU rs)))),some (.owd (kI kn)),i3 ((b:Int)+(L.length:Int)),i3 e,i3 e]):=by
     obtain⟨J,M,O⟩:=ur (c:=ug (rR (oI 5) (oI 2))) (body:=tu) (λS=>S=[some (.sh (dM rs)),some (.sh (.fd (K51.vm (K51.pU rs)))),some (.owd (kI kn)),i3 ((b:Int)+(L.length:Int)),i3 e,i3 e]) (λ_=>0) (λS=>S=[some (.sh (dM rs)),some (.sh (.fd (K51.vm (K51.pU rs)))),some (.owd (kI kn)),i3 ((b:Int)+(L.length:Int)),i3 e,i3 e]) (by
      rintro S rfl;refine⟨false,_,?_,λq=>(nomatch q),λ_=>rfl⟩
      simp_arith [z]) 100000 _ rfl (by decide)
     rw[M,O]
    simp_arith [uw,z,E]
   .rcases cI.mp t with q|rfl
    .exact n j x q s
    .rw[B]at s;cases s;exact c
  .rw[d4 c]at z;have P:(b:Int)+(L.length:Int)+1=(b:Int)+((L.length+1:Nat):Int):=by lia
   obtain⟨l,G,cy,E⟩:=OA I hr u c (v0:=some (.sh (dM rs))) (v3:=i3 ((b:Int)+((L.length+1:Nat):Int))) (v4:=i3 e);have H:=hr.add one cy u c;have Q:(L++[l]).length=L.length+1:=by rw[lAq,lSq]
   refine⟨[some (.sh (dM rs)),some (.sh (.fd (K51.vm (K51.pU rs)))),some (.owd (kI (kn++l))),i3 ((b:Int)+((L++[l]).length:Int)),i3 e,G],?_,kn++l,L++[l],_,_,rfl,H,λj x t s=>?_⟩
   .rw[Q]
    simp_arith [uw,z,P,E]
   .rcases cI.mp t with q|rfl
    .exact mAq.mpr (.inl (n j x q s))
    .rw[B]at s;cases s;exact mAq.mpr (.inr cy.self))
 obtain⟨J,e,kn,L,v4,v5,rfl,hr,n⟩:=key;refine⟨_,_,_,L,e,hr.orb λx s=>?_⟩
 obtain⟨j,t⟩:=ay.mp s;exact n j x (by rw[lMq];exact(gSq.mp t).1) t
def Nc(rs:Λ):rL (yP (AL (oI 0))) (oX 0) [] (rs.map dI)=some ((rs.filter λr=>decide (r=[])).map λr=>.sh (dI r)):=by
 rw[Z.wM (λd=>decide (A4 d=[])) (λd=>.sh d)]
 .rw[gM,mPq];have:(λd=>decide (A4 d=[]))∘dI=λr=>decide (r=[]):=by funext r;show decide (A4 (dI r)=[])=_;rw[vz]
  rw[this];rfl
 .intro d hd;obtain⟨r,hr,rfl⟩:=DF hd;rw[vz];refine⟨[some (.sh (dI r))],?_,λ_=>⟨[some (.sh (dI r))],?_⟩⟩
  .cases r with
   |nil=>
    have t0:Cm (dI [])=some false:=rfl
    simp_arith [t0]
   |cons x r=>
    have l:Cm (dI (x::r))=some true:=rfl
    simp_arith [l]
  .simp_arith []
def S8(l:Mp rs){N:Λ}(t:K15.wZ [dM rs]=some (.ow (N.map aI))):zN [dM rs]=i3 (N.length:Int):=by
 obtain⟨G,u,s⟩:=DB l;rw[t]at s;have q:=K17.Yo (AV.ow.inj (aO.inj s));have x:=Nc rs;have z:=K52.Nh l;have B:=L9 rs;have n:((4:Nat)≠1)=True:=by simp
 obtain⟨H,I,J,L,e,o⟩:=lands_loop l (rs.filter λr=>decide (r=[])).length
 have p:=(CW.perm (uL l) o u).length_eq;rw[lMq,lMq]at p;have E:((rs.filter λr=>decide (r=[])).length:Int)+(L.length:Int)=(N.length:Int):=by
  rw[q,vR,lMq,lAq];unfold Cr;rw[lMq];lia
 rw[E]at e;have lr:rs.length<=qF:=tJ (by have:=l.hr;lia)
 simp_arith [zN,EB,z,dM,x,lr,n,B,e]
end
section
variable {P:List Λ}
def oR(rs:Λ):AV:=.ow (rs.map λr=>.sh (dI r))
def BE(rs:Λ):oP (oR rs)=dM rs:=by
 unfold oR;rw[qX,mPq];exact congrArg D.list (mCq λr _=>pW _)
def NO(hl:P.flatten.length<=1000):yE [.list (P.map dM)]=some (oR (xS P.flatten)):=by
 have key:=rZ (x:=2) (body:=xy) (λi S=>∃l,S=[i4 (P.map dM),some (oR (P.take i).flatten),l]) (ds:=P.map dM) (S:=[i4 (P.map dM),some (.ow []),none]) ⟨none,rfl⟩ (by
  rintro i d S hd ⟨l,rfl⟩;rw[gMq]at hd;obtain⟨N,s,rfl⟩:=oMq.mp hd;have t:(P.take (i+1)).flatten.length<=P.flatten.length:=by
   have:=congrArg (λz=>z.flatten.length) (aS (i+1) P)
   simp only[fAq,lAq]at this;lia
  have n:(P.take (i+1)).flatten=(P.take i).flatten++N:=by rw[qf s,fAq,bB]
  rw[n,lAq]at t;have u:(P.take i).flatten.length+N.length<=qF:=tJ (by lia)
  have B:(P.take i).flatten.map (λr=>AV.sh (dI r))++N.map (λr=>.sh (dI r))=((P.take i).flatten++N).map λr=>.sh (dI r):=by rw[mBq]
  refine⟨_,?_,some (.sh (dM N)),rfl⟩;rw[n];unfold oR dM
  simp_arith [xy,u,B])
 obtain⟨H,e,l,rfl⟩:=key;rw[lMq,aE]at e;have E:=EC P.flatten;have G:(P.flatten.map λr=>AV.sh (dI r)).map oP=P.flatten.map dI:=by rw[mPq];exact mCq λr _=>pW _
 unfold oR at e ⊢
 simp_arith [yE,CG,e,G,E]
def OW(rs:Λ):rL sJ (kSc (uY rH (oJ (oI 0) oS))) [] (rs.map dI)=some ((rs.map λr=>(r.length:Int)).map λn=>.sh (.int n)):=by
 rw[Z.uA (λd=>.sh (.int ((A4 d).length:Int)))]
 .rw[mPq,mPq];refine congrArg some (mCq λr _=>?_)
  show AV.sh (.int ((A4 (dI r)).length:Int))=_;rw[vz];rfl
 .intro d hd;obtain⟨r,hr,rfl⟩:=DF hd;rw[vz];refine⟨[some (.sh (dI r))],?_⟩
  simp_arith [dI]
theorem Lx:∀rs:Λ,(rs.map λr=>(r.length:Int)).sum=(rs.flatten.length:Int)
 | []=>rfl
 |r::rs=>by
  rw[au,jD,Lx rs,fCq,lAq];lia
def Qp(l:P.flatten.length<=140)(s:P.flatten.flatten.length<=134)(mp:Mp (xS P.flatten)){N:Λ}(x:K15.wZ [dM (xS P.flatten)]=some (.ow (N.map aI))):qD [.list (P.map dM)]=i3 (2*(P.length:Int)-((xS P.flatten).length:Int)+((xS P.flatten).flatten.length:Int) / 2-(N.length:Int)):=by
 have t:=NO (P:=P) (by lia)
 have la:=S8 mp x;have fl:(xS P.flatten).flatten.length<=134:=by rw[(qz (sk P.flatten)).length_eq];exact s
 have z:(xS P.flatten).length<=140:=by rw[vR];exact l
 generalize xS P.flatten=M at t mp la fl z;have lc:=OW M;have so:KW (M.map λr=>(r.length:Int)):=⟨λn hn=>by
  obtain⟨r,hr,rfl⟩:=mMq.mp hn;have:=(bh hr).length_le;constructor <;> lia,by rw[lMq];lia⟩
 have B:=Lx M;have E:=rB (M.map λr=>(r.length:Int))
 have G:M.length<=qF:=tJ (by lia)
 have mu:∀i:Int,xD (.int 2) (.int i)=some (.int (2*i)):=λi=>Jp (by decide) (by decide)
 have H:=λi:Int=>yM (i:=i) (j:=2) (by decide) (by decide)
 have I:=BE M;have u:((M.map λr=>(r.length:Int)).map λn=>AV.sh (.int n)).map oP=(M.map λr=>(r.length:Int)).map D.int:=by rw[mPq];exact mCq λr _=>pW _
 have fs:Ui [.list ((M.map λr=>(r.length:Int)).map D.int)]=some (.int (M.flatten.length:Int)):=by
  show(qJ _).bind _=_;rw[E,bN,eq_true so,vU,B]
 generalize (M.map λr=>(r.length:Int))=J at lc u fs
 simp_arith [qD,wj,t,I,dM,lc,G,u,fs,mu,H,la]
end
end K54
namespace K52
open PySem L2 Mr Z Xe Zl
open K31 (Bh Pj Wd Tr CK Ef Eg)
open K12 (cN Em Lu OR FX wN Cf De)
def W9:Θ->MS:=(IG 3 (AL (oI 1)) (GS 3 (Du 10 (T4 xD (Ax 1) (pO Ci (rC (.int 1)) (pO xD (rC (.int 2)) (pO uo (pO Bc (oI 6) (rC (.int 7))) (rC (.int 2))))))) (λpath=>oQ ((LC 3 (oX 10)) path) (A5 (ug (pO A8 (oI 7) (rC (.int 2)))) (oQ (vC 4 (kSc (uY rH (oJ (oI 3) oS)))) (vC 3 (rY (oW (kSc (Jq yT (oI 10))) pP)))) (vC 5 (oX 10))))) (λ_=>rG))
def Ov:Θ->MS:=(IG 3 (Dv (ug (pO A8 (rC (.int 4)) (oI 7))) (AL (oI 5))) (GS 3 (oY 9 (kSc (pO Ci (uY rH (oJ (oI 5) oS)) (rC (.int 1))))) (GS 3 (A5 (ug (oI 2)) (oY 9 (kSc (pO uo (pO Bc (oI 6) (rC (.int 7))) (uY rH (oJ (oI 5) oS))))) rG) (GR 3 (QY yT (BK 5 (oI 9)))))) (IG 3 (Dv (ug (MM A8 A8 (rC (.int 1)) (oI 7) (rC (.int 4)))) (ug (pO Oq (uY rH (oJ (oI 4) oS)) (rC (.int 1))))) (λ_=>(GJ (Ax 4))) W9))
def QO:rS=(oQ (oY 7 (kSc (pO uo (oI 6) (rC (.int 7))))) (Tj 8 3 (Zb 3 (Qs 3) (pO E7 (oI 4) (Jq yT (rC (.int 1))))) Ov)):=rfl
def xi(v0:Option AV)(b:Bool)(T:Λ)(t0:Θ)(h:Nat)(op rd:Ϝ)(v6 v7 v8 v9 v10:Option AV):AS:=[v0,some (aI rd),i5 b,some (.ow (T.map aI)),some (aI (cN (t0++[h]))),some (aI op),v6,v7,v8,v9,v10]
section
variable {T:Λ}{t0:Θ}{h:Nat}{op rd r:Ϝ}{c k:Int}{b:Bool}{v0 v7 v8 v9 v10:Option AV}
def Pb:Cm (.list [])=some false:=rfl
def Ss(u:Ϝ)(y:Int):Cm (.list ((u++[y]).map D.int))=some true:=by cases u <;> rfl
def aa4{u:Ϝ}(h:u≠[]):Cm (.list (u.map D.int))=some true:=by
 cases u with
 |nil=>exact absurd rfl h
 |cons a l=>rfl
def X2(hr:T[h]?=some r):rS (xi v0 b T t0 h op rd (i3 c) v7 v8 v9 v10)=Ov [h] (xi v0 b T t0 h op rd (i3 c) (i3 (c % 7)) none v9 v10):=by
 have hh:h<T.length:=(gSq.mp hr).1;have n:=Bh hr;have s:Ih T.length (h:Int)=some h:=Lg hh;have t:=pJ (cN (t0++[h]));have l:atI ((cN (t0++[h])).map D.int) (-1)=some (.int (h:Int)):=by
  unfold K12.cN;rw[mBq,mBq];exact HK _ _
 have u:=sv (i:=c) (j:=7) (by decide)
 have q:((8:Nat)≠3/\8<11)=True:=by simp
 rw[QO]
 simp_arith [xi,u,n,s,t,dI,l,q]
def Fp(b:Bool)(c:Int)(op:Ϝ):Nat:=if b then (c / 7 % op.length).toNat else op.length-1
def Hs(c x:Int):Int:=x*(1-2*(c / 7 % 2))
def Pr(l:op≠[]):Fp b c op<op.length:=by
 have n:0<op.length:=eU.mpr l;unfold Fp;have s:0<=c / 7 % (op.length:Int):=bJ _ (by lia)
 have b1:c / 7 % (op.length:Int)<(op.length:Int):=bH _ (by lia)
 split <;> lia
def Yj(hr:T[h]?=some r)(M:r.length<500000)(O:op.length<500000)(hk:4<k)(l:op≠[]):∃t,Ov [h] (xi v0 b T t0 h op rd (i3 c) (i3 k) v8 v9 v10)=some (.nx (xi v0 b (T.set h (r++[-(op.getD (Fp b c op) 0)])) t0 h (op.eraseIdx (Fp b c op)) rd (i3 c) (i3 k) v8 t v10)):=by
 have x:0<op.length:=eU.mpr l;have P:=yM (i:=c) (j:=7) (by decide) (by decide)
 have Q:=sv (i:=c / 7) (j:=(op.length:Int)) (by lia)
 have z:=Bh hr;have B:r.length<qF:=by show _<16777216;lia
 have E:=pJ op;have G:decide (4<k)=true:=d0 hk;have tr:=aa4 l;have s:=Pr (b:=b) (c:=c) l;have R:op.length<=qF:=by show _<=16777216;lia
 have H:(op.map λn=>AV.sh (.int n))[Fp b c op]?=i3 (op.getD (Fp b c op) 0):=by
  rw[gMq,gEg s,gDq,gEg s];rfl
 have g2:(op.map λn=>AV.sh (.int n)).eraseIdx (Fp b c op)=(op.eraseIdx (Fp b c op)).map λn=>.sh (.int n):=FX _ _ _
 have I:=Pj (r':=r++[-(op.getD (Fp b c op) 0)]) hr;have J:=Em r (-(op.getD (Fp b c op) 0));have q:(0<=((Fp b c op:Nat):Int)/\((Fp b c op:Nat):Int)<(op.length:Int)/\op.length<=qF)=True:=by simp[R,s]
 have L:((Fp b c op:Nat):Int).toNat=Fp b c op:=bA _;refine⟨i3 (Fp b c op:Nat),?_⟩;cases b with
 |true=>
  have u:c / 7 % (op.length:Int)=((Fp true c op:Nat):Int):=by
   have S:0<=c / 7 % (op.length:Int):=bJ _ (by lia)
   show _=(((c / 7 % (op.length:Int)).toNat:Nat):Int);lia
  simp_arith [Ov,xi,G,tr,z,E,dI,P,Q,u,q,L,H,g2,B,J,I,true_and,Oz]
 |false=>
  have u:(op.length:Int)-1=((Fp false c op:Nat):Int):=by
   show _=((op.length-1:Nat):Int);lia
  simp_arith [Ov,xi,G,tr,z,E,dI,u,q,L,H,g2,B,J,I,true_and,Oz]
def YL{t:Θ}{h':Nat}(hr:T[h]?=some r)(l:1<k)(s:k<4):Ov [h] (xi v0 b T (t++[h']) h op rd (i3 c) (i3 k) v8 v9 v10)=some (.nx (xi v0 b T t h' op rd (i3 c) (i3 k) v8 v9 v10)):=by
 have u:=Bh hr;have x:=pJ (cN (t++[h']++[h]));have cl:=Eg (t++[h']++[h]);have z:(1:Int)<((t++[h']++[h]).length:Int):=by simp;lia
 have B:decide (4<k)=false:=d4 (by lia)
 have E:decide (1<k)=true:=d0 l;have G:decide (k<4)=true:=d0 s;have H:(cN (t++[h']++[h])).map (λn=>AV.sh (.int n))=(cN (t++[h'])).map (λn=>AV.sh (.int n))++[.sh (.int (h:Int))]:=(OR (t++[h']) h).symm
 have I:((cN (t++[h'])).map (λn=>AV.sh (.int n))++[AV.sh (.int (h:Int))])[((cN (t++[h'])).map (λn=>AV.sh (.int n))++[AV.sh (.int (h:Int))]).length-1]?=i3 (h:Int):=by
  rw[lAq,lSq,gYq (by lia)]
  simp
 have J:((cN (t++[h'])).map (λn=>AV.sh (.int n))++[AV.sh (.int (h:Int))]).dropLast=(cN (t++[h'])).map (λn=>AV.sh (.int n)):=eQ
 simp_arith [Ov,xi,B,FI,E,G,u,x,dI,cl,z,eq_self,H,I,J]
def U5(hr:T[h]?=some r)(I:¬ (4<k/\op≠[]))(J:¬ ((1<k/\k<4)/\t0≠[])):Ov [h] (xi v0 b T t0 h op rd (i3 c) (i3 k) v8 v9 v10)=W9 [h] (xi v0 b T t0 h op rd (i3 c) (i3 k) v8 v9 v10):=by
 have t:=Bh hr;have u:=pJ op;have x:=pJ (cN (t0++[h]));have cl:=Eg (t0++[h]);have L:1<k/\k<4->decide ((1:Int)<((t0++[h]).length:Int))=false:=λhh=>by
  by_cases hn:t0=[]
  .subst hn;simp
  .exact absurd ⟨hh,hn⟩ J
 by_cases B:4<k
 .have M:op=[]:=iA λz=>I ⟨B,z⟩
  subst M;have n:decide (4<k)=true:=d0 B;have l:decide (1<k)=true:=d0 (by lia)
  have s:decide (k<4)=false:=d4 (by lia)
  simp_arith [Ov,xi,n,Pb,FI,l,s,t,u,x,cl,dI]
 .have n:decide (4<k)=false:=d4 B
  by_cases E:1<k
  .have l:decide (1<k)=true:=d0 E
   by_cases G:k<4
   .have s:decide (k<4)=true:=d0 G;have H:=L ⟨E,G⟩
    simp_arith [Ov,xi,n,FI,l,s,t,u,x,cl,dI,H]
   .have s:decide (k<4)=false:=d4 G
    simp_arith [Ov,xi,n,FI,l,s,t,u,x,cl,dI]
  .have l:decide (1<k)=false:=d4 E
   simp_arith [Ov,xi,n,FI,l,t,u,x,cl,dI]
def Ym(hr:T[h]?=some r):W9 [h] (xi v0 b T t0 h op [] (i3 c) (i3 k) v8 v9 v10)=some (.nx (xi v0 b T t0 h op [] (i3 c) (i3 k) v8 v9 v10)):=by
 have l:=Bh hr;have n:=pJ []
 simp_arith [W9,xi,l,n,dI,Pb]
def WX{x:Int}(hr:T[h]?=some r)(L:r.length<500000)(M:T.length<500000)(O:t0.length<500000)(P:op.length<500000):W9 [h] (xi v0 b T t0 h op (rd++[x]) (i3 c) (i3 k) v8 v9 v10)=some (.nx (if k<2 then xi v0 b (T.set h (r++[Hs c x])++[[-(Hs c x)]]) (t0++[h]) T.length op rd (i3 c) (i3 k) v8 v9 (i3 (Hs c x))else xi v0 b (T.set h (r++[Hs c x])) t0 h (op++[Hs c x]) rd (i3 c) (i3 k) v8 v9 (i3 (Hs c x)))):=by
 have s:=yM (i:=c) (j:=7) (by decide) (by decide)
 have t:=sv (i:=c / 7) (j:=2) (by decide)
 have X:0<=c / 7 % 2:=bJ _ (by decide)
 have b1:c / 7 % 2<2:=bH _ (by decide)
 have u:=Jp (i:=2) (j:=c / 7 % 2) (by lia) (by lia)
 have z:=Vo (i:=x) (j:=1-2*(c / 7 % 2)) (by lia) (by lia)
 have B:=Bh hr;have E:=pJ (rd++[x]);have tr:=Ss rd x;have G:r.length<qF:=by show _<16777216;lia
 have H:x*(1-2*(c / 7 % 2))=Hs c x:=rfl;have I:=Em r (Hs c x);have J:=Pj (r':=r++[Hs c x]) hr;have lT:(T.set h (r++[Hs c x])).length=T.length:=lZq;have Q:T.length<qF:=by show _<16777216;lia
 have R:=Lu (T.set h (r++[Hs c x])) (-(Hs c x));have lw:(t0++[h]).length<qF:=by rw[lAq,lSq];show t0.length+1<16777216;lia
 have lo:op.length<qF:=by show _<16777216;lia
 have S:=OR (t0++[h]) T.length;have U:op.map (λn=>AV.sh (.int n))++[.sh (.int (Hs c x))]=(op++[Hs c x]).map λn=>.sh (.int n):=by rw[mBq];rfl
 have cl:=Eg (t0++[h]);have la:((rd++[x]).map λn=>AV.sh (.int n))[(rd++[x]).length-1]?=i3 x:=by rw[lAq,lSq,fj,mBq,gYq (by rw[lMq];exact af _),lMq,cR];rfl
 have ld:((rd++[x]).map λn=>AV.sh (.int n)).dropLast=rd.map λn=>.sh (.int n):=by rw[mBq];exact eQ
 by_cases e:k<2
 .have l:decide (k<2)=true:=d0 e;rw[pH e]
  simp_arith [W9,xi,l,s,t,u,z,B,E,dI,tr,la,ld,H,G,I,J,lT,Q,R,cl,lw,S]
 .have l:decide (k<2)=false:=d4 e;rw[pE e]
  simp_arith [W9,xi,l,s,t,u,z,B,E,dI,tr,la,ld,H,G,I,J,lT,lo,U]
abbrev wd(T:Λ)(t0:Θ)(h:Nat)(op rd:Ϝ):Wd:=⟨T,t0,h,op.map λz=>-z,rd⟩
def KY(a c x:Int):[Hs c x].count a+[-(Hs c x)].count a=[x, -x].count a:=by
 have l:0<=c / 7 % 2:=bJ _ (by decide)
 have b1:c / 7 % 2<2:=bH _ (by decide)
 rw[show[x, -x]=[x]++[-x]from rfl,cAq]
 unfold Hs;have h:c / 7 % 2=0∨c / 7 % 2=1:=by lia
 rcases h with h|h
 .rw[h,show(1:Int)-2*0=1 from rfl,iP]
 .rw[h,show(1:Int)-2*1 = -1 from rfl,Int.mul_neg,iP,aM]
  lia
def Qb(x:Int)(l:Ϝ)(a:Int):(CK (l++[x])).count a=(CK l).count a+[x, -x].count a:=by
 unfold K31.CK;rw[fK,cAq];rfl
def Ny{nm:Ϝ}{n:Nat}(w:Tr nm (wd T t0 h op rd) n)(hn:n<1000)(X:nm.length<=1000):∃R E h' G s M O H I,rS (xi v0 b T t0 h op rd (i3 c) v7 v8 v9 v10)=some (.nx (xi v0 b R E h' G s (i3 c) M O H I))/\Tr nm (wd R E h' G s) (n+1)/\s.Sublist rd:=by
 have u:=w.len;obtain⟨hh,ht,lw,lT,lf,cnt,tr⟩:=w;simp only at hh ht lw lT lf cnt tr u;have hr:T[h]?=some (T.getD h []):=by rw[gDq,gEg hh];rfl
 have P:=De hr;generalize T.getD h []=r at hr P;have lo:op.length<=2000:=by rw[lMq]at u;lia
 rw[X2 hr]
 by_cases J:4<c % 7/\op≠[]
 .obtain⟨H,e⟩:=Yj (b:=b) (v0:=v0) (t0:=t0) (rd:=rd) (c:=c) (v8:=none) (v9:=v9) (v10:=v10) hr (by lia) (by lia) J.1 J.2
  refine⟨_,_,_,_,_,_,_,_,_,e,⟨?_,?_,?_,?_,lf,λa=>?_,?_⟩,cD.refl _⟩
  .simp only[lZq];exact hh
  .simp only[lZq];exact ht
  .simp only;lia
  .simp only[lZq];lia
  .simp only;have B:=Pr (b:=b) (c:=c) J.2;have Q:=Cf a (l:=op.map λz=>-z) (j:=Fp b c op) (by rw[lMq];exact B)
   rw[FX]at Q;have U:(op.map λz=>-z).getD (Fp b c op) 0 = -(op.getD (Fp b c op) 0):=by
    rw[gDq,gMq,gEg B,gDq,gEg B];rfl
   rw[U]at Q;rw[wN a hr,←cnt a,←Q];lia
  .exact tr.set hr
 .by_cases L:(1<c % 7/\c % 7<4)/\t0≠[]
  .rcases dZ t0 with z|⟨t,h',z⟩
   .exact absurd z L.2
   .rw[eD]at z;subst z;rw[lAq,lSq]at lw;exact⟨_,_,_,_,_,_,_,_,_,YL hr L.1.1 L.1.2,⟨ht _ (by simp),λk hk=>ht k (by simp[hk]),(by simp only;lia),(by simp only;lia),lf,cnt,tr⟩,cD.refl _⟩
  .rw[U5 hr J L];rcases dZ rd with z|⟨s,x,z⟩
   .subst z;exact⟨_,_,_,_,_,_,_,_,_,Ym hr,⟨hh,ht,(by simp only;lia),(by simp only;lia),lf,cnt,tr⟩,cD.refl _⟩
   .rw[eD]at z;subst z;rw[lAq,lSq]at lf;have S:=λa=>Qb x s a
    rw[WX hr (by lia) (by lia) (by lia) (by lia)]
    by_cases e:c % 7<2
    .rw[pH e];refine⟨_,_,_,_,_,_,_,_,_,rfl,⟨?_,?_,?_,?_,(by simp only;lia),λa=>?_,?_⟩,fO _ _⟩
     .simp only[lAq,lZq,lSq];lia
     .intro k hk;simp only[lAq,lZq,lSq]at hk ⊢;rcases mAq.mp hk with hk|hk
      .have:=ht k hk;lia
      .rw[mSq.mp hk];lia
     .simp only[lAq,lSq];lia
     .simp only[lAq,lZq,lSq];lia
     .simp only;rw[fAq,bB,cAq,wN a hr];have:=cnt a;rw[S a,←KY a c x]at this;lia
     .exact(tr.set hr).add (by rw[lZq];exact hh) (K11.Ha hr (by simp))
    .rw[pE e];refine⟨_,_,_,_,_,_,_,_,_,rfl,⟨?_,?_,?_,?_,(by simp only;lia),λa=>?_,?_⟩,fO _ _⟩
     .simp only[lZq];exact hh
     .simp only[lZq];exact ht
     .simp only;lia
     .simp only[lZq];lia
     .simp only;rw[wN a hr,mBq,cAq];have:=cnt a;rw[S a,←KY a c x]at this;show _+(_+[-(Hs c x)].count a)+_=_;lia
     .exact tr.set hr
def JF{nm cs:Ϝ}(I:cs.length<=63)(s:nm.length<=1000):∃T t0 h op rd v6 v7 v8 v9 v10,rF 6 rS (cs.map D.int) (xi v0 b [[]] [] 0 [] nm none none none none none)=some (.nx (xi v0 b T t0 h op rd v6 v7 v8 v9 v10))/\Tr nm (wd T t0 h op rd) cs.length:=by
 have key:=rZ (x:=6) (body:=rS) (λi S=>∃T t0 h op rd v6 v7 v8 v9 v10,S=xi v0 b T t0 h op rd v6 v7 v8 v9 v10/\Tr nm (wd T t0 h op rd) i) (ds:=cs.map D.int) (S:=xi v0 b [[]] [] 0 [] nm none none none none none) ⟨_,_,_,_,_,_,_,_,_,_,rfl,K31.Zm nm⟩ (by
  rintro i d S hd ⟨T,t0,h,op,rd,v6,v7,v8,v9,v10,rfl,w⟩;rw[gMq]at hd;obtain⟨c,l,rfl⟩:=oMq.mp hd;have hi:i<cs.length:=(gSq.mp l).1;obtain⟨J,t,L,u,z,B,E,G,n,e,H,_⟩:=Ny (v0:=v0) (b:=b) (c:=c) (v7:=v7) (v8:=v8) (v9:=v9) (v10:=v10) w (by lia) s
  exact⟨_,e,_,_,_,_,_,_,_,_,_,_,rfl,H⟩)
 obtain⟨M,e,T,t0,h,op,rd,v6,v7,v8,v9,v10,rfl,w⟩:=key;rw[lMq]at w;exact⟨T,t0,h,op,rd,v6,v7,v8,v9,v10,e,w⟩
end
end K52
namespace K72
open PySem L2 Mr Z Xe Zl
def C0(n:Nat):Ϝ:=(az n).map λk:Nat=>(k:Int)
def IC(n:Nat):qg 0 n=(C0 n).map D.int:=by
 unfold qg C0;rw[mPq];refine mCq λk _=>?_
 show D.int (0+(k:Int))=D.int (k:Int);rw[iI]
def hs(cs:Ϝ)(c t:Int):Bool:=decide (t<(cs.length:Int)) && decide (cs.getD t.toNat 0=c)
def M6{r:Ϝ}(hl:r.length<=1000){v0 v3:Option AV}{X:Λ}(L:X.length<=1000):∃u x,uU [v0,some (.ow (X.map λr=>.sh (dI r))),some (.sh (dI r)),v3]=some (.nx [v0,some (.ow ((X++[good r]).map λr=>.sh (dI r))),u,x]):=by
 have B:X.length<qF:=aK (show X.length<2000 by lia) (by decide)
 cases r with
 |nil=>
  have E:good []=[]:=rfl;have z:Cm (.list [])=some false:=rfl;have q:(X.map λr=>AV.sh (dI r))++[AV.sh (.list [])]=(X++[good []]).map λr=>.sh (dI r):=by rw[mBq];rfl
  refine⟨some (.sh (dI [])),v3,?_⟩
  simp_arith [uU,dI,z,B,q]
 |cons n l=>
  obtain⟨G,H⟩:=FJ (n:=n) (ns:=l);have e:=ze G H;have s:=Ds (n::l);have z:Cm (dI (n::l))=some true:=rfl;have I:N7 [dI (n::l)]=some (.int (l.foldl min n)):=by
   show(qJ ((n::l).map D.int)).bind (λl=>(Hj l).map D.int)=_
   rw[rB];rfl
  have J:xA (dI (n::l)) [.int (l.foldl min n)]=some (.int (pQ (n::l) (n::l).length:Nat)):=by
   show(qJ ((n::l).map D.int)).bind _=_;rw[rB];show(if _ then _ else _)=_
   rw[pH G,e]
  generalize M:n::l=N at *;have t:(N.drop (pQ N N.length)).length+(N.take (pQ N N.length)).length<=qF:=by rw[aQ,lTq];show _<=16777216;lia
  have E:good N=N.drop (pQ N N.length)++N.take (pQ N N.length):=rfl;have q:(X.map λr=>AV.sh (dI r))++[AV.sh (.list ((N.drop (pQ N N.length)++N.take (pQ N N.length)).map D.int))]=(X++[good N]).map λr=>.sh (dI r):=by rw[mBq (l₁:=X) (l₂:=[good N])];rfl
  refine⟨some (.sh (dI (good N))),i3 (pQ N N.length:Nat),?_⟩
  simp_arith [uU,z,I,J,xK,G7 N _ s,B7 N _ s,t,←mBq,Dl,B,q,E]
def LP{T:Λ}(z:∀r∈T,r.length<=1000)(hl:T.length<=1000):zo [dM T]=some (.ow ((xS (T.map good)).map λr=>.sh (dI r))):=by
 have key:=rZ (x:=2) (body:=uU) (λi S=>∃n l,S=[some (.sh (dM T)),some (.ow (((T.take i).map good).map λr=>.sh (dI r))),n,l]) (ds:=T.map dI) (S:=[some (.sh (dM T)),some (.ow []),none,none]) ⟨none,none,by simp⟩ (by
  rintro i d S hd ⟨n,l,rfl⟩;rw[gMq]at hd;obtain⟨r,hr,rfl⟩:=oMq.mp hd;have B:(T.take (i+1)).map good=(T.take i).map good++[good r]:=by rw[bF,hr,mBq];rfl
  obtain⟨s,t,e⟩:=M6 (z r (mGq hr)) (v0:=some (.sh (dM T))) (v3:=l) (X:=(T.take i).map good) (by rw[lMq,lTq];lia)
  refine⟨_,e,s,t,by rw[B]⟩)
 obtain⟨E,e,n,l,rfl⟩:=key;rw[lMq,aE]at e;have u:((T.map good).map λr=>AV.sh (dI r)).map oP=(T.map good).map dI:=by rw[mPq];exact mCq λr _=>pW _
 generalize T.map good=X at e u
 simp_arith [zo,FM,dM,dI,e,u]
theorem pm_nodup:∀{l:Ϝ},l.Nodup->(∀x∈l,1<=x)->(l.flatMap λx=>[x, -x]).Nodup
 | [],_,_=>bw
 |x::l,hn,hp=>by
  obtain⟨u,B⟩:=ar.mp hn;have i:=pm_nodup B λy n=>hp y (mCo _ n)
  have G:=hp x (ai ..);have t:∀z∈l.flatMap λx=>[x, -x],z≠x/\z ≠ -x:=λz s=>by
   obtain⟨y,n,s⟩:=bp.mp s;have:=hp y (mCo _ n);have E:y≠x:=λe=>u (e ▸ n)
   simp only[ae,cM,or_false]at s;rcases s with z|z <;> constructor <;> lia
  rw[bO];show(x :: -x::l.flatMap λx=>[x, -x]).Nodup
  refine ar.mpr ⟨λh=>?_,ar.mpr ⟨λh=>(t _ h).2 rfl,i⟩⟩
  rcases ae.mp h with z|z
  .lia
  .exact(t _ z).1 rfl
def Og(k:Nat):rL sJ (rY pP) [] (qg 0 k)=some ((bu k ([]:Ϝ)).map aI):=by
 rw[Z.uA λ_=>AV.ow []]
 .rw[List.map_replicate,List.map_const',pY];rfl
 .intro d hd;refine⟨[some (.sh d)],?_⟩
  simp_arith []
end K72
namespace K75
open PySem L2 Mr Z Xe Zl K72
theorem EX{α β:Type}(g:α->β):∀(l:List α) (z:Nat),(l.eraseIdx z).map g=(l.map g).eraseIdx z
 | [],_=>rfl
 |x::l,0=>rfl
 |x::l,z+1=>by
  show g x::(l.eraseIdx z).map g=g x::(l.map g).eraseIdx z;rw[EX g l z]
def erase_perm{l:Ϝ}{z:Nat}{x:Int}(h:l[z]?=some x):(x::l.eraseIdx z).Perm l:=by
 induction l generalizing z with
 |nil=>simp at h
 |cons y l n=>
  cases z with
  |zero=>
   simp only[fi,aO.injEq]at h;subst h;exact .refl _
  |succ z=>
   rw[cQ];exact(aL.swap ..).trans (aL.cons _ (n (by simpa using h)))
def RX(c:Int){n:Nat}(hn:n<=100):∃o,zP [.int c,.int (n:Int)]=some (aI o)/\o.Perm (C0 n):=by
 have key:=rZ (x:=4) (body:=yr) (λi S=>∃c l o B,S=[i3 c,i3 (n:Int),some (aI l),some (aI o),B]/\(o++l).Perm (C0 n)/\o.length=i) (ds:=qg 0 n) (S:=[i3 c,i3 (n:Int),some (aI (C0 n)),some (.ow []),none]) ⟨c,C0 n,[],none,rfl,.refl _,rfl⟩ (by
  rintro i d S hd ⟨c,l,o,B,rfl,t,E⟩;have hi:i<n:=by
   have:=(gSq.mp hd).1
   rwa [pY]at this
  have hl:=t.length_eq;unfold C0 at hl;rw[lAq,lMq,aB]at hl;have s:0<(l.length:Int):=by lia
  have I:=sv (i:=c) (j:=(l.length:Int)) s;have z0:=bJ c (b:=(l.length:Int)) (by lia)
  have J:=bH c s;obtain⟨z,L⟩:∃z:Nat,c % (l.length:Int)=(z:Int):=⟨(c % (l.length:Int)).toNat,by lia⟩
  rw[L]at I J;have u:z<l.length:=by lia
  have G:=gEg u;generalize l[z]=x at G;have M:=pJ l;have O:(l.map λn=>AV.sh (.int n))[z]?=i3 x:=by rw[gMq,G];rfl
  have P:(l.map λn=>AV.sh (.int n)).eraseIdx z=(l.eraseIdx z).map λn=>AV.sh (.int n):=(EX _ l z).symm
  have Q:l.length<=qF:=tJ (by lia)
  have le:(l.eraseIdx z).length=l.length-1:=List.length_eraseIdx_of_lt u;have R:=pJ (l.eraseIdx z);have U:=yM (i:=c) (j:=((l.eraseIdx z).length:Int)+1) (by lia) (by lia)
  have X:o.length<qF:=aK (show o.length<2000 by lia) (by decide)
  have Y:o.map (λn=>AV.sh (.int n))++[.sh (.int x)]=(o++[x]).map λn=>.sh (.int n):=by rw[mBq];rfl
  have zz:((z:Nat):Int).toNat=z:=bA z;refine⟨[i3 (c / (((l.eraseIdx z).length:Int)+1)),i3 (n:Int),some (aI (l.eraseIdx z)),some (aI (o++[x])),some (.sh d)],?_,_,_,_,_,rfl,?_,by rw[lAq,lSq,E]⟩
  .simp_arith [yr,M,I,J,zz,O,P,Q,V4,R,U,X,Y,Int.natCast_nonneg,true_and,and_true]
  .rw[aa];exact(aL.append_left o (erase_perm G)).trans t)
 obtain⟨S',e,c',l,o,B,rfl,t,E⟩:=key;rw[pY]at E;have hl:=t.length_eq;unfold C0 at hl;rw[lAq,lMq,aB]at hl;have H:l=[]:=bU.mp (by lia)
 subst H;rw[aNq]at t;refine⟨o,?_,t⟩;have r:=zQ (n:=n) (by lia)
 have lr:(qg 0 n).length<=qF:=by rw[pY];exact tJ (by lia)
 have er:(qg 0 n).map AV.sh=(C0 n).map λz=>AV.sh (.int z):=by rw[IC,mPq];rfl
 simp_arith [zP,Ep,GB,r,lr,er,e]
def aa1{i j:Int}(l:0<j)(n:j<2 ^ 250):QD (.int i) (.int j)=some (.int (i / j)):=by
 refine uR ⟨l,?_⟩ _;have s:j.natAbs<2 ^ 250:=by
  have:((j.natAbs:Nat):Int)=j:=Int.natAbs_of_nonneg (by lia)
  have t:((j.natAbs:Nat):Int)<((2 ^ 250:Nat):Int):=by rw[this];exact n
  exact Int.ofNat_lt.mp t
 exact aK ((Nat.log2_lt (by lia)).mpr s) (by decide)
def Nn(ns:Ϝ){n:Nat}(hn:n<=30):∃N,yz [.scr ns,.int (n:Int)]=some (aI N)/\N.length=n/\N.Nodup/\∀x∈N,1<=x:=by
 have X:(100:Int)<10 ^ 60:=by decide
 have E:(10:Int) ^ 60<2 ^ 250:=by decide
 have key:=rZ (x:=5) (body:=xj) (λi S=>∃c N nm G H,S=[some (.sh (.scr ns)),i3 (n:Int),i3 c,some (aI N),i3 nm,G,H]/\N.length=i/\N.Nodup/\(∀x∈N,1<=x/\x<=nm)/\0<=nm/\nm<10 ^ 60-(n:Int)+(i:Int)) (ds:=qg 0 n) (S:=[some (.sh (.scr ns)),i3 (n:Int),i3 (cell ns 2),some (.ow []),i3 0,none,none]) ⟨cell ns 2,[],0,none,none,rfl,rfl,bw,(λx h=>by cases h),iQ _,by lia⟩ (by
  rintro i d S hd ⟨c,N,nm,G,H,rfl,u,s,B,Y,h1⟩;have hi:i<n:=by
   have:=(gSq.mp hd).1
   rwa [pY]at this
  rw[yn hi]at hd;cases hd;rw[iI];have l:0<10 ^ 60-(n:Int)+(i:Int)-nm:=by lia
  have t:10 ^ 60-(n:Int)+(i:Int)-nm<2 ^ 250:=Int.lt_of_le_of_lt (show 10 ^ 60-(n:Int)+(i:Int)-nm<=10 ^ 60 by lia) E
  have I:nm+(10 ^ 60-(n:Int)+(i:Int)-nm)<10 ^ 60-(n:Int)+((i+1:Nat):Int):=by lia
  have ps:Jo (.int 10) (.int 60)=some (.int (10 ^ 60)):=by simp_arith []
  generalize L:10 ^ 60-(n:Int)+(i:Int)-nm=R at l t I;have M:=sv (i:=c) (j:=R) l;have a0:=bJ c (b:=R) (by lia)
  have a1:=bH c l;have O:=aa1 (i:=c) l t;have P:N.length<qF:=aK (show N.length<2000 by lia) (by decide)
  have Q:N.map (λn=>AV.sh (.int n))++[.sh (.int (nm+1+c % R))]=(N++[nm+1+c % R]).map λn=>.sh (.int n):=by rw[mBq];rfl
  refine⟨[some (.sh (.scr ns)),i3 (n:Int),i3 (c / R),some (aI (N++[nm+1+c % R])),i3 (nm+1+c % R),i3 (i:Int),i3 R],?_,_,_,_,_,_,rfl,by rw[lAq,lSq,u],?_,?_,by lia,by lia⟩
  .simp_arith [xj,L,M,O,P,Q]
  .refine nAq.mpr ⟨s,by simp,λa ha b hb e=>?_⟩
   rw[mSq.mp hb]at e;have:=(B a ha).2;lia
  .intro x J;rcases mAq.mp J with z|z
   .have:=B x z;lia
   .rw[mSq.mp z];lia)
 obtain⟨S',e,c,N,nm,G,H,rfl,u,s,B,_⟩:=key;rw[pY]at u;refine⟨N,?_,u,s,λx h=>(B x h).1⟩
 have r:=zQ (n:=n) (by lia)
 have U:oV [.scr ns,.int 2]=i3 (cell ns 2):=wQ ns (by decide)
 simp_arith [yz,CO,U,r,e]
def kI(ks:Ϝ):List (pI×D):=ks.map λk=>((aA k:pI),D.bl true)
def kI_any(ks:Ϝ)(t:Int):(kI ks).any (λkv=>decide (kv.1=(aA t:pI)))=decide (t∈ks):=by
 induction ks with
 |nil=>simp[kI]
 |cons k ks l=>
  unfold kI at l ⊢;rw[au,dN,l]
  by_cases h:t=k
  .subst h;simp
  .have n:¬ (aA k:pI)=aA t:=λq=>h (aA.inj q).symm
   simp[n,h]
def kI_get(ks:Ϝ)(t:Int):(Z.getD (kI ks) (aA t)).isSome=decide (t∈ks):=by
 unfold Z.getD;rw[cU,←kI_any,bS,fv,fF]
def kI_new{ks:Ϝ}{t:Int}(h:t∉ks):xn (kI ks) (aA t) (.bl true)=kI (ks++[t]):=by
 unfold xn;rw[kI_any,d4 h,pE (by simp)]
 simp[kI]
def kI_len(ks:Ϝ):(kI ks).length=ks.length:=by unfold kI;rw[lMq]
def rM(N:Ϝ):Ϝ:=N.flatMap λx=>[x,0-x]
def abH{N:Ϝ}(G:N.length<=30){s0 s1 s2:Option AV}:∃v4,rF 4 yp (N.map D.int) [s0,s1,s2,some (.ow []),none,none,none,none,none,none,none]=some (.nx [s0,s1,s2,some (aI (rM N)),v4,none,none,none,none,none,none]):=by
 have key:=rZ (x:=4) (body:=yp) (λi S=>∃v4,S=[s0,s1,s2,some (aI (rM (N.take i))),v4,none,none,none,none,none,none]) (ds:=N.map D.int) (S:=[s0,s1,s2,some (.ow []),none,none,none,none,none,none,none]) ⟨none,rfl⟩ (by
  rintro i d S hd ⟨v4,rfl⟩;rw[gMq]at hd;obtain⟨x,u,rfl⟩:=oMq.mp hd;have z:rM (N.take (i+1))=rM (N.take i)++[x,0-x]:=by
   unfold rM;rw[bF,u,fK];rfl
  have s:(rM (N.take i)).length+2<=qF:=by
   have:∀l:Ϝ,(rM l).length=2*l.length:=λl=>by
    unfold rM
    induction l with
    |nil=>rfl
    |cons x l B=>rw[bO,lAq,B,lCq];simp only[lCq,eJ];lia
   rw[this,lTq];exact tJ (by lia)
  have t:(rM (N.take i)).map (λn=>AV.sh (.int n))++[.sh (.int x),.sh (.int (0-x))]=(rM (N.take i)++[x,0-x]).map λn=>.sh (.int n):=by rw[mBq];rfl
  refine⟨_,?_,i3 x,by rw[z]⟩
  generalize rM (N.take i)=E at s t
  simp_arith [yp,s,t])
 obtain⟨H,e,v4,rfl⟩:=key;rw[lMq,aE]at e;exact⟨v4,e⟩
def mu3(N:Nat):AS->Nat
 | [_,_,_,_,_,_,_,_,_,some (.ow l),_]=>N+1-l.length
 |_=>0
def abL{E o:Ϝ}{kn:Ϝ}{s0 s1 s2 s4 s6 s8:Option AV}(hE:E.Nodup)(hl:E.length<=60)(Y:o.Perm (C0 E.length))(hk:kn.Nodup)(hs:∀x∈kn,x∈E){e:Int}(he:e∈E):∃t z,rz (ug (rR (oI 10) (oI 7))) yu 100000 [s0,s1,s2,some (.sh (dI E)),s4,some (aI o),s6,some (.owd (kI kn)),s8,some (.ow []),i3 e]=some (.nx [s0,s1,s2,some (.sh (dI E)),s4,some (aI o),s6,some (.owd (kI (kn++t))),s8,some (aI t),i3 z])/\(kn++t).Nodup/\(∀x∈kn++t,x∈E)/\e∈kn++t:=by
 have key:=ur (c:=ug (rR (oI 10) (oI 7))) (body:=yu) (λS=>∃t z,S=[s0,s1,s2,some (.sh (dI E)),s4,some (aI o),s6,some (.owd (kI (kn++t))),s8,some (aI t),i3 z]/\z∈E/\(kn++t).Nodup/\(∀x∈kn++t,x∈E)/\(z=e∨e∈kn++t)) (mu3 60) (λS=>∃t z,S=[s0,s1,s2,some (.sh (dI E)),s4,some (aI o),s6,some (.owd (kI (kn++t))),s8,some (aI t),i3 z]/\(kn++t).Nodup/\(∀x∈kn++t,x∈E)/\e∈kn++t) (by
  rintro S ⟨t,z,rfl,Q,hn,l,u⟩;have M:=kI_get (kn++t) z;have R:=Oa _ _ hn l;rw[lAq]at R
  by_cases c:z∈kn++t
  .rw[d0 c]at M;refine⟨false,[s0,s1,s2,some (.sh (dI E)),s4,some (aI o),s6,some (.owd (kI (kn++t))),s8,some (aI t),i3 z],?_,λq=>(nomatch q),λ_=>⟨t,z,rfl,hn,l,?_⟩⟩
   .simp_arith [M]
   .rcases u with q|q
    .rw[←q];exact c
    .exact q
  .rw[d4 c]at M;have hp:=kI_new c;rw[aa]at hp;have B:=Y.length_eq;unfold C0 at B;rw[lMq,aB]at B;have hi:E.idxOf z<E.length:=fM.mpr Q;have s:E.idxOf z<o.length:=by lia
   have G:xA (dI E) [.int z]=some (.int (E.idxOf z:Nat)):=by
    show(qJ (E.map D.int)).bind _=_;rw[rB];show(if _ then _ else _)=_
    rw[pH Q]
   generalize E.idxOf z=k at hi s G;have O:=gEg s;obtain⟨j,P,U⟩:∃j:Nat,j<E.length/\o[k]=(j:Int):=by
    have:=Y.mem_iff.mp (gRq s);obtain⟨j,P,e⟩:=mMq.mp this;exact⟨j,bD.mp P,e.symm⟩
   rw[U]at O;have X:atI (o.map D.int) (k:Int)=some (.int (j:Int)):=uz (by rw[gMq,O];rfl)
   have H:atI (E.map D.int) (j:Int)=some (.int E[j]):=uz (by rw[gMq,gEg P];rfl)
   have hy:E[j]∈E:=gRq P;generalize E[j]=y at H hy;have so:=pJ o;have I:(kn++(t++[z])).Nodup:=by
    rw[←aa,nAq];exact⟨hn,by simp,λa ha b hb q=>c (by rw[mSq.mp hb]at q;exact q ▸ ha)⟩
   have J:∀x∈kn++(t++[z]),x∈E:=λx G=>by
    rw[←aa]at G;rcases mAq.mp G with q|q
    .exact l x q
    .rw[mSq.mp q];exact Q
   have L:=Oa _ _ I J;rw[lAq,lAq,lSq]at L;have l1:(kI (kn++t)).length<qF:=by rw[kI_len,lAq];show _<16777216;lia
   have l2:t.length<qF:=by show _<16777216;lia
   have ap:t.map (λn=>AV.sh (.int n))++[.sh (.int z)]=(t++[z]).map λn=>.sh (.int n):=by rw[mBq];rfl
   refine⟨true,[s0,s1,s2,some (.sh (dI E)),s4,some (aI o),s6,some (.owd (kI (kn++t))),s8,some (aI t),i3 z],?_,λ_=>⟨[s0,s1,s2,some (.sh (dI E)),s4,some (aI o),s6,some (.owd (kI (kn++(t++[z])))),s8,some (aI (t++[z])),i3 y],?_,⟨t++[z],y,rfl,hy,I,J,?_⟩,?_⟩,λq=>(nomatch q)⟩
   .simp_arith [M]
   .simp_arith [yu,l1,hp,l2,ap,G,so,X,H]
   .refine .inr ?_;rcases u with q|q
    .rw[←q];simp
    .rw[←aa];exact mAq.mpr (.inl q)
   .show 60+1-_<60+1-_;simp only[lMq,lAq,lSq];lia)
 obtain⟨S',ew,t,z,rfl,O,h2,h3⟩:=key 100000 [s0,s1,s2,some (.sh (dI E)),s4,some (aI o),s6,some (.owd (kI kn)),s8,some (.ow []),i3 e] ⟨[],e,by simp,he,by simpa using hk,by simpa using hs,.inl rfl⟩ (by
  show 60+1-0<100000;lia)
 exact⟨t,z,ew,O,h2,h3⟩
def abg{E o:Ϝ}{s0 s1 s2 s4:Option AV}(J:E.Nodup)(hl:E.length<=60)(R:o.Perm (C0 E.length)){l:List AV}{B:Λ}(U:l.map oP=B.map dI)(X:B.length<=10)(Y:B.flatten=[]):∃(n:List AV) (TT:Λ) (v7 v8 v9 v10:Option AV),rF 8 vT (E.map D.int) [s0,s1,s2,some (.sh (dI E)),s4,some (aI o),some (.ow l),some (.owd []),none,none,none]=some (.nx [s0,s1,s2,some (.sh (dI E)),s4,some (aI o),some (.ow n),v7,v8,v9,v10])/\n.map oP=TT.map dI/\TT.flatten.Perm E/\TT.length<=70:=by
 have key:=rZ (x:=8) (body:=vT) (λi S=>∃n TT kn v8 v9 v10,S=[s0,s1,s2,some (.sh (dI E)),s4,some (aI o),some (.ow n),some (.owd (kI kn)),v8,v9,v10]/\n.map oP=TT.map dI/\TT.flatten=kn/\kn.Nodup/\(∀x∈kn,x∈E)/\(∀x∈E.take i,x∈kn)/\TT.length<=10+i) (ds:=E.map D.int) (S:=[s0,s1,s2,some (.sh (dI E)),s4,some (aI o),some (.ow l),some (.owd []),none,none,none])
  ⟨l,B,[],none,none,none,rfl,U,Y,bw,(λ_ h=>by cases h),(λ_ h=>by cases h),X⟩ (by
  rintro i d S hd ⟨l,TT,kn,v8,v9,v10,rfl,s,G,hk,hs,ha,L⟩;rw[gMq]at hd;obtain⟨e,H,rfl⟩:=oMq.mp hd;have hi:i<E.length:=(gSq.mp H).1;have I:=mGq H;obtain⟨t,z,M,O,P,h3⟩:=abL (s0:=s0) (s1:=s1) (s2:=s2) (s4:=s4) (s6:=some (.ow l)) (s8:=i3 e) J hl R hk hs I;have u:∀x∈E.take (i+1),x∈kn++t:=λx Q=>by
   rw[bF,H]at Q;rcases mAq.mp Q with q|q
   .exact mAq.mpr (.inl (ha x q))
   .have:x=e:=by simpa using q
    rw[this];exact h3
  have hla:l.length=TT.length:=by simpa using congrArg bV s
  by_cases c:t=[]
  .subst c;have t0:Cm (dI [])=some false:=rfl;refine⟨[s0,s1,s2,some (.sh (dI E)),s4,some (aI o),some (.ow l),some (.owd (kI (kn++[]))),i3 e,some (aI []),i3 z],?_,l,TT,kn++[],_,_,_,rfl,s,by rw[aNq];exact G,O,P,u,by lia⟩
   have s0:=pJ []
   simp_arith [vT,M,s0,t0]
  .have t1:Cm (dI t)=some true:=by
    cases t with
    |nil=>exact absurd rfl c
    |cons x t=>rfl
   have st:=pJ t;have l1:l.length<qF:=by show _<16777216;lia
   refine⟨[s0,s1,s2,some (.sh (dI E)),s4,some (aI o),some (.ow (l++[.sh (dI t)])),some (.owd (kI (kn++t))),i3 e,some (.sh (dI t)),i3 z],?_,l++[.sh (dI t)],TT++[t],kn++t,_,_,_,rfl,by rw[mBq,mBq,s];simp,by rw[fAq,G,bB],O,P,u,by rw[lAq,lSq];lia⟩
   simp_arith [vT,M,st,t1,l1])
 obtain⟨S',e,n,TT,kn,v8,v9,v10,rfl,s,G,hk,hs,ha,L⟩:=key;rw[lMq]at L ha;rw[aE]at ha;refine⟨n,TT,_,v8,v9,v10,e,s,?_,by lia⟩
 rw[G];exact(aX hk J).mpr λx=>⟨hs x,ha x⟩
structure Rw (M:Λ):Prop where
 nd:M.flatten.Nodup
 len:M.flatten.length<=134
 lr:M.length<=100
 neg:∀e∈M.flatten, -e∈M.flatten
 nz:∀e∈M.flatten,e≠0
def Rw.mp{M:Λ}(h:Rw M):Mp M:=⟨h.nd,by have:=h.len;lia,by have:=h.lr;lia,h.neg⟩
def XC(ns:Ϝ):∃M,BB [.scr ns,.int 30]=some (.ow (M.map λr=>.sh (dI r)))/\Rw M:=by
 have t:=sv (i:=cell ns 1) (j:=30+1) (by decide)
 have b0:=bJ (cell ns 1) (b:=30+1) (by decide)
 have b1:=bH (cell ns 1) (b:=30+1) (by decide)
 obtain⟨n,hn⟩:∃n:Nat,cell ns 1 % (30+1)=(n:Int):=⟨(cell ns 1 % (30+1)).toNat,by lia⟩
 rw[hn]at t b1;obtain⟨N,X,lN,H,R⟩:=Nn ns (n:=n) (by lia)
 have Y:=pJ N;obtain⟨v4,S⟩:=abH (N:=N) (by lia) (s0:=some (.sh (.scr ns))) (s1:=i3 30) (s2:=i3 (n:Int))
 have I:rM N=N.flatMap λx=>[x, -x]:=by
  unfold rM;congr 1;funext x;rw[Int.zero_sub]
 have J:(rM N).Nodup:=by rw[I];exact pm_nodup H R
 have lE:(rM N).length=2*N.length:=by
  unfold rM;have:∀l:Ϝ,(l.flatMap λx=>[x,0-x]).length=2*l.length:=λl=>by
   induction l with
   |nil=>rfl
   |cons x l ih=>rw[bO,lAq,ih,lCq];simp only[lCq,eJ];lia
  exact this N
 have s:∀z∈rM N, -z∈rM N:=λz h=>by
  rw[I]at h ⊢;obtain⟨y,L,q⟩:=bp.mp h;refine bp.mpr ⟨y,L,?_⟩;simp only[ae,cM,or_false]at q ⊢;lia
 have u:∀z∈rM N,z≠0:=λz h=>by
  rw[I]at h;obtain⟨y,L,q⟩:=bp.mp h;have:=R y L;simp only[ae,cM,or_false]at q;lia
 generalize rM N=E at S J lE s u;have sE:=pJ E;have c4:oV [.scr ns,.int 4]=i3 (cell ns 4):=wQ ns (by decide)
 have c1:oV [.scr ns,.int 1]=i3 (cell ns 1):=wQ ns (by decide)
 obtain⟨o,eo,po⟩:=RX (cell ns 4) (n:=E.length) (by lia)
 have O:=yM (i:=cell ns 1) (j:=30+1) (by decide) (by decide)
 have U:=sv (i:=cell ns 1 / (30+1)) (j:=4) (by decide)
 have a0:=bJ (cell ns 1 / (30+1)) (b:=4) (by decide)
 have a1:=bH (cell ns 1 / (30+1)) (b:=4) (by decide)
 obtain⟨k,hk⟩:∃k:Nat,cell ns 1 / (30+1) % 4=(k:Int):=⟨(cell ns 1 / (30+1) % 4).toNat,by lia⟩
 rw[hk]at U a1;have rk:=zQ (n:=k) (by lia)
 have nk:=Og k;have rd:=pY 0 k;have lk:k<=qF:=tJ (by lia)
 have sK:((bu k ([]:Ϝ)).map aI).map oP=(bu k ([]:Ϝ)).map dI:=by rw[mPq];exact mCq λr _=>pJ r
 obtain⟨avs,TT,v7,v8,v9,v10,e3,P,B,lT⟩:=abg (s0:=some (.sh (.scr ns))) (s1:=i3 30) (s2:=i3 (n:Int)) (s4:=v4) J (by lia) po sK (by rw[bT];lia) (by simp)
 have fl:TT.flatten.length=E.length:=B.length_eq;have gd:=LP (T:=TT) (λr hr=>by have:=QS hr;lia) (by lia)
 have G:=E5 TT;refine⟨xS (TT.map good),?_,⟨G.nodup_iff.mpr (B.nodup_iff.mpr J),by rw[G.length_eq];lia,by rw[vR,lMq];lia,λe Q=>G.mem_iff.mpr (B.mem_iff.mpr (s e (B.mem_iff.mp (G.mem_iff.mp Q)))),λe Q=>u e (B.mem_iff.mp (G.mem_iff.mp Q))⟩⟩
 simp_arith [BB,Iz,c1,c4,t,X,Y,S,sE,eo,O,U,rk,nk,rd,lk,e3,P,gd]
end K75
namespace K52
open PySem L2 Mr Z Xe Zl
open K31 (Bh Pj Wd Tr CK Eg)
open K12 (cN Em wN De)
open K43 (CP qe)
open K51 (ud Ps)
section
variable {T:Λ}{t0:Θ}{h:Nat}{op rd r:Ϝ}{b:Bool}{v0 v6 v7 v8 v9 v10:Option AV}
def EK(l:Ϝ):Ϝ:=l.map λz=>-z
def Of(hr:T[h]?=some r)(hl:r.length+op.length<=10000) :
  rz (AL (oI 5)) vG 100000 (xi v0 b T t0 h op rd v6 v7 v8 v9 v10)=some (.nx (xi v0 b (T.set h (r++EK op.reverse)) t0 h [] rd v6 v7 v8 v9 v10)):=by
 have hh:h<T.length:=(gSq.mp hr).1;obtain⟨M,e,s,rfl,z⟩:=ur (c:=AL (oI 5)) (body:=vG)
  (λS=>∃B s,S=xi v0 b (T.set h (r++EK s)) t0 h B rd v6 v7 v8 v9 v10/\op=B++s.reverse)
  (λS=>match S with|[_,_,_,_,_,some (.ow l),_,_,_,_,_]=>l.length|_=>0)
  (λM=>∃s,M=xi v0 b (T.set h (r++EK s)) t0 h [] rd v6 v7 v8 v9 v10/\op=s.reverse) (by
   rintro S ⟨B,s,rfl,E⟩;have t:=congrArg bV E;rw[lAq,List.length_reverse]at t;rcases dZ B with rfl|⟨l,x,rfl⟩
   .refine⟨false,xi v0 b (T.set h (r++EK s)) t0 h [] rd v6 v7 v8 v9 v10,?_,λq=>(nomatch q),λ_=>⟨s,rfl,by rw[E];rfl⟩⟩
    have G:=pJ []
    simp_arith [xi,G,dI,Pb]
   .rw[eD]at E t ⊢;have H:(EK s).length=s.length:=lMq _;have u:(T.set h (r++EK s))[h]?=some (r++EK s):=aN hh;have O:=Bh u;have P:Ih T.length (h:Int)=some h:=Lg hh;have lT:(T.set h (r++EK s)).length=T.length:=lZq;have Q:=pJ (cN (t0++[h]));have I:atI ((cN (t0++[h])).map D.int) (-1)=some (.int (h:Int)):=by
     unfold K12.cN;rw[mBq,mBq];exact HK _ _
    have G:=pJ (l++[x]);have tr:=Ss l x;have la:((l++[x]).map λn=>AV.sh (.int n))[(l++[x]).length-1]?=i3 x:=by rw[lAq,lSq,fj,mBq,gYq (by rw[lMq];exact af _),lMq,cR];rfl
    have ld:((l++[x]).map λn=>AV.sh (.int n)).dropLast=l.map λn=>.sh (.int n):=by rw[mBq];exact eQ
    have pp:=Pj (r':=r++EK s++[-x]) u;have R:=Em (r++EK s) (-x);have J:(r++EK s).length<qF:=by
     rw[lAq,lSq]at t;rw[lAq,H];show _<16777216;lia
    have L:(T.set h (r++EK s)).set h (r++EK s++[-x])=T.set h (r++EK (s++[x])):=by
     rw[gT,aa];unfold EK;rw[mBq];rfl
    refine⟨true,xi v0 b (T.set h (r++EK s)) t0 h (l++[x]) rd v6 v7 v8 v9 v10,?_,λ_=>⟨xi v0 b (T.set h (r++EK (s++[x]))) t0 h l rd v6 v7 v8 v9 v10,?_,⟨l,s++[x],rfl,by rw[E];simp⟩,?_⟩,λq=>(nomatch q)⟩
    .simp_arith [xi,G,dI,tr]
    .simp_arith [vG,xi,O,P,lT,Q,dI,I,la,ld,J,R,pp,L,Oz,eq_self,true_and]
    .show(l.map _).length<((l++[x]).map _).length;rw[lMq,lMq,lAq,lSq];lia) 100000 (xi v0 b T t0 h op rd v6 v7 v8 v9 v10) ⟨op,[],by show _=xi v0 b (T.set h (r++[])) t0 h op rd v6 v7 v8 v9 v10;rw[aNq,Z.Gr hr],by simp⟩ (by
   show(op.map _).length<100000;rw[lMq];lia)
 rw[e,z,gJ]
def Pm{nm:Ϝ}(hn:K31.Nm nm)(w:K31.Wm nm T):YU (xS (T.map good)):=by
 have l:(xS (T.map good)).flatten.Perm T.flatten:=(qz (sk _)).trans (tF uM _);have u:(xS (T.map good)).length=T.length:=by rw[vR,lMq]
 have hl:=w.le;have z:=hn.len;have B:=w.len;have n:=w.pos;have mp:Mp (xS (T.map good)):=⟨l.nodup_iff.mpr (w.nodup hn),by rw[l.length_eq];lia,by lia,λe s=>l.mem_iff.mpr (w.neg hn (l.mem_iff.mp s))⟩
 refine⟨mp,by lia,λk hk=>?_⟩
 exact K31.NG mp n w.tr (λq=>ud (xS (T.map good)) 0 q) ⟨0,by show 0<(xS (T.map good)).length;lia,.base⟩ (λp r x hr t h=>.step h hr t) k hk
def MB{cs nm:Ϝ}(H:cs.length<=63)(hn:K31.Nm nm):∃M,vL [aI cs,aI nm,.sh (.bl b)]=some (.ow (M.map λr=>.sh (dI r)))/\YU M/\(∀z∈M.flatten,z≠0)/\M.flatten.length<=2*nm.length/\M.length<=64:=by
 have I:=hn.len;obtain⟨T,t0,h,op,rd,v6,v7,v8,v9,v10,J,w⟩:=JF (v0:=some (.sh (dI cs))) (b:=b) (nm:=nm) H (by lia)
 have l:=w.len;obtain⟨hh,ht,lw,lT,lf,cnt,tr⟩:=w;simp only at hh ht lw lT lf cnt tr l;have hr:T[h]?=some (T.getD h []):=by rw[gDq,gEg hh];rfl
 have x:=De hr;generalize T.getD h []=r at hr x;rw[lMq]at l;have u:=Of (b:=b) (v0:=some (.sh (dI cs))) (t0:=t0) (op:=op) (rd:=rd) (v6:=v6) (v7:=v7) (v8:=v8) (v9:=v9) (v10:=v10) hr (by lia)
 have B:∀a,(EK op.reverse).count a=(op.map λz=>-z).count a:=λa=>by
  unfold EK;rw[List.map_reverse];exact(List.reverse_perm _).count_eq a
 have s:K31.Wm nm (T.set h (r++EK op.reverse)):=⟨⟨rd,λa=>by
  rw[wN a hr,B];exact cnt a⟩,tr.set hr,by rw[lZq];lia,by rw[lZq];lia⟩
 generalize T.set h (r++EK op.reverse)=t at u s;have L:=s.le;have E:=s.len;have go:=K72.LP (T:=t) (λr hr=>by have:=QS hr;lia) (by lia)
 have O:(t.map aI).map oP=t.map dI:=by rw[mPq];exact mCq λr _=>pJ r
 have P:=pJ cs;have G:=E5 t;refine⟨xS (t.map good),?_,Pm hn s,λz Q=>?_,by rw[G.length_eq];exact L,by rw[(sk _).length_eq,lMq];exact E⟩
 case refine_2=>
  obtain⟨y,R,q⟩:=K31.To.mp (s.sub (G.mem_iff.mp Q));have:=hn.lo y R;lia
 have n:rF 6 rS (cs.map D.int) [i4 (cs.map D.int),some (aI nm),i5 b,some (.ow [.ow []]),some (.ow [.sh (.int 0)]),some (.ow []),none,none,none,none,none]=some (.nx (xi (some (.sh (dI cs))) b T t0 h op rd v6 v7 v8 v9 v10)):=J;unfold xi at n u
 simp_arith [dI]at n u
 simp_arith [vL,Dx,Nb,P,dI,n,u,O,go]
end
end K52
namespace K55
open PySem L2 Mr Z Xe Zl
open K41 (ab YX)
open K51 (vA)
open K16 (HS zA BJ)
open K54 (Wo wB yY oR Hi B5 Lm)
def YZ{v a:Int}{l:Ϝ}(h:v≠a):(v::l).idxOf a=l.idxOf a+1:=by
 rw[List.idxOf_cons,beq_false_of_ne h];rfl
def ixj{a b:Int}{W:Ϝ}(ha:a∈W)(hb:b∈W)(q:W.idxOf a=W.idxOf b):a=b:=by
 have l:=bz ha;have n:=bz hb;have s:W[W.idxOf a]?=some a:=by rw[gEg l,bQ l]
 have t:W[W.idxOf b]?=some b:=by rw[gEg n,bQ n]
 rw[q,t]at s;exact(aO.inj s).symm
theorem JP{a b:Int}:∀{V:Ϝ},V.Nodup->[a,b].Sublist V->V.idxOf a<V.idxOf b
 | [],_,s=>by cases s
 |v::V,nd,s=>by
  obtain⟨l,n⟩:=ar.mp nd;cases s with
  |cons _ s=>
   have hb:b∈V:=s.subset (by simp)
   have ha:a∈V:=s.subset (by simp)
   have:=JP n s;rw[YZ (show v≠a from λq=>l (by rw[q];exact ha)),YZ (show v≠b from λq=>l (by rw[q];exact hb))]
   lia
  |cons_cons _ s=>
   have hb:b∈V:=s.subset (by simp)
   rw[fB,YZ (λq=>l (by rw[q];exact hb))]
   lia
theorem Jv{a b:Int}:∀{W:Ϝ},b∈W->W.idxOf a<W.idxOf b->[a,b].Sublist W
 | [],hb,_=>by cases hb
 |v::W,hb,h=>by
  by_cases c:v=b
  .rw[c,fB]at h;cases h
  .have l:b∈W:=(ae.mp hb).resolve_left λq=>c q.symm
   by_cases d:v=a
   .rw[d];exact .cons_cons _ (List.singleton_sublist.mpr l)
   .rw[YZ d,YZ c]at h;exact .cons _ (Jv l (by lia))
def XB{a b:Int}{W V:Ϝ}(nd:V.Nodup)(s:W.Sublist V)(ha:a∈W)(hb:b∈W):V.idxOf a<V.idxOf b↔W.idxOf a<W.idxOf b:=by
 constructor
 .intro h;rcases fu (W.idxOf a) (W.idxOf b)with c|c|c
  .exact c
  .rw[ixj ha hb c]at h;lia
  .have:=JP nd ((Jv ha c).trans s);lia
 .exact λh=>JP nd ((Jv hb h).trans s)
noncomputable def vW(W:Ϝ)(e:Int):Bool:=decide (W.idxOf e<W.idxOf (-e))
def Nv(W V L:Ϝ):List (Int×Int):=(L.filter (vW W)).map λe=>(ab e,(V.idxOf e:Int))
def Hr(W V L:Ϝ):List (Int×Int):=(L.filter λe=>!vW W e).map λe=>((V.idxOf (-e):Int),(V.idxOf e:Int))
def EL(p:Int×Int):D:=.tup [.int p.1,.int p.2]
def fe(W:Ϝ):Ϝ:=(W.filter λe=>!vW W e).map λe=>-e
def Vu{W:Ϝ}(w:Wo W):Fe W (fe W):=by
 have ng:∀{e},e∈W->e ≠ -e:=λl q=>w.nz _ l (by lia)
 have u:∀{e},e∈W->W.idxOf e≠W.idxOf (-e):=λ{e} l q=>ng l (ixj l (w.ng e l) q)
 have x:(fe W).map (λe=>-e)=W.filter λe=>!vW W e:=by
  unfold fe;rw[mPq];exact(mCq λe _=>aM e).trans (jM _)
 have z:(W.filter λe=>!vW W e).Nodup:=w.nd.filter _
 have B:(fe W).Nodup:=aV.mpr (bq.imp (λh q=>h (by lia)) z)
 have t:(W.filter (vW W)).Perm (fe W):=by
  refine(aX (w.nd.filter _) B).mpr λe=>?_
  unfold fe;rw[aU,mMq];constructor
  .rintro⟨s,n⟩;have n:=of_decide_eq_true n;refine⟨-e,aU.mpr ⟨w.ng e s,?_⟩,aM e⟩;unfold vW;rw[aM,d4 (by lia)]
   rfl
  .rintro⟨f,E,rfl⟩;obtain⟨s,n⟩:=aU.mp E;refine⟨w.ng f s,?_⟩;unfold vW at n ⊢;rw[aM];have:=u s;refine d0 ?_;have n:=of_decide_eq_false ((jj _).mp n);lia
 refine⟨?_,λe l=>?_⟩
 .rw[x];exact(List.filter_append_perm (vW W) W).symm.trans (t.append (.refl _))
 .have:=aU.mp (t.mem_iff.mpr l);exact of_decide_eq_true this.2
section
variable {W V L R:Ϝ}{e:Int}
def U4(w:Wo W)(l:W=L++e::R):(-e∈L↔vW W e=false)/\e∉L:=by
 have nd:=w.nd;have n:e∈W:=by rw[l];simp
 have ne:=w.ng e n;have nz:=w.nz e n;rw[l]at nd ne;obtain⟨x,z,t⟩:=nAq.mp nd;have s:e∉L:=λq=>t e q e (ai ..) rfl
 refine⟨?_,s⟩;have u:W.idxOf e=L.length:=by rw[l,fZ,pE s,fB];exact bK _
 unfold vW;rw[u];constructor
 .intro q;rw[l,fZ,pH q];have:=bz q;exact d4 (by lia)
 .intro q;have q:=of_decide_eq_false q
  by_cases c:-e∈L
  .exact c
  .exfalso;rw[l,fZ,pE c,YZ (by lia)]at q
   lia
def TK:Nv W V (L++[e])=Nv W V L++(if vW W e=true then [(ab e,(V.idxOf e:Int))]else []):=by
 unfold Nv;rw[fT,mBq]
 by_cases c:vW W e=true
 .rw[pH c,cS c];rfl
 .rw[pE c,cT c];rfl
def Uy:Hr W V (L++[e])=Hr W V L++(if vW W e=true then []else [((V.idxOf (-e):Int),(V.idxOf e:Int))]):=by
 unfold Hr;rw[fT,mBq]
 by_cases c:vW W e=true
 .rw[pH c,cT (by rw[c];decide)];rfl
 .rw[pE c,cS (by rw[cO]at c;rw[c];rfl)];rfl
def kyE:(Nv W V L).map (·.1)=(L.filter (vW W)).map ab:=by unfold Nv;rw[mPq];rfl
def Gk(w:Wo W)(s:W=L++e::R):ab e∈(Nv W V L).map (·.1)↔-e∈L:=by
 obtain⟨t,u⟩:=U4 w s;rw[kyE,Lm (λq=>u (aU.mp q).1)]
 refine⟨λq=>(aU.mp q).1,λq=>aU.mpr ⟨q,?_⟩⟩
 have l:e∈W:=by rw[s];simp
 have n:=of_decide_eq_false (t.mp q);unfold vW;rw[aM];refine d0 ?_;have:W.idxOf e≠W.idxOf (-e):=λq=>w.nz e l (by
  have:=ixj l (w.ng e l) q;lia)
 lia
def keys_nd(w:Wo W)(s:L.Sublist W):((Nv W V L).map (·.1)).Nodup:=by
 rw[kyE];refine aV.mpr (bq.imp_of_mem (λ{a b} ha hb ne q=>?_) ((w.nd.sublist s).filter (vW W)))
 have l:=of_decide_eq_true (aU.mp ha).2;have n:=of_decide_eq_true (aU.mp hb).2;unfold K41.ab at q;have:a=b∨a = -b:=by split at q <;> split at q <;> lia
 rcases this with c|c
 .exact ne c
 .rw[c,aM]at l;lia
def UV(w:Wo W)(l:W=L++e::R)(q:-e∈L):Z.getD (HS (Nv W V L)) (.inl (ab e))=some (.int (V.idxOf (-e):Int)):=by
 rw[BJ];refine K15.zq (by
  rw[mPq];have:=keys_nd (V:=V) w (L:=L) (by rw[l];exact fO ..)
  have n:((λx:pI×Int=>x.1)∘λp:Int×Int=>((aA p.1:pI),p.2))=(λz=>(aA z:pI))∘(λp:Int×Int=>p.1):=rfl
  rw[n,←mPq];exact aV.mpr (bq.imp (λh e=>h (aA.inj e)) this)) ?_
 refine mMq.mpr ⟨(ab (-e),(V.idxOf (-e):Int)),mMq.mpr ⟨-e,?_,rfl⟩,by rw[K41.P1]⟩
 have:=(Gk (V:=V) w l).mpr q;rw[kyE,Lm (λq=>(U4 w l).2 (aU.mp q).1)]at this
 exact this
def Q0(w:Wo W)(l:W=L++e::R)(q:-e∉L):Z.getD (HS (Nv W V L)) (.inl (ab e))=none:=by
 unfold Z.getD HS;rw[List.find?_map,Option.map_map,Option.map_eq_none_iff,List.find?_eq_none];intro p n c;have c:(aA p.1:pI) = .inl (ab e):=of_decide_eq_true c;exact q ((Gk (V:=V) w l).mp (mMq.mpr ⟨p,n,aA.inj c⟩))
end
end K55
namespace K55
open PySem L2 Mr Z Xe Zl
open K41 (ab YX)
open K51 (vA)
open K16 (HS zA BJ Da)
open K54 (Wo wB yY oR Hi B5 Lm)
def FY(a b:List (String×Int)):wB (a++b)=wB a++wB b:=by
 unfold K54.wB;rw[fT,mBq]
def Ky(a:List (String×Int)):(wB a).length<=a.length:=by
 unfold K54.wB;rw[lMq];exact cG ..
def Vz(l:List (Int×Int)):List AV:=l.map λp=>.sh (EL p)
def Z7{th:List (String×Int)}{W V:Ϝ}(E:wB th=W)(G:th.map (·.2)=V)(nd:V.Nodup)(hl:th.length<=1000)(wd:∀x∈th,x.1 = "down" ∨ x.1 = "up" ∨ x.1 = "side")(w:Wo W){v0:Option AV}:∃v1 v3 v4 v5,AC 3 4 tD 0 (th.map vA) [v0,some (.owd []),some (.ow []),none,none,none,none,none,none,none,none]=some (.nx [v0,v1,some (.ow (Vz (Hr W V W))),v3,v4,v5,none,none,none,none,none]):=by
 have key:=K0 (x:=3) (y:=4) (body:=tD) (k:=0) (λi S=>∃v3 v4 v5,S=[v0,some (.owd (HS (Nv W V (wB (th.take i))))),some (.ow (Vz (Hr W V (wB (th.take i))))),v3,v4,v5,none,none,none,none,none]) (ds:=th.map vA) (S:=[v0,some (.owd []),some (.ow []),none,none,none,none,none,none,none,none]) ⟨none,none,none,rfl⟩ (by
  rintro i d S hd ⟨v3,v4,v5,rfl⟩;rw[gMq]at hd;obtain⟨x,n,rfl⟩:=oMq.mp hd;rw[bK];have lt:=(gSq.mp n).1;have t:th.take (i+1)=th.take i++[x]:=qf n;have H:th=th.take i++x::th.drop (i+1):=by
   conv=>lhs;rw[←aS (i+1) th,t]
   rw[aa];rfl
  have u:tO (vA x) (.int 0)=some (.str x.1):=rfl;have z:tO (vA x) (.int 1)=some (.int x.2):=rfl;have I:(HS (Nv W V (wB (th.take i)))).length<qF:=by
   rw[Da];unfold Nv;rw[lMq];have:=cG (vW W) (wB (th.take i));have:=Ky (th.take i);rw[lTq]at this;show _<16777216;lia
  have J:(Vz (Hr W V (wB (th.take i)))).length<qF:=by
   unfold Vz Hr;rw[lMq,lMq];have:=cG (λe=>!vW W e) (wB (th.take i))
   have:=Ky (th.take i);rw[lTq]at this;show _<16777216;lia
  by_cases h:x.1 = "side"
  .have s:decide (Str.ofString x.1=Str.ofString "side")=true:=by rw[h];exact d0 rfl
   have L:wB (x::th.drop (i+1))=x.2::wB (th.drop (i+1)):=by rw[yY,pH h];rfl
   have l:W=wB (th.take i)++x.2::wB (th.drop (i+1)):=by
    rw[←E]
    conv=>lhs;rw[H]
    rw[FY,L]
   have B:wB (th.take (i+1))=wB (th.take i)++[x.2]:=by
    rw[t,FY,yY,pH h];rfl
   have M:V.idxOf x.2=i:=by
    obtain⟨lv,O⟩:=gSq.mp (show V[i]?=some x.2 by rw[←G,gMq,n];rfl)
    rw[←O,nd.idxOf_getElem]
   rw[B,TK,Uy,M]
   by_cases c:-x.2∈wB (th.take i)
   .have g:=UV (V:=V) w l c;have P:=(U4 w l).1.mp c;rw[P,pE (by decide),pE (by decide),aNq]
    refine⟨_,?_,i3 (i:Int),some (.sh (vA x)),i3 (ab x.2),rfl⟩;have Q:Vz (Hr W V (wB (th.take i))++[((V.idxOf (-x.2):Int),(i:Int))])=Vz (Hr W V (wB (th.take i)))++[.sh (.tup [.int (V.idxOf (-x.2):Int),.int (i:Int)])]:=mBq;rw[Q]
    simp_arith [tD,u,z,YX,s,g,J,jf]
   .have g:=Q0 (V:=V) w l c;have R:vW W x.2=true:=by
     cases q:vW W x.2 with
     |true=>rfl
     |false=>exact absurd ((U4 w l).1.mpr q) c
    rw[R,pH rfl,pH rfl,aNq];have U:ab x.2∉(Nv W V (wB (th.take i))).map (·.1):=λq=>c ((Gk w l).mp q)
    have pt:=zA (x:=(i:Int)) U;refine⟨_,?_,i3 (i:Int),some (.sh (vA x)),i3 (ab x.2),rfl⟩
    simp_arith [tD,u,z,YX,s,g,I,pt,Option.isSome_none]
  .have s:decide (Str.ofString x.1=Str.ofString "side")=false:=by
    rcases wd x (mGq n)with q|q|q
    .rw[q];exact B5
    .rw[q];exact Hi
    .exact absurd q h
   have B:wB (th.take (i+1))=wB (th.take i):=by
    rw[t,FY,yY,pE h];exact aNq _
   rw[B];refine⟨_,?_,i3 (i:Int),some (.sh (vA x)),i3 (ab x.2),rfl⟩
   simp_arith [tD,u,z,YX,s])
 obtain⟨X,e,v3,v4,v5,rfl⟩:=key;rw[bK,lMq,aE,E]at e;exact⟨_,v3,v4,v5,e⟩
def PX(o t:Int×Int):Int:=if (o.1<t.1/\t.1<o.2/\o.2<t.2)∨(t.1<o.1/\o.1<t.2/\t.2<o.2)then 1 else 0
def LQ{a b c d:ME}{S:AS}{p q r s:Int}(ha:a S=some (.int p,S))(hb:b S=some (.int q,S))(z:c S=some (.int r,S))(hd:d S=some (.int s,S)):DZ A8 A8 A8 a b c d S=some (.bl (decide (p<q/\q<r/\r<s)),S):=by
 have l:∀x y:Int,A8 (.int x) (.int y)=some (.bl (decide (x<y))):=Sy;have u:∀x:Int,(D.int x).scal=true:=λ_=>rfl
 rw[Xw,ha,bN,hb,bN,l,bN]
 by_cases n:p<q
 .rw[d0 n];show(c S).bind _=_;rw[z,bN,pH (u _),l,bN]
  by_cases t:q<r
  .rw[d0 t];show(d S).bind _=_;rw[hd,bN,pH (u _),l];simp[n,t]
  .rw[d4 t];simp[n,t]
 .rw[d4 n];simp[n]
def ON(o t:Int×Int){a b c d e f g h:Option AV}{r:Ϝ}(hr:r.length<1000):uv [a,b,c,d,e,f,g,some (.sh (EL o)),some (aI r),some (.sh (EL t)),h]=some (.nx [a,b,c,d,e,f,g,some (.sh (EL o)),some (aI (r++[PX o t])),some (.sh (EL t)),i5 (decide ((o.1<t.1/\t.1<o.2/\o.2<t.2)∨(t.1<o.1/\o.1<t.2/\t.2<o.2)))]):=by
 have u:∀p:Int×Int,tO (EL p) (.int 0)=some (.int p.1):=λ_=>rfl
 have x:∀p:Int×Int,tO (EL p) (.int 1)=some (.int p.2):=λ_=>rfl
 have lr:r.length<qF:=by show _<16777216;lia
 have H:∀z:Int,(r.map λn=>AV.sh (D.int n))++[.sh (.int z)]=(r++[z]).map λn=>.sh (.int n):=λz=>by rw[mBq];rfl
 have I:∀b:Bool,Dq [.bl b]=some (.int (if b then 1 else 0)):=λb=>by cases b <;> rfl
 have cr:PX o t=if decide ((o.1<t.1/\t.1<o.2/\o.2<t.2)∨(t.1<o.1/\o.1<t.2/\t.2<o.2))=true then 1 else 0:=by
  unfold PX
  by_cases q:(o.1<t.1/\t.1<o.2/\o.2<t.2)∨(t.1<o.1/\o.1<t.2/\t.2<o.2)
  .rw[pH q,d0 q];rfl
  .rw[pE q,d4 q];rfl
 unfold aI;rw[cr];generalize l:[a,b,c,d,e,f,g,some (AV.sh (EL o)),some (AV.ow (r.map λn=>AV.sh (D.int n))),some (AV.sh (EL t)),h]=St
 have B:pO tO (oI 7) (rC (.int 0)) St=some (.int o.1,St):=by rw[←l];simp_arith [u]
 have E:pO tO (oI 7) (rC (.int 1)) St=some (.int o.2,St):=by rw[←l];simp_arith [x]
 have G:pO tO (oI 9) (rC (.int 0)) St=some (.int t.1,St):=by rw[←l];simp_arith [u]
 have b1:pO tO (oI 9) (rC (.int 1)) St=some (.int t.2,St):=by rw[←l];simp_arith [x]
 have s:=LQ B G E b1;have J:=LQ G B b1 E;have k:rOr (DZ A8 A8 A8 (pO tO (oI 7) (rC (.int 0))) (pO tO (oI 9) (rC (.int 0))) (pO tO (oI 7) (rC (.int 1))) (pO tO (oI 9) (rC (.int 1)))) (DZ A8 A8 A8 (pO tO (oI 9) (rC (.int 0))) (pO tO (oI 7) (rC (.int 0))) (pO tO (oI 9) (rC (.int 1))) (pO tO (oI 7) (rC (.int 1)))) St=some (.bl (decide ((o.1<t.1/\t.1<o.2/\o.2<t.2)∨(t.1<o.1/\o.1<t.2/\t.2<o.2))),St):=by
  rw[Bool.decide_or]
  by_cases q:o.1<t.1/\t.1<o.2/\o.2<t.2
  .rw[d0 q]at s ⊢
   simp_arith [s,jH]
  .rw[d4 q]at s ⊢
   simp_arith [s,J,jB]
 generalize decide ((o.1<t.1/\t.1<o.2/\o.2<t.2)∨(t.1<o.1/\o.1<t.2/\t.2<o.2))=L at k ⊢;unfold uv;rw[VM,Vx,aaC,k,←l]
 simp_arith [I,lr,H]
end K55
namespace K55
open PySem L2 Mr Z Xe Zl
open K51 (vA)
open K54 (Wo wB oR)
def Yg(o:Int×Int)(L:List (Int×Int))(hl:L.length<=1000){a b c d e f g h j:Option AV}:∃v9 v10,rF 9 uv (L.map EL) [a,b,c,d,e,f,g,some (.sh (EL o)),some (.ow []),h,j]=some (.nx [a,b,c,d,e,f,g,some (.sh (EL o)),some (aI (L.map (PX o))),v9,v10]):=by
 have key:=rZ (x:=9) (body:=uv) (λi S=>∃v9 v10,S=[a,b,c,d,e,f,g,some (.sh (EL o)),some (aI ((L.take i).map (PX o))),v9,v10]) (ds:=L.map EL) (S:=[a,b,c,d,e,f,g,some (.sh (EL o)),some (.ow []),h,j]) ⟨h,j,rfl⟩ (by
  rintro i dd S hd ⟨v9,v10,rfl⟩;rw[gMq]at hd;obtain⟨t,ht,rfl⟩:=oMq.mp hd;have lt:=(gSq.mp ht).1;rw[qf ht,mBq];exact⟨_,ON o t (by rw[lMq,lTq];lia),_,_,rfl⟩)
 obtain⟨l,e,v9,v10,rfl⟩:=key;rw[lMq,aE]at e;exact⟨v9,v10,e⟩
def Rp{th:List (String×Int)}(nd:(th.map (·.2)).Nodup)(hl:th.length<=900)(wd:∀x∈th,x.1 = "down" ∨ x.1 = "up" ∨ x.1 = "side")(w:Wo (wB th)):xC [.list (th.map vA)]=some (oR ((Hr (wB th) (th.map (·.2)) (wB th)).map λo=>(Hr (wB th) (th.map (·.2)) (wB th)).map (PX o))):=by
 obtain⟨s,t,u,z,I⟩:=Z7 rfl rfl nd (by lia) wd w (v0:=i4 (th.map vA))
 have O:(Hr (wB th) (th.map (·.2)) (wB th)).length<=900:=by
  unfold Hr;rw[lMq];have:=cG (λe=>!vW (wB th) e) (wB th)
  have:=Ky th;lia
 generalize Hr (wB th) (th.map (·.2)) (wB th)=L at I O;have P:(Vz L).map oP=L.map EL:=by unfold Vz;rw[mPq];exact mCq λp _=>pW _
 have key:=rZ (x:=7) (body:=yf) (λi S=>∃B E n l,S=[i4 (th.map vA),s,i4 (L.map EL),t,u,z,some (oR ((L.take i).map λo=>L.map (PX o))),B,E,n,l]) (ds:=L.map EL) (S:=[i4 (th.map vA),s,i4 (L.map EL),t,u,z,some (.ow []),none,none,none,none]) ⟨none,none,none,none,rfl⟩ (by
  rintro i d S hd ⟨B,E,n,l,rfl⟩;rw[gMq]at hd;obtain⟨o,J,rfl⟩:=oMq.mp hd;have lt:=(gSq.mp J).1;obtain⟨Q,G,M⟩:=Yg o L (by lia) (a:=i4 (th.map vA)) (b:=s) (c:=i4 (L.map EL)) (d:=t) (e:=u) (f:=z) (g:=some (oR ((L.take i).map λo=>L.map (PX o)))) (h:=n) (j:=l)
  rw[qf J,mBq];refine⟨_,?_,some (.sh (EL o)),some (.sh (dI (L.map (PX o)))),Q,G,rfl⟩;have U:(L.take i).length<qF:=by
   rw[lTq];show _<16777216;lia
  have X:∀(R:Λ) (r:Ϝ),(R.map λr=>AV.sh (dI r))++[.sh (dI r)]=(R++[r]).map λr=>.sh (dI r):=λR r=>by rw[mBq];rfl
  have st:=pJ (L.map (PX o));unfold oR at M ⊢
  simp_arith [yf,M,st,U,X])
 obtain⟨Y,H,B,E,n,l,rfl⟩:=key;rw[lMq,aE]at H;unfold oR at H ⊢
 simp_arith [xC,DP,I,P,H]
def QT{r o:Ϝ}{i:Nat}{a b c:Option AV}{R:Λ}(hr:r.length<=1000)(hi:i<r.length)(z:o.length=r.length)(G:R.length<1000){v6:Option AV}:vc [a,b,c,some (.sh (dI r)),i3 (i:Int),some (oR R),some (.sh (dI o))]=some (.nx [a,b,c,some (.sh (dI r)),i3 (i:Int),some (oR (R++[if o.getD i 0=1 then Me o r else o])),some (.sh (dI (if o.getD i 0=1 then Me o r else o)))]):=by
 have l:atI (o.map D.int) (i:Int)=some (.int (o.getD i 0)):=uz (by
  rw[gMq,gDq,gEg (by lia)]
  rfl)
 have t:R.length<qF:=by show _<16777216;lia
 have u:∀r:Ϝ,(R.map λr=>AV.sh (D.list (r.map D.int)))++[.sh (.list (r.map D.int))]=(R++[r]).map λr=>.sh (.list (r.map D.int)):=λr=>by rw[mBq];rfl
 have lr:r.length<=qF:=tJ (by lia)
 by_cases q:o.getD i 0=1
 .have s:decide (o.getD i 0=1)=true:=d0 q;rw[pH q];have B:uh sJ (kSc (pO uo (pO uX (oI 0) (oI 1)) (rC (.int 2)))) [] ((o.map D.int).zip (r.map D.int))=some ((Me o r).map λn=>.sh (.int n)):=by
   rw[Fg λd=>.sh (match d with|(.int x,.int y)=>.int ((x+y) % 2)|_=>.non)]
   .unfold Me;rw[jN,mPq,←List.map_uncurry_zip_eq_zipWith,mPq];rfl
   .intro d hd;rw[jN]at hd;obtain⟨⟨x,y⟩,_,rfl⟩:=mMq.mp hd;have E:=sv (i:=x+y) (j:=2) (by decide)
    refine⟨[i3 x,i3 y],?_⟩;show kSc _ [i3 x,i3 y]=_
    simp_arith [E]
    rfl
  unfold oR dI
  simp_arith [vc,La,l,s,z,lr,true_and,B,t,u]
 .have s:decide (o.getD i 0=1)=false:=d4 q;rw[pE q];unfold oR dI
  simp_arith [vc,l,s,t,u]
def U0{n:Nat}(hn:n<=900){T:Λ}(X:T.length<=900)(O:∀r∈T,r.length=n):∃k:Nat,Rk T k/\zk [dM T]=i3 (k:Int):=by
 have Y:∀(R:Λ) (r:Ϝ),((R++[r]).map λr=>AV.sh (dI r))[(R++[r]).length-1]?=some (.sh (dI r)):=λR r=>by rw[lAq,lSq,fj,mBq,gYq (by rw[lMq];exact af _),lMq,cR];rfl
 have dR:∀(R:Λ) (r:Ϝ),((R++[r]).map λr=>AV.sh (dI r)).dropLast=R.map λr=>.sh (dI r):=λR r=>by rw[mBq];exact eQ
 have P:∀R:Λ,(R.map λr=>AV.sh (dI r)).map oP=R.map dI:=λR=>by rw[mPq];exact mCq λr _=>pW _
 have key:=ur (c:=AL (oI 1)) (body:=xg) (λS=>∃(R:Λ) (k:Nat) (B u z l:Option AV),S=[some (.sh (dM T)),some (oR R),some (.sh (.int (k:Int))),B,u,z,l]/\R.length<=900/\(∀r∈R,r.length=n)/\∀m,Rk R m->Rk T (k+m)) (λS=>match S with|_::some (.ow R)::_=>R.length|_=>0) (λS=>∃(k:Nat) (Q B u z l:Option AV),S=[some (.sh (dM T)),Q,some (.sh (.int (k:Int))),B,u,z,l]/\Rk T k) (by
  rintro S ⟨R,k,B,u,z,l,rfl,hl,hr,hk⟩;rcases dZ R with rfl|⟨R,r,rfl⟩
  .refine⟨false,[some (.sh (dM T)),some (oR []),i3 (k:Int),B,u,z,l],?_,λq=>(by cases q),λ_=>⟨k,_,B,u,z,l,rfl,hk 0 .nil⟩⟩
   unfold oR
   simp_arith []
   rfl
  .rw[eD]at hl hr hk ⊢;refine⟨true,[some (.sh (dM T)),some (oR (R++[r])),i3 (k:Int),B,u,z,l],?_,λ_=>?_,λq=>(by cases q)⟩
   .unfold oR;have tr:Cm (.list ((R++[r]).map dI))=some true:=by
     cases R <;> rfl
    simp_arith [P,tr]
   .have la:=Y R r;have ld:=dR R r;rw[lAq,lSq]at hl;have rl:r.length=n:=hr r (by simp)
    have t:=WD false 1 r;rw[pE (by decide)]at t
    have U:((R++[r]).map λr=>AV.sh (dI r)).length=(R++[r]).length:=lMq _
    by_cases c:(1:Int)∈r
    .rw[d0 c]at t;have hx:xA (dI r) [.int 1]=some (.int (r.idxOf 1:Nat)):=by
      show(qJ (r.map D.int)).bind _=_;rw[rB];show(if _ then _ else _)=_
      rw[pH c]
     have lt:=bz c;have E:=rZ (x:=6) (body:=vc) (λi S=>∃l,S=[some (.sh (dM T)),some (.sh (dM R)),i3 ((k+1:Nat):Int),some (.sh (dI r)),i3 (r.idxOf 1:Nat),some (oR (MZ r (r.idxOf 1) (R.take i))),l]) (ds:=R.map dI) (S:=[some (.sh (dM T)),some (.sh (dM R)),i3 ((k+1:Nat):Int),some (.sh (dI r)),i3 (r.idxOf 1:Nat),some (.ow []),l]) ⟨l,rfl⟩ (by
      rintro i d S hd ⟨J,rfl⟩;rw[gMq]at hd;obtain⟨o,H,rfl⟩:=oMq.mp hd;have lo:=hr o (ak _ (mGq H));have e:=QT (a:=some (.sh (dM T))) (b:=some (.sh (dM R))) (c:=i3 ((k+1:Nat):Int)) (R:=MZ r (r.idxOf 1) (R.take i)) (by lia) lt (by lia:o.length=r.length) (by unfold MZ;rw[lMq,lTq];lia) (v6:=J)
      refine⟨_,e,some (.sh (dI (if o.getD (r.idxOf 1) 0=1 then Me o r else o))),?_⟩
      rw[qf H];unfold MZ;rw[mBq];rfl)
     obtain⟨S',G,J,rfl⟩:=E;rw[lMq,aE]at G;refine⟨[some (.sh (dM T)),some (oR (MZ r (r.idxOf 1) R)),i3 ((k+1:Nat):Int),some (.sh (dI r)),i3 (r.idxOf 1:Nat),none,J],?_,⟨_,k+1,_,_,_,_,rfl,by unfold MZ;rw[lMq];lia,λs hs=>?_,λm I=>?_⟩,?_⟩
     .have kk:((k+1:Nat):Int)=(k:Int)+1:=by lia
      rw[kk]at G ⊢;have L:=P R;unfold oR at G ⊢;unfold dM at G ⊢
      simp_arith [xg,la,ld,U,t,hx,L,G]
     .obtain⟨o,H,rfl⟩:=mMq.mp hs;have lo:=hr o (ak _ H);split
      .rw[Ga (by lia),lo]
      .exact lo
     .have:=hk (m+1) (.yes lt (by rw[gDq,gEg lt,bQ lt];rfl) I)
      rwa [show k+1+m=k+(m+1) by lia]
     .show(gP _ (MZ r (r.idxOf 1) R)).length<(gP _ (R++[r])).length;unfold MZ;rw[lMq,lMq,lMq,lAq,lSq];lia
    .rw[d4 c]at t;refine⟨[some (.sh (dM T)),some (oR R),i3 (k:Int),some (.sh (dI r)),u,z,l],?_,⟨R,k,_,_,_,_,rfl,by lia,λs hs=>hr s (ak _ hs),λm I=>hk m (.no c I)⟩,?_⟩
     .unfold oR
      simp_arith [xg,la,ld,U,t]
     .show(gP _ R).length<(gP _ (R++[r])).length;rw[lMq,lMq,lAq,lSq];lia) 100000 [some (.sh (dM T)),some (oR T),i3 ((0:Nat):Int),none,none,none,none] ⟨T,0,none,none,none,none,rfl,X,O,λm I=>by rwa [bK]⟩ (by
  show(gP _ T).length<100000;rw[lMq];lia)
 obtain⟨S',M,k,Q,B,u,z,l,rfl,rk⟩:=key;refine⟨k,rk,?_⟩;have cm:rL sJ (sQ (Br (vh 0))) [] (T.map dI)=some (T.map λr=>.sh (dI r)):=by
  rw[Z.uA (λd=>.sh d)]
  .rw[mPq];rfl
  .intro d hd;obtain⟨r,hr,rfl⟩:=DF hd;have lr:r.length<=qF:=tJ (by have:=O r hr;lia)
   refine⟨[some (.sh (dI r))],?_⟩;have sa:=pJ r
   simp_arith [dI,lr]
 have lT:T.length<=qF:=tJ (by lia)
 have z0:((0:Nat):Int)=0:=rfl;rw[z0]at M;unfold oR dM at M
 simp_arith [zk,Fc,dM,cm,lT,M]
end K55
namespace K55
open Zl
open K18 (Ln nL zC PC tK)
open K54 (Wo)
def Wo.sub{W V:Ϝ}(w:Wo W)(s:V.Sublist W)(ng:∀x∈V, -x∈V):Wo V:=⟨w.nd.sublist s,ng,λx l=>w.nz x (s.subset l),bY s.length_le w.le⟩
def Od:∀(n:Nat) {W:Ϝ},W.length=n->Wo W->∀{H:Λ},Ln [W] H->(W.length+2*nL [W] H) % 4=2:=by
 intro n
 induction n using gN with
 |ind n U=>
  intro W hn w H M;cases W with
  |nil=>
   have o:=M.orb w.mp;have:H=[]:=by
    cases H with
    |nil=>rfl
    |cons l L=>
     obtain⟨e,cy⟩:=o.cy l (ai ..);have:=(o.all e).mp (mFq.mpr ⟨l,ai ..,cy.self⟩);simp at this
   rw[this];rfl
  |cons x R=>
   have X:=w.nz x (ai ..);have m:-x∈R:=(ae.mp (w.ng x (ai ..))).resolve_left λq=>X (by lia)
   obtain⟨A,B,rfl⟩:=dC m;have nd:=w.nd;obtain⟨Y,E⟩:=ar.mp nd;have sub:(A++B).Sublist (x::(A ++ -x::B)):=.cons _ (cD.append (.refl _) (.cons _ (.refl _)));have G:Wo (A++B):=Wo.sub w sub λy J=>by
    have h1:=w.ng y (sub.subset J);have y1:y≠x:=λq=>Y (by rw[←q];rcases mAq.mp J with h|h <;> simp[h])
    have y2:y ≠ -x:=λq=>by
     rw[nAq]at E;rcases mAq.mp J with h|h
     .exact E.2.2 y h (-x) (ai ..) q
     .exact(ar.mp E.2.1).1 (q ▸ h)
    rcases ae.mp h1 with h|h
    .exact absurd (by lia:y = -x) y2
    .rcases mAq.mp h with h|h
     .exact ak _ h
     .rcases ae.mp h with h|h
      .exact absurd (by lia:y=x) y1
      .exact aj _ h
   have hl:(x::(A ++ -x::B)).length=(A++B).length+2:=by simp;lia
   obtain⟨I,u⟩:=zC G.mp;have i0:=U (A++B).length (by lia) rfl G u
   suffices h:∃z,Ln [x::(A ++ -x::B)] z/\(nL [x::(A ++ -x::B)] z=nL [A++B] I+1∨nL [x::(A ++ -x::B)] z+1=nL [A++B] I) by
    obtain⟨z,l1,e⟩:=h;rw[Ln.one w.mp M l1];lia
   have nn:∀{C D:Ϝ},C≠[]->D≠[]->∀L,nL [C] L=nL [D] L:=λ{C D} hC hD L=>by
    unfold K18.nL;rw[dA.mpr λq=>hC (mSq.mp q).symm,dA.mpr λq=>hD (mSq.mp q).symm]
   have rot:∀{C D L:Ϝ}{z:Λ},C++D≠[]->Ln [D++C] z->Ln [C++D] z:=λ{C D L z} _ h=>h.congr λq=>by
    show(K18.cp (C++D)++[]).count q=(K18.cp (D++C)++[]).count q;rw[aNq,aNq];exact tK C D q
   cases A with
   |nil=>
    obtain⟨L2,s,t⟩:=Ln.open u (i:=0) (r:=[]) (L:=B) rfl x
    exact⟨L2,s,.inl t⟩
   |cons a A=>
    cases B with
    |nil=>
     rw[aNq]at u i0 ⊢;obtain⟨L2,s,t⟩:=Ln.open u (i:=0) (r:=[]) (L:=a::A) rfl (-x)
     have s:Ln [[-x]++(x::a::A)] L2:=by rw[aM]at s;exact s
     have t:nL [[-x]++(x::a::A)] L2=nL [a::A] I+1:=by rw[aM]at t;exact t
     refine⟨L2,rot (C:=x::a::A) (D:=[-x]) (L:=[]) (by simp) s,.inl ?_⟩
     rw[←t];exact nn (by simp) (by simp) _
    |cons b B=>
     have ab:a≠b:=λq=>(nAq.mp G.nd).2.2 a (ai ..) b (ai ..) q
     have key:∃L2,Ln [a::A,b::B] L2/\(nL [a::A,b::B] L2=nL [a::A++b::B] I+1∨nL [a::A,b::B] L2+1=nL [a::A++b::B] I):=by
      obtain⟨c,O,P⟩:=K18.Ly G.mp u (x:=a) (by simp)
      obtain⟨d,hd,Q⟩:=K18.Ly G.mp u (x:=b) (by simp)
      by_cases q:c=d
      .subst q;obtain⟨L2,s,t⟩:=K18.Yf u G.mp ab O P Q;exact⟨L2,s,.inl t⟩
      .obtain⟨L2,s,t,_⟩:=Ln.join u G.mp.hn O hd q P Q;exact⟨L2,s,.inr t⟩
     obtain⟨L2,s,t⟩:=key;obtain⟨S,l3,e3⟩:=Ln.loop s ab x;refine⟨S,l3,?_⟩;have:nL [x::(a::A ++ -x::b::B)] S=nL [a::A,b::B] L2:=e3;rw[this];exact t
end K55
namespace K55
open PySem L2 Mr Z Xe Zl
open K18 (Ln nL zC PC)
open K51 (vA AY)
open K43 (rds CP)
open K52 (YU run sP ui Ee)
open K54 (Wo wB qP oR BE)
def Zw{W V:Ϝ}(w:Wo W)(nd:V.Nodup)(s:W.Sublist V):((Hr W V W).map λo=>(Hr W V W).map (PX o))=tb W (fe W):=by
 have f:=Vu w;have e:Hr W V W=(fe W).map λe=>((V.idxOf e:Int),(V.idxOf (-e):Int)):=by
  unfold Hr fe;rw[mPq];exact mCq λe _=>by show _=((V.idxOf (-e):Int),(V.idxOf (- -e):Int));rw[aM]
 rw[e,mPq];unfold tb;refine mCq λa ha=>?_
 show gP _ (gP _ _)=_;rw[mPq];refine mCq λb hb=>?_
 have k:∀{x y:Int},x∈W->y∈W->((V.idxOf x:Int)<(V.idxOf y:Int)↔W.idxOf x<W.idxOf y):=λ{x y} hx hy=>by
  have:=XB nd s hx hy;lia
 have l:=f.inW ha;have n:=f.nW ha;have b1:=f.inW hb;have b2:=f.nW hb;show(if _ then _ else _)=(if _ then _ else _)
 simp only[k l b1,k b1 n,k n b2,k b1 l,k l b2,k b2 n]
def Xl:MS:=(oQ (oY 3 (ql K54.Cg (oW (ql K51.vO (oW (oX 1) pP)) pP)))
 (oQ (oY 4 (kSc (qS K54.xO (oJ (rOf (ql K51.vO (oW (oX 1) pP))) oS))))
 (oQ (A5 (NH (yP (ug (qS K51.wq (oJ (oI 3) oS)))) (yP (ug (qS K51.uI (oJ (oI 4) oS))))) (rm (kSc (rC (.bl false)))) rG)
 (rm (kSc (MM B0 B0 (qS K55.zk (oJ (rOf (ql K55.xC (oW (oX 3) pP))) oS)) (pO xD (rC (.int 2)) (oI 4)) (qS K54.qD (oJ (rOf (rY (oW (oX 1) pP))) oS))))))))
def Mc{M:Λ}(p:YU M)(nz:∀z∈M.flatten,z≠0)(le:M.flatten.length<=134)(lt:M.length<=100){x:AV}(t:oP x=dM M){v0 v2:Option AV}:Xl [v0,some x,v2,none,none]=some (.rt (.sh (.bl true))):=by
 have cp:=K51.UZ (rs:=M) (by lia)
 have S:=Ee p.mp p.pos p.one;obtain⟨l1,_,L⟩:=(sP p.mp p.pos M.flatten.length).whole p.mp (ui p.mp p.pos p.one) p.one;have wd:=(K54.JS p.mp p.pos p.one M.flatten.length (af _)).wd;have mp:=K54.Qx p.mp p.pos p.one;have U:[qP (run M M.flatten.length)].flatten=qP (run M M.flatten.length):=by simp
 have sb:(qP (run M M.flatten.length)).Sublist ((run M M.flatten.length).th.map (·.2)):=dP.map _;have sub:∀x∈qP (run M M.flatten.length),x∈M.flatten:=λx t=>L.mem_iff.mp (sb.subset t)
 have l:Wo (qP (run M M.flatten.length)):=⟨by have:=mp.hn;rwa [U]at this,by have:=mp.hneg;rwa [U]at this,λx t=>nz x (sub x t),by have:=sb.length_le;have:=L.length_eq;lia⟩
 obtain⟨LL,J⟩:=zC mp;obtain⟨O,u,eL⟩:=K54.Sl p.mp p.pos p.one J;have sl:=K54.M1 p.mp p.pos p.one;have B:((run M M.flatten.length).th.map (·.2)).Nodup:=L.nodup_iff.mpr p.mp.hn;have E:Wo (wB (run M M.flatten.length).th):=l;have tbl:=Rp B (by lia) wd E
 rw[Zw E B sb]at tbl;have hW:wB (run M M.flatten.length).th=qP (run M M.flatten.length):=rfl;rw[hW]at tbl;generalize qP (run M M.flatten.length)=W at l J eL sl tbl;have fw:=Vu l;have wl:W.length=2*(fe W).length:=by rw[fw.perm.length_eq,lAq,lMq];lia
 obtain⟨k,rk,er⟩:=U0 (n:=(fe W).length) (by have:=l.le;lia) (T:=tb W (fe W)) (by unfold tb;rw[lMq];have:=l.le;lia) (λr hr=>by
  obtain⟨e,he,rfl⟩:=mMq.mp hr;exact lMq _)
 have rl:=KA fw l J rk;obtain⟨G,eG,lG⟩:=u.lands p.mp;have od:=Od _ rfl l J;obtain⟨g,k2⟩:∃g:Nat,(k:Int)=2*(g:Int):=⟨k / 2,by lia⟩
 obtain⟨kn,PS,hp,X⟩:=K17.N8 p.mp eG;have p1:=K51.Fo hp p.pos λa b ha hb=>((p.one a ha).symm (CP p.mp)).trans (p.one b hb)
 have r1:=K17.rds_len p.mp nz;have hd:(2*((PS.length:Nat):Int)-(M.length:Int)+((rds M).length:Int)-(G.length:Int)) / 2=(g:Int):=by lia
 rw[hd]at X;have ix:∀a b c d e:Int,tO (.tup [.int a,.int b,.int c,.int d,.int e]) (.int 4)=some (.int e):=λ_ _ _ _ _=>rfl
 have eh:K54.xO [dM M]=i3 (g:Int):=by simp_arith [K54.xO,K54.Dy,X,ix]
 have s:[M].flatten=M:=by simp
 have I:Mp (xS [M].flatten):=by rw[s];exact K47.UT p.mp (sk M).symm
 have Q:Ln (xS [M].flatten) O:=u.congr λq=>by
  rw[s];exact K18.vB (sk M) q
 obtain⟨H,eH,lH⟩:=Q.lands I;have lS:nL (xS [M].flatten) O=nL M O:=by
  unfold K18.nL;rw[s,(sk M).count_eq]
 have Y:=K54.Qp (P:=[M]) (by rw[s];lia) (by rw[s];exact le) I eH
 have n1:(xS [M].flatten).length=M.length:=by rw[s,(sk M).length_eq]
 have n2:(xS [M].flatten).flatten.length=M.flatten.length:=by rw[s];exact(qz (sk M)).length_eq
 have tv:2*(([M]:List Λ).length:Int)-((xS [M].flatten).length:Int)+((xS [M].flatten).flatten.length:Int) / 2-(H.length:Int)=2*(g:Int):=by
  rw[n1,n2];simp only[lSq];lia
 rw[tv]at Y;have R:K54.qD [.list [dM M]]=i3 (2*(g:Int)):=Y;generalize (run M M.flatten.length).th=th at S tbl l1;have tk:=K51.NB th;have wh:K51.uI [.int (g:Int)]=i5 true:=by simp_arith [K51.uI,K51.AX]
 have sM:(M.map aI).map oP=M.map dI:=by rw[mPq];exact mCq λr _=>pJ r
 have sD:(th.map AY).map oP=th.map vA:=by rw[mPq];exact mCq λr _=>pW _
 have so:=BE (tb W (fe W));have dk:decide ((k:Int)=2*(g:Int))=true:=d0 k2;have dg:decide (2*(g:Int)=2*(g:Int))=true:=d0 rfl;have ml:∀i:Int,xD (.int 2) (.int i)=some (.int (2*i)):=λi=>Jp (by decide) (by decide)
 simp_arith [Xl,t,cp,sM,S,sD,eh,tk,wh,tbl,so,er,ml,FI,dk,dg,R]
def Wk{ns:Ϝ}(hns:ns.length<=63):Le [.scr ns]=i5 true:=by
 obtain⟨st,sh,a,b,h1,h1',h2,h2',h3,h4,h5,h6,J⟩:=K51.roads_ok ns;have hn:(K51.rds st sh a b).Nodup:=K51.Mz h1 h3 h4;have hp:∀z∈K51.rds st sh a b,1<=z:=λz O=>K51.UP h1 h2 O
 have hR:(K51.rds st sh a b).length=67:=K51.rds_len st sh a b;generalize K51.rds st sh a b=R at J hn hp hR;have nm:K31.Nm R:=⟨by lia,hn,hp⟩
 have t:Al ns (some 3) (some 66)=(ns.drop 3).take 63:=O2 ns 3 66;have hl:((ns.drop 3).take 63).length<=63:=by rw[lTq];exact Nat.min_le_left ..
 generalize (ns.drop 3).take 63=cs at t hl;obtain⟨M,em,pm,mz,ml2,mr⟩:=K52.MB (b:=decide (cell ns 1 % 3>0)) hl nm;have E:K52.vL [.ow (cs.map λn=>.sh (.int n)),.ow (R.map λn=>.sh (.int n)),.sh (.bl (decide (cell ns 1 % 3>0)))]=some (.ow (M.map λr=>.sh (dI r))):=em
 have c0:oV [.scr ns,.int 0]=i3 (cell ns 0):=wQ ns (by decide)
 have c1:oV [.scr ns,.int 1]=i3 (cell ns 1):=wQ ns (by decide)
 have m2:=sv (i:=cell ns 1) (j:=3) (by decide)
 have G:=sv (i:=cell ns 0) (j:=2) (by decide)
 have sM:∀N:Λ,oP (.ow (N.map λr=>.sh (dI r)))=dM N:=λN=>by rw[qX,mPq];exact congrArg D.list (mCq λr _=>pW _)
 have P:∀N:Λ,(N.map λr=>AV.sh (dI r)).map oP=N.map dI:=λN=>by rw[mPq];exact mCq λr _=>pW _
 have lw:P7=(oQ (oY 1 (Gu K52.vL (oW (SC (vh 0) (yQ (rC (.int 3))) (yQ (rC (.int 66)))) (oW (ql K51.vN (oW (oX 0) pP)) (oW (kSc (pO Oq (pO uo (qS Zl.oV (oJ (oI 0) (oJ (rC (.int 1)) oS))) (rC (.int 3))) (rC (.int 0)))) pP)))))
 (oQ (A5 (ug (pO B0 (pO uo (qS Zl.oV (oJ (oI 0) (oJ (rC (.int 0)) oS))) (rC (.int 2))) (rC (.int 1)))) (oQ (oY 2 (ql K52.vJ (oW (ql K75.BB (oW (oX 0) (oW (kSc (rC (.int 30))) pP))) pP))) (oY 1 (VW (vh 2) (pO uo (pO Bc (qS Zl.oV (oJ (oI 0) (oJ (rC (.int 1)) oS))) (rC (.int 124))) (uY rH (oJ (oI 2) oS)))))) rG) K55.Xl)):=rfl
 by_cases q:cell ns 0 % 2=1
 .have Q:decide (cell ns 0 % 2=1)=true:=d0 q;obtain⟨A,ea,l⟩:=K75.XC ns;obtain⟨x,L,es,S,lp,ll,pl,B⟩:=K52.Po l.mp;have H:=yM (i:=cell ns 1) (j:=124) (by decide) (by decide)
  have ml:=sv (i:=cell ns 1 / 124) (j:=(L.length:Int)) (by lia)
  have p0:0<=cell ns 1 / 124 % (L.length:Int):=bJ _ (by lia)
  have p1:cell ns 1 / 124 % (L.length:Int)<(L.length:Int):=bH _ (by lia)
  obtain⟨i,hi⟩:∃i:Nat,cell ns 1 / 124 % (L.length:Int)=(i:Int):=⟨(cell ns 1 / 124 % (L.length:Int)).toNat,by lia⟩
  rw[hi]at ml p1;have u:i<L.length:=by lia
  have eN:L[i]?=some L[i]:=gEg u;have pN:=pl L[i] (gRq u);have I:L[i]∈L:=gRq u;generalize L[i]=N at eN pN I;have U:(∀z∈N.flatten,z≠0)/\N.flatten.length<=134/\N.length<=100:=by
   rcases B with B|B
   .have s:=bh I;have fl:=qz B;have a1:=s.length_le;obtain⟨l1,l2,e⟩:=dC I;have ff:L.flatten.flatten=l1.flatten.flatten++(N.flatten++l2.flatten.flatten):=by rw[e];simp
    have a2:=congrArg bV ff;rw[fl.length_eq,lAq,lAq]at a2;rw[B.length_eq]at a1;have:=l.len;have:=l.lr;exact⟨λz O=>l.nz z (fl.mem_iff.mp (by rw[ff];exact aj _ (ak _ O))),by lia,by lia⟩
   .rw[B]at I;rw[mSq.mp I];simp
  have X:atI (L.map dM) (i:Int)=some (dM N):=uz (by rw[gMq,eN];rfl)
  have lq:=K46.Xz S;have Y:=(K46.MR x).trans S;have lL:(L.map dM).length=L.length:=lMq _;have fin:=λv0 v2=>Mc pN U.1 U.2.1 U.2.2 (x:=.sh (dM N)) (pW _) (v0:=v0) (v2:=v2)
  simp_arith [Le,lw,LG,t,xK,J,c0,c1,m2,E,G,Q,ea,P,es,S,lq,Y,H,lL,ml,X,fin]
 .have Q:decide (cell ns 0 % 2=1)=false:=d4 q;have fin:=λv0 v2=>Mc pm mz (by lia) (by lia) (x:=.ow (M.map λr=>.sh (dI r))) (sM M) (v0:=v0) (v2:=v2)
  simp_arith [Le,lw,LG,t,xK,J,c0,c1,m2,E,G,Q,fin]
end K55
namespace K55
open PySem L2 Mr Z Xe
def XQ{l:W.OpenLaw}{w:ky}{K:Ζ}{h:Heap}{mg:Str->Υ}{fa:Addr}(X:K.In h)(G:h.Ns kx mg)(hfa:mg "law" = some (.ref fa))
  (a0:At K "turned" BR f0 fd0)
  (a1:At K "told_ends" wY f1 fd1)
  (a2:At K "in_good_order" tS f2 fd2)
  (a3:At K "ends_of" Ak f3 fd3)
  (a4:At K "roads_of" yw f4 fd4)
  (a5:At K "places_at" wH f5 fd5)
  (a6:At K "nexts" Dn f6 fd6)
  (a7:At K "reached" zU f7 fd7)
  (a8:At K "pieces" Bb f8 fd8)
  (a9:At K "refuse_not_one_piece" qG f9 fd9)
  (E:At K "walk" Hk f10 fd10)
  (H:At K "onwards" zZ f11 fd11)
  (I:At K "gone_round" vp f12 fd12)
  (J:At K "lands" Do f13 fd13)
  (L:At K "counts" Bd f14 fd14)
  (M:At K "handles" zL f15 fd15)
  (O:At K "_law_cell" Bs f16 fd16)
  (Q:At K "_law_roads" Aj f17 fd17)
  (R:At K "_law_good" Bm f18 fd18)
  (S:At K "_law_piece" Aa f19 fd19)
  (U:At K "_law_joined" yd f20 fd20)
  (Y:At K "_law_copy" BV f21 fd21)
  (a22:At K "_law_follow" yj f22 fd22)
  (a23:At K "_law_lands" zT f23 fd23)
  (a24:At K "_law_twice_handles" sG f24 fd24)
  (a25:At K "_law_whole" zS f25 fd25)
  (a26:At K "_law_things" ye f26 fd26)
  (a27:At K "_law_table" Ah f27 fd27)
  (a28:At K "_law_rank" Bj f28 fd28)
  (a29:At K "_law_places" yx f29 fd29)
  (a30:At K "_law_order" Ac f30 fd30)
  (a31:At K "_law_called" xZ f31 fd31)
  (a32:At K "_law_any" Df f32 fd32)
  (a33:At K "_law_split" Af f33 fd33)
  (a34:W.nsIn K kx "law" = some (some (.ref f34))) (l34:K.lookup f34=some ⟨oc34,od34,.func (W.fnOf "law" "law" (vE Ar) (tV Ar) (oN Ar) .none kV34 dc34 pm34 an34 cd34 ct34),sl34⟩) (c34:W.codeIn K cd34 "law" = true) (k34:W.keepIn K (.ref f34)=true)
  (btu:W.nsIn K kx "tuple" = some none)
  (n:W.nsIn K kx "set" = some none)
  (t:W.nsIn K kx "sum" = some none)
  (z0:W.nsIn K kx "len" = some none) (z1:W.nsIn K kx "min" = some none) (z2:W.nsIn K kx "max" = some none) (z3:W.nsIn K kx "abs" = some none) (z4:W.nsIn K kx "all" = some none) (z5:W.nsIn K kx "sorted" = some none) (z6:W.nsIn K kx "isinstance" = some none) (z7:W.nsIn K kx "list" = some none) (z8:W.nsIn K kx "int" = some none) (z9:W.nsIn K kx "bool" = some none) (z10:W.nsIn K kx "str" = some none) (z11:W.nsIn K kx "dict" = some none) (z12:W.nsIn K kx "zip" = some none) (z13:W.nsIn K kx "enumerate" = some none) (z14:W.nsIn K kx "range" = some none) (z15:W.nsIn K kx "reversed" = some none) :
  ∃fd:kH,(∀(s:Shared) (v:Value),nV s fd ⟨[v],[]⟩ [("_law_script", v)])/\∀base:Heap,K.In base->base.Ns kx mg->CT l.prog w K mg base Tw 6 fa fd ["_law_script"] (LD K):=by
 have e:=hfa.symm.trans (W.mg_of X G a34);cases e;have B:Bt mg:=⟨W.mg_none_of X G z0,W.mg_none_of X G z1,W.mg_none_of X G z2,W.mg_none_of X G z3,W.mg_none_of X G z4,W.mg_none_of X G z5,W.mg_none_of X G z6,W.mg_none_of X G z7,W.mg_none_of X G z8,W.mg_none_of X G z9,W.mg_none_of X G z10,W.mg_none_of X G z11,W.mg_none_of X G z12,W.mg_none_of X G z13,W.mg_none_of X G z14,W.mg_none_of X G z15⟩;have D34:xX K mg "law" Ar ["_law_script"] _ _:=⟨JQ l34 c34 k34,W.mg_of X G a34,b1 (JQ l34 c34 k34) λ_ _ _ _ _ _ _=>rfl⟩
 refine⟨W.fnOf "law" "law" (vE Ar) (tV Ar) (oN Ar) .none kV34 dc34 pm34 an34 cd34 ct34,λs v=>.of_eq rfl,λbase kb nb=>?_⟩
 have bTU:=W.mg_none_of X G btu;have u:=W.mg_none_of X G n;have x:=W.mg_none_of X G t;have F0:=NP (P:=l.prog) (w:=w) (base:=base) (Ag X G a0 (b1 a0.F)) B
 have F1:=Gi (P:=l.prog) (w:=w) (base:=base) (Ag X G a1 (b1 a1.F)) B
 have F2:=Cq (Ag X G a2 (b1 a2.F)) B F0
 have F3:=Ka (Ag X G a3 (b1 a3.F)) B F1
 have F4:=Ib (Ag X G a4 (b1 a4.F)) B F3
 have F5:=FW (P:=l.prog) (w:=w) (base:=base) (Ag X G a5 (b1 a5.F)) B
 have F6:=Pq (P:=l.prog) (w:=w) (base:=base) (Ag X G a6 (b1 a6.F)) B
 have F7:=Ko (Ag X G a7 (b2 a7.F)) B F5
 have F8:=NR (Ag X G a8 (b1 a8.F)) B F7
 have F9:=xJ (Ag X G a9 (b1 a9.F)) B F8
 have F10:=U3 (Ag X G E (b1 E.F)) B F9 F5 F6
 have F11:=KG (Ag X G H (b1 H.F)) B F6
 have F12:=EO (P:=l.prog) (w:=w) (base:=base) (Ag X G I (b2 I.F)) B
 have F13:=P9 (Ag X G J (b1 J.F)) B F11 F3 F2 F12
 have F14:=Mk (Ag X G L (b1 L.F)) B F4 F13 F8
 have F15:=Kl (Ag X G M (b1 M.F)) B F14
 have z:=MW (P:=l.prog) (w:=w) (base:=base) (Ag X G O (b2 O.F)) B
 have F17:=Ki (Ag X G Q (b1 Q.F)) B z
 have F18:=On (P:=l.prog) (w:=w) (base:=base) (Ag X G R (b1 R.F)) B
 have F19:=JV (Ag X G S (b3 S.F)) B F18
 have F20:=IU (P:=l.prog) (w:=w) (base:=base) (Ag X G U (b1 U.F)) B
 have F21:=N2 (P:=l.prog) (w:=w) (base:=base) (Ag X G Y (b1 Y.F)) B
 have F22:=Im (P:=l.prog) (w:=w) (base:=base) (Ag X G a22 (b1 a22.F)) B
 have F23:=J3 (Ag X G a23 (b1 a23.F)) B F22
 have F24:=A0 (Ag X G a24 (b1 a24.F)) B x F20 F23
 have F25:=KP (P:=l.prog) (w:=w) (base:=base) (Ag X G a25 (b1 a25.F)) B
 have F26:=HU (Ag X G a26 (b1 a26.F)) B bTU F25
 have F27:=KB (P:=l.prog) (w:=w) (base:=base) (Ag X G a27 (b1 a27.F)) B
 have F28:=M5 (P:=l.prog) (w:=w) (base:=base) (Ag X G a28 (b1 a28.F)) B
 have F29:=IZ (P:=l.prog) (w:=w) (base:=base) (Ag X G a29 (b1 a29.F)) B
 have F30:=JN (P:=l.prog) (w:=w) (base:=base) (Ag X G a30 (b2 a30.F)) B
 have F31:=IL (Ag X G a31 (b2 a31.F)) B z
 have F32:=Pu (Ag X G a32 (b2 a32.F)) B F31 F30 F18 z
 have F33:=KL (Ag X G a33 (b1 a33.F)) B u F29
 have F34:=YF D34 B F19 F10 F15 F17 F33 F21 F28 F24 z F32 F26 F25 F27;exact F34.ok.imp (TJ λns h=>Wk h)
def aa9{l:W.OpenLaw}{q:ku}{loose:List Str}{G:(Str->Υ)->Heap->Prop}{B:ky->Heap->Prop}{d:DefRec}{K:Params->Ζ}(hn:l.most=some 63)(t:d.params.defaults=[])
  (H:∀(w:ky) (h:Heap),B w h->(K w.params).In h)
  (F:∀(w:ky) (mg:Str->Υ) (E:Addr) (h:Heap),(K w.params).In h->h.Ns kx mg->mg d.name=some (.ref E) ->
   ∃fd:kH,(∀(s:Shared) (u:Value),nV s fd ⟨[u],[]⟩ [("_law_script", u)])/\∀base:Heap,(K w.params).In base->base.Ns kx mg->CT l.prog w (K w.params) mg base Tw 6 E fd ["_law_script"] (LD (K w.params))) :
  W.WalkO q loose G B l.row.toRowW d [] (λf vs=>PySem.call f vs):=
 L2.UC (n:=63) (k:=6) (x:= "_law_script") (CX:=λ_=>Tw) (sp:=λw=>LD (K w.params)) hn (by decide) t ⟨rfl,by decide,by decide⟩ H F (λ_ _ a I hl _ J=>⟨a,I,rfl,J,hl,λ_=>rfl⟩) λ_ _ _ _ _ z=>z
end K55
structure PySem.W.Fast:Prop where(tw15187865456268222117 tw11587134528898791808 tw13230310741053180200 tw3245627172787627117 tw1738209879133640915 tw17515491625564311526 tw10561583972515721848 tw9596780521037321810 tw631343673490818736 tw15931910425313899989 tw1577510403176705136 tw16328069266823309726 tw17182425448734277127 tw14727314144763000327 tw11971806961450114993 tw9610661337988029910 tw6722486445958668000 tw6097832350366741413 tw2002171284456737606 tw7226528061591110440 tw5803701302319329247 tw11080061426749600567 tw10287476273072717662 tw3507495069572258770 tw15618632151741226533 tw14120331787232689368 tw10823693234824220789 tw11339014566492545104 tw15738559749607351605 tw4556262536901879198 tw9954005066038908691 tw17998942257881222446 tw8889538644168833477 tw8076388140434739401 tw4759132134075169513 tw13120404233917230841 tw4187432285489734963 tw7318262547530098837 tw5031528542324598707 tw3649737853909539310 tw907722091192185408 tw17231540727251808078 tw3188717642917413636 tw1294593897858533091 tw17798588618259366716 tw4004292939058009637 tw15866823565548304220 tw5426399649851378645 tw209604316313027498 tw1242149526962521095 tw8678790785941474469 tw9278663898599070336 tw13512383630338181014 tw222003183072683484 tw1609741243098395996 tw3719405186434233791 tw10067582947014854318 tw16555592289262493271 tw11876493303538412905 tw10435529375737193709 tw16799016550238222133 tw16664410247409758332 tw10875360771335888462 tw9328470803096258041 tw453329531187705691 tw8963658008804755125 tw17020663182050941509 tw967846405157648891 tw3248049035457659657 tw3754434012231805646 tw7081866294886712463 tw9326009531944375233 tw5480678591223491748 tw3462151391764718493 tw12558138515443826533 tw3695828568622698479 tw8744824847191993331 tw9264280140703443013 tw8096978752260201998 tw9073431005599048851:True)
open PySem PySem.W PyProof.Rows
set_option maxRecDepth 100000 in
set_option maxHeartbeats 0 in
theorem PySem.Challenge.cw_mapround_k55_whole_handles_by_crossings_holds : PySem.Challenge.rw_mapround_k55_whole_handles_by_crossings.Holds := by
 w_on;o_law;k_head;(case hw=>w_witness2)
 k_fill
 refine K55.aa9 (l:=PySem.Challenge.rw_mapround_k55_whole_handles_by_crossings) rfl rfl (λw h Y=>W.kIn_of Y) ?F
 case F=>
  intro w mg fa h KX G hmg;apply K55.XQ KX G hmg
  all_goals first|exact Mr.Zt (by k_is) (by k_is) (by k_is) (by k_is)|exact Mr.atM_mk (by k_is) (by k_is) (by k_is) (by k_is) (by k_is)|k_is|kernel_rfl

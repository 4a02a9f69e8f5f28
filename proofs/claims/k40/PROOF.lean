import PyProof.Rows.All
import Wide.All
import OpenK.AllK
import Wide.FinOn
import Lean
import PyProof.EqAt
import PyProof.EqKinds
import PyProof.TupleCall
import KE.KIntText
import PyProof.ConsumeWalk
import PySem.Challenge.RW_mapround_k40_whole_own_turns_kept
set_option Elab.async false
set_option linter.all false
set_option bootstrap.genMatcherCode false
set_option genSizeOf false
set_option maxRecDepth 100000
set_option maxHeartbeats 4000000
open Option renaming bind_eq_some_iff->oBq,map_eq_some_iff->oMq
open List renaming getElem?_eq_some_iff->gSq,getElem?_eq_getElem->gEg,getD_eq_getElem?_getD->gDq,length_append->lAq,length_map->lMq,mem_append->mAq,mem_flatten->mFq,mem_map->mMq,getElem?_map->gMq,mem_of_getElem?->mGq,map_congr_left->mCq,getElem_mem->gRq,length_singleton->lSq,mem_singleton->mSq,length_take->lTq,nodup_append->nAq,append_nil->aNq,flatten_append->fAq,getElem?_append_right->gYq,getElem?_append_left->gZq,length_cons->lCq,map_map->mPq,map_append->mBq,mem_cons_of_mem->mCo,length_set->lZq,flatten_cons->fCq,count_append->cAq,mem_cons->ar,mem_cons_self->aw,map_cons->ax,mem_iff_getElem?->ay,nodup_iff_pairwise_ne->az,size_toArray->aA,nodup_cons->aB,mem_append_right->aC,length_range->aD,pairwise_map->aF,getElem?_set_ne->aG,sublist_flatten_of_mem->aK,append_assoc->aM,mem_range->aN,length_drop->aO,getElem?_set_self->aQ,range->aS,flatten_singleton->aU,drop_eq_getElem_cons->aX,nodup_nil->aY,take_length->aZ,getElem?_eq_none->bb,Pairwise->bj,length->bp,take_append_drop->bq,drop_eq_nil_of_le->bz,take_of_length_le->bA,foldl_cons->bB,flatMap_cons->bD,getElem?_set->bG,length_pos_of_mem->bH,reduceReplicate->bJ,mem_flatMap->bM,replicate->bN,mem_filter->bO,eraseIdx_cons_succ->bP,mem_append_left->bQ,perm_ext_iff_of_nodup->bS,find?_cons_of_pos->bT,take_sublist->bW,getElem?_range->bY,zipWith->cc,Sublist->cf,length_nil->cg,zip_cons_cons->cv,mem_iff_getElem->cC,length_eq_zero_iff->cE,reverse->cF,find?_cons_of_neg->cG,length_reverse->cH,perm_iff_count->cI,flatMap_append->cJ,not_mem_nil->cK,getElem?_zip_eq_some->cL,any_eq_true->cM,count_pos_iff->cS,eq_nil_of_length_eq_zero->cU,getElem?_replicate->cV,map_id->cW,perm_append_comm->dt,getElem?_zipWith->du,length_filter_le->dw,ext_getElem?->dC,mem_erase_of_ne->dD,dropLast_concat->dE,nodup_iff_count->dF,take_succ_eq_append_getElem->dH,getElem?_take_of_lt->dJ,idxOf_lt_length_iff->dN,eq_of_mem_replicate->dO,perm_singleton->dS,Perm->dU,getElem?_drop->dY,getElem_range->dZ,find?_cons->ee,take_add_one->eC,foldl_append->eD,eq_nil_or_concat->eE,concat_eq_append->eF,idxOf_cons_self->eI,mem_of_mem_take->eJ,length_eraseIdx->eN,drop_length->eQ,any_cons->eS,length_pos_iff->eU,pairwise_iff_getElem->eV,length_zipWith->eW,filter_sublist->eX,nil_append->eY,length_erase_of_mem->eZ,set_cons_zero->fb,set_cons_succ->fe,pairwise_mergeSort->fi,eraseIdx_cons_zero->fm,take_left->fq,reverse_cons->ft,pairwise_lt_range->fu,findIdx_lt_length_of_exists->fx,eraseIdxIfInBounds_toArray->fy,set_getElem_self->fD,map_take->fE,getElem?_reverse->fF,mem_of_mem_drop->fH,take_append_of_le_length->fI,length_zip->fJ,count_eq_zero_of_not_mem->fK,idxOf_cons->fL,range_succ->fM,map_nil->fN,set_set->fQ,map_id'->fR,filterMap_cons->fT,mergeSort_perm->fU,countP_eq_length_filter->fV,drop_left->fW,getElem_idxOf->fY,pairwise_cons->gb,find?_isSome->gi,exists_mem_of_ne_nil->gk,cons_append->gu,all_eq_true->gw,flatMap_nil->gz,getLast?_singleton->gC,of_mem_zip->gG,drop_of_length_le->gJ,zipWith_cons_cons->gK,flatMap_singleton->gM,filter_map->gN,length_replicate->gQ,count_cons_of_ne->gV,findIdx_getElem->gW,getLast?_append->gX,reverse_reverse->gY,getElem_of_mem->gZ,replicate_succ->hU,reverse_append->hV,length_flatten->hW,mem_filterMap->hX,forIn_toArray->ib,any_map->ie,idxOf_append->ir,getElem?_inj->iw,reverse_perm->iy,ext_getElem->iB,nodup_range->iE,map_flatten->iF,map_reverse->iG,forIn_cons->iI,drop_zero->iO,forIn_nil->iP,map_drop->iV,map_set->ja
open And renaming intro->ab
open PySem.Heap renaming lt_size->ae,get?_push_of_some->aj,get?_push_size->aL,get?_update_ne->bu,size_update->bL,get?_push_ne->dB,SameBut->fg,get?_update_other->gH,ExtBut->gR,DictOf->iA,size_push->iN,NewExcOf->iW
open Nat renaming le_refl->ai,ne_of_lt->aq,ne_of_gt->aR,lt_of_lt_of_le->aV,zero_le->ba,zero_add->bh,le_trans->bw,mod_eq_of_lt->bF,not_lt_zero->bK,le_succ->bR,lt_irrefl->bV,lt_succ_of_lt->bX,le_of_lt->bZ,lt_succ_iff_lt_or_eq->cu,reduceEqDiff->cz,reduceLeDiff->cA,mod_self->cZ,reduceAdd->de,reduceSub->dg,mod_lt->dh,lt_add_right->dm,min_eq_left->dA,mul_le_mul_right->dG,le_add_right->dR,sub_self->dX,succ_mul->eG,pos_of_ne_zero->ff,le_of_eq->fh,lt_succ_self->fA,sub_zero->fP,succ_le_succ->gn,le_of_not_lt->gq,lt_trans->gA,add_comm->gB,add_sub_cancel_left->gD,zero_mul->gF,strongRecOn->gL,mod_add_mod->gO,lt_or_eq_of_le->ia,zero_mod->ik,le_of_lt_succ->ip,lt_trichotomy->iq,min_eq_right->iC,succ_ne_zero->iH,min_self->iY,add_zero->iZ
open PySem.F renaming plainAttrs_list->ak,slot_list_append->aH,type_list_append->aJ,slot_list_extend->ck,type_list_extend->cm,slot_list_pop->cO,type_list_pop->cP,slot_list_index->dW,type_list_index->fj
open Sum renaming inl->ao,inr->gg
open PySem.Value renaming ref->aE,bool->dQ,type->eh,none->fS,int->gP,isStrOf->iT,str->iU,builtin->iX,isInt->jc
open Option renaming some->aT,map_some->cj,getD_some->cw,isSome_map->eB,toList_some->fZ,isSome_some->hZ,getD_none->iz,bind_some->iD,some_or->iQ,none->jd
open Bool renaming false_ne_true->aW,eq_iff_iff->bx,false_eq_true->cQ,not_eq_true->dk,not_eq_true'->gh,and_eq_true->gv,false_and->iK
open PyProof.Rows renaming boot_sorted->bg,callWith_type1->bo,boot_list->bU,boot_isinstance->cB,boot_tuple->fk,callWith_builtin1->fG,boot_min->gS,eq_dataH_same->iR,ne_dataH_same->iS,boot_bool->jb,boot_int->je,boot_any->jf,boot_all->jg,lt_int->jh
open Array renaming getElem?_eq_getElem->br,length_toList->bI,getElem?_toList->dr,toArray_toList->eK,size_map->fX,getElem_mem->iu,Perm->iJ
open Int renaming emod_nonneg->bC,emod_lt_of_pos->bE,toNat_natCast->cT,neg_neg->cY,mul_one->eA,le_refl->fB,le_of_lt->fO,fdiv_eq_ediv_of_nonneg->gc,mul_neg->gT,toNat->gU,zero_add->ij
open Classical renaming propDecidable->cX,byContradiction->gj
open Prod renaming ext->gI
open PySem renaming wpAny_bind->ji,wpAny->jj,wpAny_pure->jk,model->jm,sizeLine->jn,Program->jo,mainGlobals->jr,World->jt,starEach->jv,sizeLine_eq->jy,codeAny_builtin->jz,wpAny_holding->jA,cLine->jD,wpAny_truthy_bool->jE,wpAny_mono->jF,builtinLookup_eq_fast->jG,plainId_quiet->jJ,FuncData->jK,wpAny_typeOf->jL,call_isinstance->jO,compareOp->jQ,wpAny_call_entry->jR,wpAny_Call_Name_kw->jS,wpAny_passesOwn->jT,typeLookup_type->jU,isinstance_true->jV,wpAny_newList->jX,ZipApart->jY,typeLookup->jZ,sysModules->ke,call_meets->ki,pyNext->kj,IsPair->km,sliceBounds->kq,codeAny->kr,sub_AttributeError->kx,getattributeRaised->ky,bootBuiltins->kA,binaryOp->kB,backTo->kC,wpAny_seqItems->kE,Scope->kF,wpAny_callSpecial?_slot->kG,wpAny_pyIter_list->kH,wpAny_field->kJ,behindInMarks->kM,wpAny_pyIter_zip->kN,wpAny_isInstance->kO,wpAny_pyNext_zip_item->kR,wpAny_callSpecialIfBound?_slot->kT,wpAny_execs_nil->kW,letOwnedTupleGo->kX,stored->lg,isSubtype_type->lx,relabel->lA,tupleKind_room_in1->lB,wpAny_attempt->lD,foldedSetIterable->lF,assignEach->lH,valueAt->lI,callerA->lJ,wpAny_comprehension_free->lK,wpAny_specialOf->lS,tupleKind->lU,atKey->lV,wpAny_nextOf_list_item->lW,unsupported->lY,subscripted->lZ,wpAny_notOrdered_dict->mi,wpAny_isTrue_Compare1->mj,wpAny_newTuple->mn,callType_codes->mq,getItem->mz,collect->mB,BindsTo->mC,rawInt->mD,Result->mE,PlainL->mF,wpAny_pyNext_zip_end->mG,wpAny_loadName_local->mH,lookup_relabel_local->mI,wpAny_rule->mL,checkCount->mM,wpAny_loadName_cell->mO,wpAny_dictSet_pairs->mP,codeAny_mono->mQ,swapsWith->mR,seqIndex?->mS,getAttrBy->mT,spliced->mU,richCompare->mV
open PyProof.Rows renaming Keyed->jq,seqObj->ju,wpS_bind->jw,arrOf->jx,IntsAre->jB,wpS_pure->jC,pairsOf->jH,SortKind->jI,pairsOf_size->jM,setArr->jN,listUpdate_at->jP,get?_update_seq->jW,sortedHeap->kh,oneType'->ko,getElem?_mirror_all->ku,wpS_forRange->kz,seqEpoch_at->kK,reverseSlice'->kL,wpS_mono->kP,keyKind'->kQ,AllBare->kS,entry_list_sort->kY,size_push'->kZ,slot_list_sort->lh,keyLt'_oneType->lq,args_list_sort->ly,envOfC->lC,plain_sorted->lN,entry_sorted->lO,args_sorted1->lR,subscriptTail_builtinR->lX,kind_sorted->mh,wpS_get->mv,entry_proto_collect'->mJ,wpS_modify->mK,subscriptTail->mN
noncomputable section
open Array renaming mem_of_getElem?->aQq
local macro_rules|`(tactic|trivial)=>`(tactic|first|exact Or.inl rfl|exact Or.inr rfl|exact Or.inr (Or.inl rfl)|exact Or.inr (Or.inr rfl)|exact⟨rfl,rfl,rfl,by decide +kernel,rfl,by decide +kernel,by decide +kernel⟩|fail)
theorem pQ{c:Prop}{_:Decidable c}(h:c){α}{t e:α}:ite c t e=t:=if_pos h
theorem qk{c:Prop}{_:Decidable c}(h:¬c){α}{t e:α}:ite c t e=e:=if_neg h
namespace L2
open PySem PySem.Spec PyProof.Rows
abbrev oq:=Sum Int Str
noncomputable def Fl:oq->Value->Bool
 | .inl k,v=>jc k v
 | .inr x,v=>iT x v
noncomputable def Zf(w:jt):oq->Int
 | .inl k=>hashInt k
 | .inr x=>hashStr w x
theorem qL:∀{k:oq}{v:Value},Fl k v=true->(∃i t,k=ao i/\v=gP i t)∨(∃x t,k=gg x/\v=iU x t)
 | .inl i,v,h=>by
  obtain⟨t,e⟩:=Value.isInt_shape (k:=i) (v:=v) h;exact .inl ⟨i,t,rfl,e⟩
 | .inr x,v,h=>by
  obtain⟨t,e⟩:=Value.isStrOf_shape (x:=x) (v:=v) h;exact .inr ⟨x,t,rfl,e⟩
theorem Ci(i:Int) (t:Tok):Fl (.inl i) (.int i t)=true:=by simp[Fl,jc]
theorem MG(x:Str) (t:Tok):Fl (.inr x) (.str x t)=true:=by simp[Fl,iT]
theorem U2(a b:Int):decide ((ao a:oq)=ao b)=(a == b):=by
 by_cases e:a=b
 .subst e;simp
 .have h:¬ (ao a:oq)=ao b:=λq=>e (ao.inj q)
  rw[decide_eq_false h];exact(beq_eq_false_iff_ne.mpr e).symm
theorem VF(a b:Str):decide ((gg a:oq)=gg b)=decide (a=b):=by
 by_cases e:a=b
 .subst e;simp
 .have h:¬ (gg a:oq)=gg b:=λq=>e (gg.inj q)
  rw[decide_eq_false h,decide_eq_false e]
theorem Wf(a:Int) (b:Str):decide ((ao a:oq)=gg b)=false:=decide_eq_false (λq=>nomatch q)
theorem U0(a:Str) (b:Int):decide ((gg a:oq)=ao b)=false:=decide_eq_false (λq=>nomatch q)
def qH(prog:jo) (w:jt):PySem.KeyKind prog w oq where
 is:=Fl
 hash:=Zf w
 inj:=λv a b s r=>by
  rcases qL s with ⟨i,t,rfl,rfl⟩|⟨x,t,rfl,rfl⟩
  .rcases qL r with ⟨j,u,rfl,e⟩|⟨y,u,rfl,e⟩
   .injection e with l _;rw[l]
   .exact nomatch e
  .rcases qL r with ⟨j,u,rfl,e⟩|⟨y,u,rfl,e⟩
   .exact nomatch e
   .injection e with l _;rw[l]
 byValue:=λk v h=>by
  rcases qL h with ⟨i,t,rfl,rfl⟩|⟨x,t,rfl,rfl⟩ <;> rfl
 pyHash:=λn h=>by
  rcases qL n with ⟨i,t,rfl,rfl⟩|⟨x,t,rfl,rfl⟩
  .exact wpAny_pyHash_int h
  .exact wpAny_pyHash_str h
 eqBool:=λz n h=>by
  rcases qL z with ⟨i,t,rfl,rfl⟩|⟨x,t,rfl,rfl⟩
  .rcases qL n with ⟨j,u,rfl,rfl⟩|⟨y,u,rfl,rfl⟩
   .rw [U2]at h;exact wpAny_eqBool_int h
   .rw [Wf]at h;exact SeqAt.EqAt.int_str i t y u _ _ _ _ h
  .rcases qL n with ⟨j,u,rfl,rfl⟩|⟨y,u,rfl,rfl⟩
   .rw [U0]at h;exact SeqAt.EqAt.str_int x t j u _ _ _ _ h
   .rw [VF]at h;exact wpAny_eqBool_str h
 «strs»:=λk x t v h=>by
  rcases qL h with ⟨i,u,rfl,e⟩|⟨y,u,rfl,e⟩
  .exact nomatch e
  .injection e with l _
   subst l;cases v <;> rfl
theorem HS(prog:jo) (w:jt) (i:Int) (t:Tok):(qH prog w).is (.inl i) (.int i t)=true:=Ci i t
theorem HP(prog:jo) (w:jt) (x:Str) (t:Tok):(qH prog w).is (.inr x) (.str x t)=true:=MG x t
inductive V where
 |non|bl (b:Bool)|int (i:Int)|str (x:Str)|byt (b:Array UInt8)|flt (b:UInt64)|ref (a:Addr)|ty (n:String)
 deriving DecidableEq
def qc:V->Value->Prop
 | .non,u=>u=fS
 | .bl b,u=>u=dQ b
 | .int i,u=>∃t,u=gP i t
 | .str x,u=>∃t,u=iU x t
 | .byt b,u=>∃t,u=Value.bytes b t
 | .flt b,u=>∃t,u=Value.float b t
 | .ref a,u=>u=aE a
 | .ty n,u=>u=eh n
abbrev oV:List V->List Value->Prop:=Paired qc
theorem oV.length{xs:List V}{us:List Value}(r:oV xs us):xs.length=us.length:=Paired.length r
theorem oV.get:∀{xs:List V}{us:List Value}{i:Nat}{x:V},oV xs us->xs[i]?=some x->∃u,us[i]?=some u/\qc x u
 |_,_,_,_,.nil,e=>by simp at e
 |_,_,0,_,.cons r _,e=>by simp at e;subst e;exact⟨_,rfl,r⟩
 |_,_,i+1,x,.cons _ t,e=>by
  obtain⟨u,h1,h2⟩:=oV.get (i:=i) (x:=x) t (by simpa using e)
  exact⟨u,by simpa using h1,h2⟩
theorem oV.set{x:V}{u:Value}(r:qc x u):∀{xs:List V}{us:List Value}(i:Nat),oV xs us->oV (xs.set i x) (us.set i u)
 |_,_,_,.nil=>.nil
 |_,_,0,.cons _ t=>.cons r t
 |_,_,i+1,.cons q t=>.cons q (oV.set r i t)
theorem oV.append:∀{xs ys:List V}{us ws:List Value},oV xs us->oV ys ws->oV (xs++ys) (us++ws)
 |_,_,_,_,.nil,s=>s
 |_,_,_,_,.cons r t,s=>.cons r (oV.append t s)
theorem oV.take:∀{xs:List V}{us:List Value}(n:Nat),oV xs us->oV (xs.take n) (us.take n)
 |_,_,0,_=>.nil
 |_,_,_+1,.nil=>.nil
 |_,_,n+1,.cons r t=>.cons r (oV.take n t)
theorem oV.drop:∀{xs:List V}{us:List Value}(n:Nat),oV xs us->oV (xs.drop n) (us.drop n)
 |_,_,0,r=>r
 |_,_,_+1,.nil=>.nil
 |_,_,n+1,.cons _ t=>oV.drop n t
def EH:Option V->Option Value->Prop
 |some v,some u=>qc v u
 |none,none=>True
 |_,_=>False
def KV{κ:Type}:List (κ×V)->List (κ×Value)->Prop:=Paired λ(p:κ×V) (q:κ×Value)=>p.1=q.1/\qc p.2 q.2
noncomputable def kV:oq->V
 | .inl i=>.int i
 | .inr x=>.str x
inductive HO where
 /-- a list -/
 |lst (xs:List V)
 /-- a tuple (never changes) -/
 |tup (xs:List V)
 /-- a dict whose keys are ints and texts;one whose keys are tuples of ints and texts (the empty one is both) -/
 |dK (kvs:List (oq×V))|dT (kvs:List (List oq×V))
 /-- a set of ints: its members,its size -/
 |set (S:Int->Bool) (n:Nat)
 /-- an instance of the class at C,its dict at dx,its attributes -/
 |ins (C dx:Addr) (fs:List (Str×V))
 /-- the dict of the instance at x -/
 |own (x:Addr)
 /-- the dict of an exception -/
 |xd (fs:List (Str×V))
 /-- a bound method,f of x -/
 |met (f x:Addr)
 /-- a range object lo,lo+1,.. below hi -/
 |rng (lo hi:Int)
 /-- a thing that is known to the object (the script;a dict while a loop walks it): read,never written while it is so -/
 |frz (o:Obj) (u:HO)
 /-- a code object's table -/
 |tbl (ps:Array Value)
 /-- any other thing,by what is true of its one object (a def of one's own: SetO a S n:=HO.ext λh=>..) -/
 |ext (φ:Heap->Prop)
abbrev Hp:=Addr->Option HO
noncomputable def qG(H:Hp) (a:Addr) (o:HO):Hp:=λb=>if b=a then some o else H b
theorem oC{H:Hp}{a:Addr}{o:HO}:qG H a o a=some o:=by unfold qG;rw[pQ rfl]
theorem oz{H:Hp}{a b:Addr}{o:HO}(h:b≠a):qG H a o b=H b:=by unfold qG;rw[qk h]
theorem Xx{H:Hp}{a b:Addr}{o u:HO}(h:H a=some o) (h':H b=some u) (d:o≠u):a≠b:=by
 intro e;subst e;rw[h]at h';exact d (aT.inj h')
theorem ri{H:Hp}{a b:Addr}{o:HO}(h:H a=some o) (h':H b=none):a≠b:=by
 intro e;subst e;rw[h]at h';cases h'
section
variable (P:jo) (w:jt)
def qT(H:Hp) (h:Heap) (a:Addr):HO->Prop
 | .lst xs=>xs.length<=jn/\∃(l:List Value) (n:Nat),oV xs l/\h.get? a=some { cls:=.type "list", data:=.seq l.toArray n }
 | .tup xs=>xs.length<=jn/\∃l:List Value,oV xs l/\IsTup h a l.toArray
 | .dK kvs=>kvs.length<=jn/\(a == ke)=false/\∃vs,KV kvs vs/\h.DictOf (qH P w) a vs
 | .dT kvs=>kvs.length<=jn/\(a == ke)=false/\∃xs:List (List oq×Addr×Value),
   Paired (λ(p:List oq×V) (q:List oq×Addr×Value)=>p.1=q.1/\H q.2.1=some (.tup (p.1.map kV))/\qc p.2 q.2.2) kvs xs /\
   ∃o es ep,h.get? a=some o/\o.ExactDict/\o.data = .dict es ep/\es.toList=xs.map (entryOfKey (lU (qH P w)))/\(xs.map (·.1)).Nodup
 | .set S n=>h.SetOf (intKind P w) a S n
 | .ins C s fs=>H s=some (.own a)/\fs.length<=1000/\s≠a/\h.get? a=some (W.instObj C s) /\
   ∃r,h.Ns1 s r/\(∀f,EH (fs.lookup f) (r f))/\PySem.Within r (fs.map (·.1))
 | .own _=>∃o,h.get? a=some o
 | .xd fs=>∃r,h.Ns1 a r/\∀f,EH (fs.lookup f) (r f)
 | .rng lo y=>∃t u v,h.get? a=some { cls:=.type "range", data:=.fields #[.int lo t,.int y u,.int 1 v] }
 | .frz o u=>h.get? a=some o/\qT H h a u
 | .tbl ps=>h.get? a=some { cls:=.none,data:=.fields ps }
 | .met f x=>h.get? a=some (W.methodObj (.ref f) (.ref x))
 | .ext φ=>φ h/\(∃o,h.get? a=some o)/\∀h1 h2:Heap,φ h1->(∀o,h1.get? a=some o->h2.get? a=some o)->φ h2
def Be(H:Hp) (h:Heap):Prop:=∀a o,H a=some o->qT P w H h a o
end
section
variable {P:jo}{w:jt}{H H':Hp}{h h':Heap}{a:Addr}{o:HO}
theorem qT.lt(x:qT P w H h a o):a<h.objs.size:=by
 cases o with
 |lst r=>obtain⟨_,_,_,_,e⟩:=x;exact ae e
 |tup r=>obtain⟨_,_,_,p⟩:=x;exact p.lt
 |dK l=>obtain⟨_,_,_,_,o,_,_,e,_⟩:=x;exact ae e
 |dT l=>obtain⟨_,_,_,_,o,_,_,e,_⟩:=x;exact ae e
 |set S n=>obtain⟨o,_,_,_,e,_⟩:=x;exact ae e
 |ins C s fs=>obtain⟨_,_,_,e,_⟩:=x;exact ae e
 |own y=>obtain⟨_,e⟩:=x;exact ae e
 |xd fs=>obtain⟨_,⟨_,_,_,e,_⟩,_⟩:=x;exact ae e
 |rng lo t=>obtain⟨_,_,_,e⟩:=x;exact ae e
 |frz z u=>obtain⟨e,_⟩:=x;exact ae e
 |tbl B=>exact ae (show h.get? a=some _ from x)
 |met f y=>exact ae (show h.get? a=some _ from x)
 |ext φ=>obtain⟨_,⟨_,e⟩,_⟩:=x;exact ae e
theorem Paired.mapP{α β:Type}{F G:α->β->Prop}:∀{l:List α}{n:List β},Paired F l n->(∀a b,F a b->G a b)->Paired G l n
 |_,_,.nil,_=>.nil
 |_,_,.cons r t,f=>.cons (f _ _ r) (Paired.mapP t f)
theorem qT.stay(x:qT P w H h a o) (k:∀b u,(b=a∨H b=some (.own a))->h.get? b=some u->h'.get? b=some u)
  (M:∀b,H b=some (.own a)->H' b=some (.own a)) (ht:∀b xs,H b=some (.tup xs)->H' b=some (.tup xs)):qT P w H' h' a o:=by
 induction o with
 |lst xs=>obtain⟨z,E,n,r,e⟩:=x;exact⟨z,E,n,r,k _ _ (.inl rfl) e⟩
 |tup xs=>obtain⟨z,E,r,l,e,c⟩:=x;exact⟨z,E,r,l,k _ _ (.inl rfl) e,c⟩
 |dK G=>obtain⟨z,y,O,r,l,s,B,e,c⟩:=x;exact⟨z,y,O,r,l,s,B,k _ _ (.inl rfl) e,c⟩
 |dT G =>
  obtain⟨z,y,xs,r,l,s,B,e,c⟩:=x;exact⟨z,y,xs,Paired.mapP r λp q z=>⟨z.1,ht _ _ z.2.1,z.2.2⟩,l,s,B,k _ _ (.inl rfl) e,c⟩
 |set S n=>obtain⟨l,s,B,t,e,c⟩:=x;exact⟨l,s,B,t,k _ _ (.inl rfl) e,c⟩
 |ins C U fs =>
  obtain⟨d,z,ne,e,I,⟨J,s,B,Q,c⟩,r⟩:=x;exact⟨M _ d,z,ne,k _ _ (.inl rfl) e,I,⟨J,s,B,k _ _ (.inr d) Q,c⟩,r⟩
 |own y=>obtain⟨l,e⟩:=x;exact⟨l,k _ _ (.inl rfl) e⟩
 |xd fs=>obtain⟨I,⟨J,s,B,e,c⟩,r⟩:=x;exact⟨I,⟨J,s,B,k _ _ (.inl rfl) e,c⟩,r⟩
 |rng lo X=>obtain⟨t,u,v,e⟩:=x;exact⟨t,u,v,k _ _ (.inl rfl) e⟩
 |frz l u R=>obtain⟨e,q⟩:=x;exact⟨k _ _ (.inl rfl) e,R q⟩
 |tbl L =>
  have e:h.get? a=some { cls:=.none,data:=.fields L }:=x;show h'.get? a=some { cls:=.none,data:=.fields L };exact k a _ (.inl rfl) e
 |met f y =>
  have e:h.get? a=some (W.methodObj (.ref f) (.ref y)):=x;show h'.get? a=some (W.methodObj (.ref f) (.ref y));exact k a _ (.inl rfl) e
 |ext φ=>obtain⟨p,⟨o,e⟩,st⟩:=x;exact⟨st _ _ p λo q=>k _ _ (.inl rfl) q,⟨o,k _ _ (.inl rfl) e⟩,st⟩
theorem Be.lt(x:Be P w H h) (e:H a=some o):a<h.objs.size:=(x a o e).lt
theorem Be.fresh(x:Be P w H h) (e:h.objs.size<=a):H a=none:=by
 cases q:H a with
 |none=>rfl
 |some u=>exact absurd (aV (x.lt q) e) (bV _)
theorem Be.kept(x:Be P w H h) (k:∀b u,h.get? b=some u->h'.get? b=some u):Be P w H h':=λa o e =>
 (x a o e).stay (λb u _ q=>k b u q) (λ_ q=>q) λ_ _ q=>q
theorem Be.laid(x:Be P w H h) (k:∀b u,h.get? b=some u->h'.get? b=some u) (n:h.objs.size<=a) (new:qT P w (qG H a o) h' a o):Be P w (qG H a o) h':=λb u e=>by
 have hn:=x.fresh n
 by_cases l:b=a
 .subst l;rw[oC]at e;cases e;exact new
 .rw [oz l]at e;exact(x b u e).stay (λc v _ q=>k c v q) (λc q=>by rw[oz (ri q hn)];exact q) λc r q=>by rw[oz (ri q hn)];exact q
end
def Rd(H:Hp) (a:Addr) (u:HO):Prop:=H a=some u∨∃o,H a=some (.frz o u)
theorem Rd.ok{P:jo}{w:jt}{H:Hp}{h:Heap}{a:Addr}{u:HO}(r:Rd H a u) (x:Be P w H h):qT P w H h a u:=by
 rcases r with r|⟨o,r⟩
 .exact x a u r
 .obtain ⟨_,q⟩:=x a _ r;exact q
def Ym:Option HO->Prop
 |some (.lst _)=>True
 |some (.dK _)=>True
 |some (.dT _)=>True
 |some (.set _ _)=>True
 |some (.ins _ _ _)=>True
 |some (.ext _)=>True
 |_=>False
section
variable {P:jo}{w:jt}{H:Hp}{h h':Heap}{x e:Addr}{o':HO}
theorem Be.write(ok:Be P w H h) (mu:Ym (H x)) (G:e=x∨H e=some (.own x)) (k:∀b u,b≠e->h.get? b=some u->h'.get? b=some u) (E:∃u,h'.get? e=some u)
  (new:qT P w (qG H x o') h' x o'):Be P w (qG H x o') h':=λb u q=>by
 have n:∀c y,H c=some (.own y)->c≠x:=λc y r z=>by subst z;rw[r]at mu;exact mu
 have s:∀c t,H c=some (.tup t)->c≠x:=λc t r z=>by subst z;rw[r]at mu;exact mu
 by_cases B:b=x
 .subst B;rw[oC]at q;cases q;exact new
 .rw [oz B]at q
  by_cases l:b=e
  .have I:H b=some (.own x):=by
    rcases G with z|z
    .exact absurd (l.trans z) B
    .rw [l];exact z
   rw[q]at I;cases I;obtain⟨v,J⟩:=E;exact⟨v,by rw[l];exact J⟩
  .refine (ok b u q).stay (λc v C r=>k c v ?_ r) (λc r=>by rw[oz (n c b r)];exact r) λc t r=>by rw[oz (s c t r)];exact r
   rcases C with rfl|C
   .exact l
   .rintro rfl;rcases G with z|z
    .exact n c b C z
    .rw [C]at z;cases z;exact B rfl
end
structure Un (fs ex:List Addr) (H H':Hp) (h h':Heap):Prop where
 keep:∀b o,h.get? b=some o->H b=none->b∉fs->b∉ex->h'.get? b=some o
 slot:∀b o,h.get? b=some o->H b=none->b∈fs->b∉ex->∃sl,h'.get? b=some { o with slots:=sl }
 free:∀b o,h.get? b=some o->H b=none->b∉ex->H' b=none
 there:∀b o,h.get? b=some o->b∉ex->∃o',h'.get? b=some o'
 tups:∀b xs,H b=some (.tup xs)->H' b=some (.tup xs)
 frzs:∀b o u,H b=some (.frz o u)->H' b=some (.frz o u)
 tbls:∀b ps,H b=some (.tbl ps)->∃more,H' b=some (.tbl (ps++more))
section
variable {fs fs' ex ex':List Addr}{H H1 H2:Hp}{h h1 h2 h':Heap}{a x e:Addr}{o:HO}
theorem Un.any(u:Un fs ex H H1 h h1) {b:Addr}{l:Obj}(q:h.get? b=some l) (n:H b=none) (r:b∉ex):∃sl,h1.get? b=some { l with slots:=sl }:=by
 by_cases s:b∈fs
 .exact u.slot b l q n s r
 .exact ⟨l.slots,u.keep b l q n s r⟩
theorem Un.kept(k:∀b u,h.get? b=some u->h'.get? b=some u):Un fs ex H H h h' :=
 ⟨λb l q _ _ _=>k b l q,λb l q _ _ _=>⟨l.slots,k b l q⟩,λ_ _ _ n _=>n,λb l q _=>⟨l,k b l q⟩,λ_ _ q=>q,λ_ _ _ q=>q,λ_ r q=>⟨#[],by rw[q];simp⟩⟩
theorem Un.refl:Un fs ex H H h h:=Un.kept λ_ _ q=>q
theorem Un.laid(k:∀b u,h.get? b=some u->h'.get? b=some u) (l:h.objs.size<=a) (hn:H a=none):Un fs ex H (qG H a o) h h' where
 keep:=λb u q _ _ _=>k b u q
 slot:=λb u q _ _ _=>⟨u.slots,k b u q⟩
 free:=λb u q n _=>by rw[oz (aq (aV (ae q) l))];exact n
 there:=λb u q _=>⟨u,k b u q⟩
 tups:=λb xs q=>by rw[oz (ri q hn)];exact q
 frzs:=λb u xs q=>by rw[oz (ri q hn)];exact q
 tbls:=λb ps q=>⟨#[],by rw[oz (ri q hn),q];simp⟩
theorem Un.write(mu:Ym (H x)) (C:e=x∨H e=some (.own x)) (k:∀b u,b≠e->h.get? b=some u->h'.get? b=some u) (s:∃u,h'.get? e=some u):Un fs ex H (qG H x o) h h':=by
 have y:∀b,H b=none->b≠x:=λb n z=>by subst z;rw[n]at mu;exact mu
 have B:∀b,H b=none->b≠e:=λb n z=>by
  subst z;rcases C with r|r
  .exact y b n r
  .rw [n]at r;cases r
 have t:∀b u,H b=some u->¬ Ym (some u)->b≠x:=λb u q nm z=>by subst z;rw[q]at mu;exact nm mu
 refine⟨λb u q n _ _=>k b u (B b n) q,λb u q n _ _=>⟨u.slots,k b u (B b n) q⟩,λb u q n _=>by rw[oz (y b n)];exact n,λb u q _=>?_,
  λb E q=>by rw[oz (t b _ q λz=>z)];exact q,λb u E q=>by rw[oz (t b _ q λz=>z)];exact q,λb G q=>⟨#[],by rw[oz (t b _ q λz=>z),q];simp⟩⟩
 by_cases l:b=e
 .subst l;exact s
 .exact ⟨u,k b u l q⟩
end
noncomputable def Yr(h:Heap) (H:Hp):List Addr:=(aS h.objs.size).filter λa=>(H a).isSome
def GJ(h:Heap) (H:Hp):Heap:=W.hideAll h (Yr h H)
theorem MC(h:Heap) (H:Hp):(GJ h H).objs.size=h.objs.size:=W.hideAll_size _ _
theorem QS{h:Heap}{H:Hp}{b:Addr}{o:Obj}(e:h.get? b=some o) (n:H b=none):(GJ h H).get? b=some o :=
 W.hideAll_get _ e λl=>by
  have q:(H b).isSome=true:=(bO.mp l).2;rw[n]at q;simp at q
theorem SG{h:Heap}{H:Hp}{b:Addr}{o:Obj}(e:(GJ h H).get? b=some o):h.get? b=some o/\H b=none:=by
 have l:h.get? b=some o:=W.of_hideAll (Yr h H) e;refine⟨l,?_⟩;cases q:H b with
 |none=>rfl
 |some x =>
  have n:b∈Yr h H:=bO.mpr ⟨aN.mpr (ae l),by simp[q]⟩
  have z:(GJ h H).get? b=none:=W.hideAll_none (Yr h H) n;rw[z]at e;cases e
noncomputable def RL(g h:Heap) (L:Addr):List (Addr×Obj):=(aS h.objs.size).filterMap λa=>if a=L∨(g.get? a).isSome=true then none else (h.get? a).map λo=>(a,o)
def oY(g h:Heap) (L d:Addr):List (Addr×Obj):=(RL g h L).filter λp=>decide (p.1≠d)
structure Mod (K:W.Frag) (mg:Str->Option Value) (base:Heap):Prop where
 kin:K.In base
 glob:base.Ns jr mg
 blt:∃mb,base.Ns builtinsNs mb/\∀x:Str,x ≠ "__name__" -> mb x=kA x
 nolimit:base.NoLimit
structure Cx where
 prog:jo
 w:jt
 K:W.Frag
 mg:Str->Option Value
 base:Heap
 A:Around
 N:List Str
 s₀:Shared
 H₀:Hp
 env:Env
 outer:List Env
 stack:List Env
 ex:List Addr
 fn:Str->Bool
 calm:Bool
 pn:List (Addr×Obj)
 xe:Value->Shared->Prop
noncomputable def OY(l:List Env):List Addr:=l.filterMap (·.frame)
abbrev Cx.fs(X:Cx):List Addr:=OY X.outer
def Yn(l:kF) (x:Str):Prop:=l.names.lookup x=some .local∨l.names.lookup x=some .cell∨l.names.lookup x=some .free
def WD(l:kF) (x:Str):Prop:=l.names.lookup x=some .local∨l.names.lookup x=some .cell
def YQ(env:Env) (h:Heap) (m:Str->Option Value) (x:Str) (u:Value):Prop :=
 (env.kindOf x=some .local/\m x=some u)∨((env.kindOf x=some .cell∨env.kindOf x=some .free)/\∃c,env.cells.lookup x=some c/\h.IsCell c (some u))
structure Cx.Ok (X:Cx):Prop where
 mod:Mod X.K X.mg X.base
 kind:X.env.scope.kind = .function
 glob:X.env.globals=jr
 blt:X.env.builtins=builtinsNs
 above:X.s₀.heap.objs.size<=X.env.locals
 inj:∀x y c,X.env.cells.lookup x=some c->X.env.cells.lookup y=some c->x=y
 has:∀x,(X.env.kindOf x=some .cell∨X.env.kindOf x=some .free)->∃c,X.env.cells.lookup x=some c
 cab:∀x c,X.fn x=true->X.env.cells.lookup x=some c->X.s₀.heap.objs.size<=c
 hd:X.calm=true->X.A.handled=none
 frames:X.A.frames=some X.stack
 stk:X.stack=X.outer∨(X.stack=X.env::X.outer/\X.env.frame=some X.env.locals)
 exf:∀b∈X.ex,b≠X.env.locals/\∀x c,X.env.cells.lookup x=some c->c≠b
 bs:∀b o,X.base.get? b=some o->X.s₀.heap.get? b=some o/\X.H₀ b=none
 bsz:X.base.objs.size<=X.s₀.heap.objs.size
 noex:∀b o,X.base.get? b=some o->b∉X.ex
 exfs:∀b∈X.ex,b∉X.fs
 funs:X.s₀.heap.FunFrames X.base X.outer
 frf:∀b∈X.fs,X.H₀ b=none
structure Inv (X:Cx) (nA:List (Addr×Obj)) (σ:List (Option V)) (H:Hp) (s:Shared):Prop where
 ok:X.Ok
 os:s.os=X.s₀.os
 bare:kS s.gens
 base:Un X.fs X.ex X.H₀ H X.s₀.heap s.heap
 loc:∃m,s.heap.Ns X.env.locals m/\∀(i:Nat) (x:Str) (v:V),X.N[i]?=some x->σ[i]?=some (some v)->Yn X.env.scope x->∃u,qc v u/\YQ X.env s.heap m x u
 cell:∀x c,X.env.cells.lookup x=some c->∃v,s.heap.IsCell c v
 free:H X.env.locals=none
 freeC:∀x c,X.env.cells.lookup x=some c->H c=none
 pin:∀p∈X.pn++nA,s.heap.get? p.1=some p.2/\H p.1=none/\p.1≠X.env.locals/\p.1∉X.fs/\∀v,p.2.data ≠ .cell v
 hok:Be X.prog X.w H s.heap
 len:σ.length=X.N.length
section
variable {X:Cx}{nA:List (Addr×Obj)}{σ:List (Option V)}{H H':Hp}{s:Shared}{h':Heap}
theorem Cx.Ok.nofr(ok:X.Ok) {b:Addr}{o:Obj}(e:X.base.get? b=some o):b∉X.fs:=λl=>by
 have:=(ok.funs.mem l).1;rw[e]at this;cases this
theorem Inv.bs(I:Inv X nA σ H s):∀b o,X.base.get? b=some o->s.heap.get? b=some o/\H b=none:=λb o e =>
 ⟨I.base.keep b o (I.ok.bs b o e).1 (I.ok.bs b o e).2 (I.ok.nofr e) (I.ok.noex b o e),I.base.free b o (I.ok.bs b o e).1 (I.ok.bs b o e).2 (I.ok.noex b o e)⟩
theorem Inv.bk(I:Inv X nA σ H s):∀b o,X.base.get? b=some o->s.heap.get? b=some o:=λb o e=>(I.bs b o e).1
theorem Inv.mod(I:Inv X nA σ H s):Mod X.K X.mg X.base:=I.ok.mod
theorem Inv.kIn(I:Inv X nA σ H s):X.K.In s.heap:=I.ok.mod.kin.keeps I.bk
theorem Inv.lt(I:Inv X nA σ H s):X.env.locals<s.heap.objs.size:=let ⟨_,hn,_⟩:=I.loc;hn.lt
theorem Inv.sz(I:Inv X nA σ H s):X.s₀.heap.objs.size<=s.heap.objs.size:=bw I.ok.above (bZ I.lt)
theorem Inv.nofs(I:Inv X nA σ H s) {a:Addr}(h:s.heap.objs.size<=a):a∉X.fs:=λl=>by
 obtain⟨_,o,n,_⟩:=I.ok.funs.mem l;exact absurd (aV (ae n) (bw I.sz h)) (bV _)
theorem Inv.cne(I:Inv X nA σ H s):∀x c,X.env.cells.lookup x=some c->c≠X.env.locals:=λx c e z=>by
 obtain⟨v,o,r,hd⟩:=I.cell x c e;obtain⟨m,⟨t,u,y,l,n,_⟩,_⟩:=I.loc;rw[z,l]at r;cases r;rw[n]at hd;cases hd
theorem Inv.funs(I:Inv X nA σ H s):s.heap.FunFrames X.base X.outer:=by
 have all:∀(l:List Env),(∀b∈OY l,b∈X.fs)->X.s₀.heap.FunFrames X.base l->s.heap.FunFrames X.base l:=by
  intro l
  induction l with
  |nil=>intro _ _;trivial
  |cons env r y =>
   intro x hl;obtain⟨B,⟨L,o,n,hn,C,hd⟩,hr⟩:=hl;have t:L∈X.fs:=x L (by unfold OY;rw[fT,n];exact aw)
   obtain⟨E,e⟩:=I.base.slot L o C (I.ok.frf L t) t λz=>I.ok.exfs L z t
   exact⟨B,⟨L,_,n,hn,e,hd⟩,y (λb u=>x b (by unfold OY;rw[fT,n];exact mCo _ u)) hr⟩
 exact all X.outer (λ_ u=>u) I.ok.funs
theorem Inv.stack(I:Inv X nA σ H s):s.heap.FunFrames X.base X.stack:=by
 rcases I.ok.stk with e|⟨e,l⟩
 .rw [e];exact I.funs
 .rw [e];obtain⟨m,hn,_⟩:=I.loc;refine .cons (by rw[I.ok.kind];decide) l hn ?_ I.funs
  exact Heap.get?_none_of_le (bw I.ok.bsz I.ok.above)
theorem Inv.stkSub(I:Inv X nA σ H s):∀b∈OY X.stack,b∈X.env.locals::X.fs:=λb l=>by
 rcases I.ok.stk with e|⟨e,n⟩
 .rw [e]at l;exact mCo _ l
 .rw [e]at l;unfold OY at l;rw[fT,n]at l;exact l
theorem Inv.stkFree(I:Inv X nA σ H s):∀b∈OY X.stack,H b=none:=λb l=>by
 rcases ar.mp (I.stkSub b l) with e|l
 .rw [e];exact I.free
 .obtain ⟨_,o,n,_⟩:=I.ok.funs.mem l;exact I.base.free b o n (I.ok.frf b l) λz=>I.ok.exfs b z l
theorem Inv.step{g':Array GenState}{t':Nat}{d':Drawn}{ch:List Addr}(I:Inv X nA σ H s)
  (y:∀b∈ch,(b∈X.ex∨X.s₀.heap.objs.size<=b)/\b≠X.env.locals/\(∀x c,X.env.cells.lookup x=some c->c≠b)/\∀p∈X.pn++nA,p.1≠b)
  (keep:∀b o,b≠X.env.locals->b∉X.fs->b∉ch->s.heap.get? b=some o->H b=none->h'.get? b=some o)
  (slot:∀b o,b≠X.env.locals->b∈X.fs->b∉ch->s.heap.get? b=some o->H b=none->∃sl,h'.get? b=some { o with slots:=sl }) (free:∀b o,b∉ch->s.heap.get? b=some o->H b=none->H' b=none)
  (there:∀b o,b∉ch->s.heap.get? b=some o->∃M,h'.get? b=some M)
  (tups:∀b xs,H b=some (.tup xs)->H' b=some (.tup xs)) (frzs:∀b o u,H b=some (.frz o u)->H' b=some (.frz o u)) (tbls:∀b ps,H b=some (.tbl ps)->∃more,H' b=some (.tbl (ps++more)))
  (ns:∀m,s.heap.Ns X.env.locals m->h'.Ns X.env.locals m) (hok:Be X.prog X.w H' h') (Y:kS g') :
  Inv X nA σ H' { s with heap:=h',gens:=g',drawn:=d',toks:=t' }:=by
 have O:∀b o,X.s₀.heap.get? b=some o->b≠X.env.locals:=λb o e=>aq (aV (ae e) I.ok.above)
 have E:∀b o,X.s₀.heap.get? b=some o->b∉X.ex->b∉ch:=λb o e t J=>by
  rcases (y b J).1 with z|z
  .exact t z
  .exact absurd (aV (ae e) z) (bV _)
 have B:∀x c,X.env.cells.lookup x=some c->∀v,s.heap.IsCell c v->h'.IsCell c v:=λx c e v ⟨o,L,hd⟩=>by
  have C:c∉ch:=λz=>(y c z).2.2.1 x c e rfl
  by_cases R:c∈X.fs
  .obtain ⟨sl,q⟩:=slot c o (I.cne x c e) R C L (I.freeC x c e);exact⟨_,q,hd⟩
  .exact ⟨o,keep c o (I.cne x c e) R C L (I.freeC x c e),hd⟩
 refine⟨I.ok,I.os,Y,⟨λb o e n J t=>?_,λb o e n J t=>?_,λb o e n t=>?_,λb o e t=>?_,λb xs e=>tups b xs (I.base.tups b xs e),λb o xs e=>frzs b o xs (I.base.frzs b o xs e),λb ps e=>?_⟩,?_,λx c e=>?_,?_,λx c e=>?_,λp S=>?_,hok,I.len⟩
 .exact keep b o (O b o e) J (E b o e t) (I.base.keep b o e n J t) (I.base.free b o e n t)
 .obtain ⟨sl,G⟩:=I.base.slot b o e n J t;obtain⟨Q,P⟩:=slot b _ (O b o e) J (E b o e t) G (I.base.free b o e n t);exact⟨Q,P⟩
 .obtain ⟨M,G⟩:=I.base.there b o e t;exact free b M (E b o e t) G (I.base.free b o e n t)
 .obtain ⟨M,G⟩:=I.base.there b o e t;exact there b M (E b o e t) G
 .obtain ⟨m1,G⟩:=I.base.tbls b ps e;obtain⟨m2,P⟩:=tbls b _ G;exact⟨m1++m2,by rw[P,Array.append_assoc]⟩
 .obtain ⟨m,hn,hl⟩:=I.loc;refine⟨m,ns m hn,λi x v G P e3=>?_⟩
  obtain⟨u,r,l⟩:=hl i x v G P e3;refine⟨u,r,?_⟩;rcases l with l|⟨k,c,e,z⟩
  .exact .inl l
  .exact .inr ⟨k,c,e,B x c e _ z⟩
 .obtain ⟨v,z⟩:=I.cell x c e;exact⟨v,B x c e v z⟩
 .obtain ⟨m,⟨o,_,_,L,_⟩,_⟩:=I.loc;exact free _ o (λz=>(y _ z).2.1 rfl) L I.free
 .obtain ⟨v,o,L,hd⟩:=I.cell x c e;exact free c o (λz=>(y c z).2.2.1 x c e rfl) L (I.freeC x c e)
 .obtain ⟨e,n,ne,U,d⟩:=I.pin p S;have C:p.1∉ch:=λz=>(y p.1 z).2.2.2 p S rfl
  exact⟨keep p.1 p.2 ne U C e n,free p.1 p.2 C e n,ne,U,d⟩
theorem Inv.un{t':Nat}(I:Inv X nA σ H s) (u:Un X.fs [] H H' s.heap h') (hok:Be X.prog X.w H' h'):Inv X nA σ H' { s with heap:=h',toks:=t' }:=by
 obtain⟨m,⟨o,J,L,B,r⟩,_⟩:=id I.loc;obtain⟨M,C⟩:=u.any B I.free (by simp)
 exact I.step (g':=s.gens) (d':=s.drawn) (ch:=[]) (λ_ z=>nomatch z) (λb o _ t _ e n=>u.keep b o e n t (by simp)) (λb o _ t _ e n=>u.slot b o e n t (by simp)) (λb o _ e n=>u.free b o e n (by simp)) (λb o _ e=>u.there b o e (by simp)) u.tups u.frzs u.tbls (λO E=>by
  obtain⟨P,x,y,l,G⟩:=E;rw[B]at l;cases l;exact⟨_,x,y,C,G⟩) hok I.bare
theorem Inv.call{g':Array GenState}{t':Nat}{d':Drawn}{ch:List Addr}(I:Inv X nA σ H s) (u:Un (OY X.stack) ch H H' s.heap h') (hok:Be X.prog X.w H' h') (J:kS g')
  (t:∀b∈ch,(b∈X.ex∨X.s₀.heap.objs.size<=b)/\b≠X.env.locals/\(∀x c,X.env.cells.lookup x=some c->c≠b)/\∀p∈X.pn++nA,p.1≠b) :
  Inv X nA σ H' { s with heap:=h',gens:=g',drawn:=d',toks:=t' }:=by
 obtain⟨m,⟨o,P,Q,G,r⟩,_⟩:=id I.loc;obtain⟨R,B⟩:=u.any G I.free λz=>(t _ z).2.1 rfl
 exact I.step (ch:=ch) t (λb o B L l e n=>u.keep b o e n (λz=>(ar.mp (I.stkSub b z)).elim B L) l) (λb o _ _ l e n=>u.any e n l) (λb o l e n=>u.free b o e n l) (λb o l e=>u.there b o e l) u.tups u.frzs u.tbls (λS M=>by
  obtain⟨U,C,E,y,O⟩:=M;rw[G]at y;cases y;exact⟨_,C,E,B,O⟩) hok J
theorem Inv.turned{t':Nat}{l:Addr}(I:Inv X nA σ H s) (k:∀b o,b≠l->s.heap.get? b=some o->h'.get? b=some o) (hn:H l=none) (B:l≠X.env.locals)
  (h1:l∈X.ex∨X.s₀.heap.objs.size<=l) (h2:∀x c,X.env.cells.lookup x=some c->c≠l) (C:∀p∈X.pn++nA,p.1≠l):Inv X nA σ H { s with heap:=h',toks:=t' }:=by
 have y:∀b u,H b=some u->b≠l:=λb u e z=>by rw[z,hn]at e;cases e
 refine I.step (g':=s.gens) (d':=s.drawn) (ch:=[l]) (λb E=>?_) (λb o _ _ t e _=>k b o (λz=>t (by simp[z])) e) (λb o _ _ t e _=>⟨o.slots,k b o (λz=>t (by simp[z])) e⟩) (λ_ _ _ _ n=>n)
  (λb o t e=>⟨o,k b o (λz=>t (by simp[z])) e⟩) (λ_ _ e=>e) (λ_ _ _ e=>e) (λb O e=>⟨#[],by rw[e];simp⟩) (λm G=>?_) (λb u e=>?_) I.bare
 .have e:b=l:=by simpa using E
  subst e;exact⟨h1,B,h2,C⟩
 .obtain ⟨o,J,L,M,r⟩:=G;exact⟨o,J,L,k _ o (Ne.symm B) M,r⟩
 .refine (I.hok b u e).stay (λc v t q=>k c v ?_ q) (λ_ q=>q) λ_ _ q=>q
  rcases t with z|z
  .rw [z];exact y b u e
  .exact y c _ z
theorem Inv.tok(I:Inv X nA σ H s) (t:Nat):Inv X nA σ H { s with toks:=t }:=I.un (h':=s.heap) (t':=t) Un.refl I.hok
theorem Inv.kept{t':Nat}(I:Inv X nA σ H s) (k:∀b u,s.heap.get? b=some u->h'.get? b=some u):Inv X nA σ H { s with heap:=h',toks:=t' }:=I.un (Un.kept k) (I.hok.kept k)
theorem Inv.laid{a:Addr}{o:HO}{t':Nat}(I:Inv X nA σ H s) (k:∀b u,s.heap.get? b=some u->h'.get? b=some u) (l:s.heap.objs.size<=a) (new:qT X.prog X.w (qG H a o) h' a o) :
  Inv X nA σ (qG H a o) { s with heap:=h',toks:=t' }:=I.un (Un.laid k l (I.hok.fresh l)) (I.hok.laid k l new)
theorem Inv.write{x e:Addr}{o:HO}{t':Nat}(I:Inv X nA σ H s) (mu:Ym (H x)) (n:e=x∨H e=some (.own x)) (k:∀b u,b≠e->s.heap.get? b=some u->h'.get? b=some u) (l:∃u,h'.get? e=some u)
  (new:qT X.prog X.w (qG H x o) h' x o):Inv X nA σ (qG H x o) { s with heap:=h',toks:=t' }:=I.un (Un.write mu n k l) (I.hok.write mu n k l new)
theorem Inv.pins_of{l:List (Addr×Obj)}(I:Inv X nA σ H s) (h:∀p∈l,s.heap.get? p.1=some p.2/\H p.1=none/\p.1≠X.env.locals/\p.1∉X.fs/\∀v,p.2.data ≠ .cell v):Inv X l σ H s :=
 ⟨I.ok,I.os,I.bare,I.base,I.loc,I.cell,I.free,I.freeC,λp n=>(mAq.mp n).elim (λz=>I.pin p (bQ _ z)) (h p),I.hok,I.len⟩
theorem Jg{N:List Str}(l:N.Nodup) {i j:Nat}{x:Str}(a:N[i]?=some x) (b:N[j]?=some x):i=j:=by
 obtain⟨h1,n⟩:=gSq.mp a;obtain⟨h2,r⟩:=gSq.mp b;exact(List.getElem_inj l).mp (n.trans r.symm)
theorem NT{M:Model}{A:Around}{E:Value->Shared->Prop}{i:Nat}{x:Str}{v:V}{u:Value}{Q:Unit->Shared->Prop}(I:Inv X nA σ H s) (hN:X.N.Nodup) (Y:X.N[i]?=some x) (G:WD X.env.scope x) (r:qc v u)
  (h:∀s',Inv X nA (σ.set i (some v)) H s'->(∃a,fg a s.heap s'.heap/\(a=X.env.locals∨X.env.cells.lookup x=some a))->Q () s') (hf:X.fn x=true∨X.env.scope.names.lookup x=some .local:=by trivial):jj M A (storeName X.env x u) Q E s:=by
 obtain⟨m,hn,hl⟩:=id I.loc;have hcls:(X.env.scope.kind == .class || (X.env.scope.kind == .module && X.env.locals != X.env.globals))=false:=by rw[I.ok.kind];rfl
 have O:i<σ.length:=by rw[I.len];exact(gSq.mp Y).1
 have cne:=I.cne;have t:∀{a:Addr}{h':Heap},(∃o,s.heap.get? a=some o/\H a=none)->fg a s.heap h'->Be X.prog X.w H h':=λ{a h'} ha l b ob e=>by
  obtain⟨_,_,J⟩:=ha;refine(I.hok b ob e).stay (λc w' C q=>(l.2 c ?_).trans q) (λ_ q=>q) λ_ _ q=>q
  rintro rfl;rcases C with rfl|C
  .rw [J]at e;cases e
  .rw [J]at C;cases C
 rcases G with P|P
 .refine wpAny_storeName_local P hn (λh' hn' l=>?_) hcls
  obtain⟨oL,_,_,hoL,_⟩:=id hn;refine h _ ⟨I.ok,I.os,I.bare,⟨λb o e n R G=>?_,λb o e n R G=>?_,I.base.free,λb o e G=>?_,I.base.tups,I.base.frzs,I.base.tbls⟩,⟨_,hn',λj y v' B L e3=>?_⟩,λy c e=>?_,I.free,I.freeC,λp hp=>?_,t ⟨oL,hoL,I.free⟩ l,by simpa using I.len⟩ ⟨_,l,.inl rfl⟩
  .exact (l.2 b (aq (aV (ae e) I.ok.above))).trans (I.base.keep b o e n R G)
  .obtain ⟨sl,B⟩:=I.base.slot b o e n R G;exact⟨sl,(l.2 b (aq (aV (ae e) I.ok.above))).trans B⟩
  .obtain ⟨o',B⟩:=I.base.there b o e G;exact⟨o',(l.2 b (aq (aV (ae e) I.ok.above))).trans B⟩
  .by_cases S:j=i
   .subst S;rw[Y]at B;cases B;rw[aQ O]at L;cases L;exact⟨u,r,.inl ⟨P,by simp⟩⟩
   .rw [aG (Ne.symm S)]at L;obtain⟨u',r',q⟩:=hl j y v' B L e3;refine⟨u',r',?_⟩;rcases q with ⟨k,e⟩|⟨k,c,e,z⟩
    .refine .inl ⟨k,?_⟩;have:y≠x:=λe=>S (Jg hN B (e ▸ Y))
     simp[this,e]
    .exact .inr ⟨k,c,e,z.sameBut l (cne y c e)⟩
  .obtain ⟨w',z⟩:=I.cell y c e;exact⟨w',z.sameBut l (cne y c e)⟩
  .obtain ⟨e,n,ne,nf,d⟩:=I.pin p hp;exact⟨(l.2 p.1 ne).trans e,n,ne,nf,d⟩
 .have U:X.fn x=true:=by
   rcases hf with z|z
   .exact z
   .rw [z]at P;cases P
  obtain⟨c,C⟩:=I.ok.has x (.inl P);obtain⟨w',z⟩:=I.cell x c C;refine wpAny_storeName_cell I.ok.kind P C z (λh' hc' l=>?_)
  obtain⟨oc,hoc,hocd⟩:=id z;refine h { s with heap:=h' } ⟨I.ok,I.os,I.bare,⟨λb o e n R G=>?_,λb o e n R G=>?_,I.base.free,λb o e G=>?_,I.base.tups,I.base.frzs,I.base.tbls⟩,⟨m,hn.sameBut l (Ne.symm (cne x c C)),λj y v' B L e3=>?_⟩,λy c' e=>?_,I.free,I.freeC,λp hp=>?_,t ⟨oc,hoc,I.freeC x c C⟩ l,by simpa using I.len⟩ ⟨c,l,.inr C⟩
  .exact (l.2 b (aq (aV (ae e) (I.ok.cab x c U C)))).trans (I.base.keep b o e n R G)
  .obtain ⟨sl,B⟩:=I.base.slot b o e n R G;exact⟨sl,(l.2 b (aq (aV (ae e) (I.ok.cab x c U C)))).trans B⟩
  .obtain ⟨o',B⟩:=I.base.there b o e G;exact⟨o',(l.2 b (aq (aV (ae e) (I.ok.cab x c U C)))).trans B⟩
  .by_cases S:j=i
   .subst S;rw[Y]at B;cases B;rw[aQ O]at L;cases L;exact⟨u,r,.inr ⟨.inl P,c,C,hc'⟩⟩
   .rw [aG (Ne.symm S)]at L;obtain⟨u',r',q⟩:=hl j y v' B L e3;refine⟨u',r',?_⟩;rcases q with q|⟨k,c',e,z'⟩
    .exact .inl q
    .refine .inr ⟨k,c',e,z'.sameBut l ?_⟩;rintro rfl;exact S (Jg hN B (I.ok.inj _ _ _ e C ▸ Y))
  .by_cases hcc:c'=c
   .subst hcc;exact⟨_,hc'⟩
   .obtain ⟨w2,z2⟩:=I.cell y c' e;exact⟨w2,z2.sameBut l hcc⟩
  .obtain ⟨e,n,ne,nf,d⟩:=I.pin p hp;refine⟨(l.2 p.1 ?_).trans e,n,ne,nf,d⟩;intro q;rw[q,hoc]at e;have q':oc=p.2:=aT.inj e;exact d w' (by rw[←q'];exact hocd)
theorem DO{M:Model}{A:Around}{E:Value->Shared->Prop}{i:Nat}{x:Str}{v:V}{u:Value}{Q:Unit->Shared->Prop}(I:Inv X nA σ H s) (n:X.N.Nodup) (t:X.N[i]?=some x) (y:WD X.env.scope x) (r:qc v u)
  (h:∀l,Inv X nA (σ.set i (some v)) H l->Q () l) (z:X.fn x=true∨X.env.scope.names.lookup x=some .local:=by trivial):jj M A (storeName X.env x u) Q E s :=
 NT I n t y r (λl B _=>h l B) z
theorem Inv.call'{l:Shared}{ch:List Addr}(I:Inv X nA σ H s) (r:l.os=s.os) (u:Un (OY X.stack) ch H H' s.heap l.heap) (hok:Be X.prog X.w H' l.heap) (t:kS l.gens)
  (n:∀b∈ch,(b∈X.ex∨X.s₀.heap.objs.size<=b)/\b≠X.env.locals/\(∀x c,X.env.cells.lookup x=some c->c≠b)/\∀p∈X.pn++nA,p.1≠b):Inv X nA σ H' l:=by
 obtain⟨h',y,z,B,C⟩:=l;have e:C=s.os:=r;subst e;exact I.call (g':=y) (t':=B) (d':=z) u hok t n
end
abbrev XK:=Value->Option Addr->Hp->Prop
abbrev St:=List (Option V)
abbrev VK:=V->Hp->Prop
abbrev TE:=St->Hp->VK->Prop
abbrev TT:=St->Hp->(Bool->Hp->Prop)->Prop
abbrev TA:=St->Hp->(List V->Hp->Prop)->Prop
structure Av where
 nx:St->Hp->Prop
 rt:VK
 bk:St->Hp->Prop:=λ_ _=>False
 ct:St->Hp->Prop:=λ_ _=>False
abbrev TS:=Av->St->Hp->Prop
def EP(X:Cx) (n:List (Addr×Obj)) (σ:St) (Q:VK) (u:Value) (r:Shared):Prop:=∃v l,Inv X n σ l r/\qc v u/\Q v l
def TP(X:Cx) (n:List (Addr×Obj)) (σ:St) (Q:Bool->Hp->Prop) (b:Bool) (r:Shared):Prop:=∃l,Inv X n σ l r/\Q b l
def AP(X:Cx) (n:List (Addr×Obj)) (σ:St) (Q:List V->Hp->Prop) (us:List Value) (r:Shared):Prop:=∃vs l,Inv X n σ l r/\oV vs us/\Q vs l
def SP(X:Cx) (r:List (Addr×Obj)) (D:Av) (f:Flow) (s:Shared):Prop :=
 match f with
 | .next=>∃l n,Inv X r l n s/\D.nx l n
 | .brk=>∃l n,Inv X r l n s/\D.bk l n
 | .cont=>∃l n,Inv X r l n s/\D.ct l n
 | .ret u=>∃v l n,Inv X r l n s/\qc v u/\D.rt v n
def PE(X:Cx) (e:Expr) (t:TE):Prop :=
 ∀(l:List (Addr×Obj)) (s:Shared) (σ:St) (H:Hp) (Q:VK),Inv X l σ H s->t σ H Q->jj (jm X.prog X.w) X.A (eval e X.env) (EP X l σ Q) X.xe s
def PT(X:Cx) (e:Expr) (t:TT):Prop :=
 ∀(l:List (Addr×Obj)) (s:Shared) (σ:St) (H:Hp) (Q:Bool->Hp->Prop),Inv X l σ H s->t σ H Q->jj (jm X.prog X.w) X.A (isTrue e X.env (eval e X.env)) (TP X l σ Q) X.xe s
def PW(X:Cx) (e:Expr) (t:TT):Prop :=
 ∀(l:Sem Value) (n:List (Addr×Obj)) (s:Shared) (σ:St) (H:Hp) (Q:Bool->Hp->Prop),Inv X n σ H s->t σ H Q->jj (jm X.prog X.w) X.A (isTrue e X.env l) (TP X n σ Q) X.xe s
theorem PW.pt{X:Cx}{e:Expr}{t:TT}(h:PW X e t):PT X e t:=h _
def PA(X:Cx) (es:List Expr) (t:TA):Prop :=
 ∀(pos:Pos) (l:List (Addr×Obj)) (s:Shared) (σ:St) (H:Hp) (Q:List V->Hp->Prop),Inv X l σ H s->t σ H Q->jj (jm X.prog X.w) X.A (mU (kC pos (jv es X.env))) (AP X l σ Q) X.xe s
def PS(X:Cx) (st:Stmt) (t:TS):Prop :=
 ∀(l:List (Addr×Obj)) (s:Shared) (σ:St) (H:Hp) (D:Av),Inv X l σ H s->t D σ H->jj (jm X.prog X.w) X.A (exec st X.env) (SP X l D) X.xe s
def NC(X:Cx) (st:List Stmt) (t:TS):Prop :=
 ∀(l:List (Addr×Obj)) (s:Shared) (σ:St) (H:Hp) (D:Av),Inv X l σ H s->t D σ H->jj (jm X.prog X.w) X.A (execs st X.env) (SP X l D) X.xe s
theorem sv{α:Type}{t:Sem α}{Q l:α->Shared->Prop}{M:Model}{A:Around}{E:Value->Shared->Prop}{s:Shared}(h:jj M A t Q E s) (n:∀a s,Q a s->l a s):jj M A t l E s:=jF h n λ_ _ x=>x
section
variable {X:Cx}
noncomputable def zo(i:Nat):TE:=λσ H Q=>∃v,σ[i]?=some (some v)/\Q v H
def tC(v:V):TE:=λ_ H Q=>Q v H
theorem Vu{i:Nat}{x:Str}{pos:Pos}(C:X.N[i]?=some x) (E:Yn X.env.scope x) (hd:(x == ("__debug__" : Str))=false:=by decide) (z:(x == ("__classdict__" : Str))=false:=by decide):PE X (.Name x pos) (zo i):=by
 intro G s σ H Q I h;obtain⟨v,e,h⟩:=h;obtain⟨m,hn,hl⟩:=I.loc;obtain⟨u,r,l⟩:=hl i x v C e E;have t:EP X G σ Q u s:=⟨v,H,I,r,h⟩;rcases l with ⟨y,J⟩|⟨y,c,B,n⟩
 .exact wpAny_Name (mH I.ok.kind y hn J t) hd
 .rcases y with y|y
  .exact wpAny_Name (mO I.ok.kind y B n t) hd
  .exact wpAny_Name (wpAny_loadName_free I.ok.kind y B n t z) hd
theorem nL{i j pos}:PE X (.Constant (.int i) j pos) (tC (.int i)):=λ_ _ _ H _ I h=>wpAny_Constant_int ⟨.int i,H,I.tok _,⟨_,rfl⟩,h⟩
theorem tY{b j pos}:PE X (.Constant (.bool b) j pos) (tC (.bl b)):=λ_ _ _ H _ I h=>Constant_bool ⟨.bl b,H,I,rfl,h⟩
def Gl(X:Cx) (x:Str):Prop:=X.env.kindOf x=some .globalImplicit
theorem RB{E:Value->Shared->Prop}{l:List (Addr×Obj)}{s:Shared}{σ:St}{H:Hp}{x:Str}{u:Value}{pos:Pos}{Q:Value->Shared->Prop}(I:Inv X l σ H s) (n:Gl X x) (r:X.mg x=some u) (h:Q u s)
  (hd:(x == ("__debug__" : Str))=false:=by decide):jj (jm X.prog X.w) X.A (eval (.Name x pos) X.env) Q E s :=
 Calls.Name_function_global I.ok.kind n (Calls.loadGlobal_global (by rw[I.ok.glob];exact I.mod.glob.keeps I.bk) r h) hd
theorem vm{E:Value->Shared->Prop}{l:List (Addr×Obj)}{s:Shared}{σ:St}{H:Hp}{x:Str}{u:Value}{pos:Pos}{Q:Value->Shared->Prop}(I:Inv X l σ H s) (n:Gl X x) (r:X.mg x=none) (t:kA x=some u) (h:Q u s)
  (hn:x ≠ "__name__" := by decide) (hd:(x == ("__debug__" : Str))=false:=by decide):jj (jm X.prog X.w) X.A (eval (.Name x pos) X.env) Q E s:=by
 obtain⟨y,h1,h2⟩:=I.mod.blt;exact Calls.Name_function_global I.ok.kind n (Calls.loadGlobal_builtin (by rw[I.ok.glob];exact I.mod.glob.keeps I.bk) r (by rw[I.ok.blt];exact h1.keeps I.bk) ((h2 x hn).trans t) h) hd
theorem Bi{x:Str}{v:V}{u:Value}{pos:Pos}(l:Gl X x) (n:X.mg x=none) (s:kA x=some u) (r:qc v u) (hn:x ≠ "__name__" := by decide) (hd:(x == ("__debug__" : Str))=false:=by decide):PE X (.Name x pos) (tC v) :=
 λ_ _ _ H _ I h=>vm I l n s ⟨v,H,I,r,h⟩ hn hd
variable {a b:Expr}{ta tb:TE}{pos:Pos}
def PC(X:Cx) (op:CmpOp) (a b:Expr) (t:TE):Prop :=
 ∀(r:List (Addr×Obj)) (s:Shared) (σ:St) (H:Hp) (Q:VK),Inv X r σ H s->t σ H Q ->
  jj (jm X.prog X.w) X.A (eval a X.env) (λv l=>jj (jm X.prog X.w) X.A (eval b X.env) (λu n=>jj (jm X.prog X.w) X.A (jQ op v u) (EP X r σ Q) X.xe n) X.xe l) X.xe s
noncomputable def tB(t:TE):TT:=λσ H Q=>t σ H λx l=>∃c,x = .bl c/\Q c l
theorem Ag{op:CmpOp}{t:TE}(h:PC X op a b t) (h1:kM op b=false:=by first|exact l _ (by decide) (by decide)|rfl):PT X (.Compare a [op] [b] pos) (tB t):=by
 intro n s σ H Q I r;refine mj (sv (h n s σ H _ I r) λv E h1=>sv h1 λu G h2=>sv h2 λc J ⟨x,y,z,B,C⟩=>?_) h1
 obtain⟨d,rfl,q⟩:=C;cases B;exact jE ⟨y,z,q⟩
theorem yZ{e:Expr}{t:TE}(h:PE X e t) (n:∀l,isTrue e X.env l=(do let v ←l;standAt e.pos;holding [v] (truthy v)):=by intro _;rfl):PT X e (tB t):=by
 intro r s σ H Q I u;refine isTrue_plain (sv (h r s σ H _ I u) λv E ⟨x,y,z,B,C⟩=>?_) (n _)
 obtain⟨d,rfl,q⟩:=C;cases B;exact jE ⟨y,z,q⟩
variable {tA tB':TT}{oY:List Expr}
noncomputable def WO(t u:TT):TT:=λσ H Q=>t σ H λc l=>if c=true then u σ l Q else Q false l
noncomputable def ZR(t u:TT):TT:=λσ H Q=>t σ H λc l=>if c=true then Q true l else u σ l Q
def XT(t:TT):TT:=λσ H Q=>t σ H λc l=>Q (!c) l
theorem K0(l:PT X a tA):PW X (.BoolOp .And [a] pos) tA:=by
 intro r n s σ H Q I h;refine isTrue_and (sv (l n s σ H Q I h) λc t e=>?_)
 cases c with
 |true=>exact isTrue_and_nil e
 |false=>exact e
theorem AQ(l:PT X a tA):PW X (.BoolOp .Or [a] pos) tA:=by
 intro r n s σ H Q I h;refine isTrue_or (sv (l n s σ H Q I h) λc t e=>?_)
 cases c with
 |false=>exact isTrue_or_nil e
 |true=>exact e
theorem Qt(u:PT X a tA) (x:PW X (.BoolOp .And (b::oY) pos) tB'):PW X (.BoolOp .And (a::b::oY) pos) (WO tA tB'):=by
 intro y l s σ H Q I h;refine isTrue_and (sv (u l s σ H _ I h) λc z ⟨n,r,t⟩=>?_)
 cases c with
 |true=>exact x y l z σ n Q r t
 |false=>exact⟨n,r,t⟩
theorem CF(u:PT X a tA) (x:PW X (.BoolOp .Or (b::oY) pos) tB'):PW X (.BoolOp .Or (a::b::oY) pos) (ZR tA tB'):=by
 intro y l s σ H Q I h;refine isTrue_or (sv (u l s σ H _ I h) λc z ⟨n,r,t⟩=>?_)
 cases c with
 |true=>exact⟨n,r,t⟩
 |false=>exact x y l z σ n Q r t
theorem A3(l:PT X a tA):PT X (.UnaryOp .Not a pos) (XT tA):=by
 intro n s σ H Q I h;exact isTrue_not (l n s σ H (λc r=>Q (!c) r) I h)
noncomputable def UE(ta tb:TE):TE:=λσ H Q=>ta σ H λx l=>∃c,x = .bl c/\if c=true then tb σ l Q else Q (.bl false) l
noncomputable def Uy(ta:TE):TE:=λσ H Q=>ta σ H λx l=>∃c,x = .bl c/\Q (.bl (!c)) l
theorem Pn{op} {t:TE}(h:PE X a t):PE X (.BoolOp op [a] pos) t:=λl s σ H Q I n=>BoolOp_one (h l s σ H Q I n)
theorem Om(u:PE X a ta) (y:PE X (.BoolOp .And (b::oY) pos) tb):PE X (.BoolOp .And (a::b::oY) pos) (UE ta tb):=by
 intro n s σ H Q I h;refine BoolOp_and (sv (u n s σ H _ I h) λv z ⟨x,r,t,B,l⟩=>?_)
 obtain⟨c,rfl,l⟩:=l;cases B;refine jE ?_;cases c with
 |true=>exact y n z σ r Q t l
 |false=>exact⟨.bl false,r,t,rfl,l⟩
theorem WB(n:PE X a ta):PE X (.UnaryOp .Not a pos) (Uy ta):=by
 intro r s σ H Q I h;refine UnaryOp_ (sv (n r s σ H _ I h) λv z ⟨x,t,u,y,l⟩=>?_)
 obtain⟨c,rfl,l⟩:=l;cases y;exact not_of (jE ⟨.bl (!c),t,u,rfl,l⟩)
end
def qV(K:W.Frag) (H:Hp) (a:Addr) (xs:List V):Prop :=
 Rd H a (.lst xs) ∨
  ∃(o:Obj) (l:Array Value) (n:Nat),K.lookup a=some o/\o.cls = .type "list" /\ o.dict=none/\o.data = .seq l n/\l.size<=jn/\oV xs l.toList
def EO(K:W.Frag) (H:Hp) (a:Addr) (xs:List V):Prop :=
 Rd H a (.tup xs) ∨
  ∃(o:Obj) (l:Array Value) (n:Nat),K.lookup a=some o/\o.cls = .type "tuple" /\ o.data = .seq l n/\l.size<=jn/\oV xs l.toList
noncomputable def YV:Value->Option V
 | .none=>some .non
 | .bool b=>some (.bl b)
 | .int i _=>some (.int i)
 | .str x _=>some (.str x)
 | .bytes b _=>some (.byt b)
 | .float b _=>some (.flt b)
 | .ref a=>some (.ref a)
 | .type n=>some (.ty n)
 |_=>none
theorem qc.abs{x:V}{u:Value}(r:qc x u):YV u=some x:=by
 cases x with
 |non=>cases r;rfl
 |bl _=>cases r;rfl
 |int _=>obtain⟨t,rfl⟩:=r;rfl
 |str _=>obtain⟨t,rfl⟩:=r;rfl
 |byt _=>obtain⟨t,rfl⟩:=r;rfl
 |flt _=>obtain⟨t,rfl⟩:=r;rfl
 |ref _=>cases r;rfl
 |ty _=>cases r;rfl
theorem qc.inj{x y:V}{u:Value}(r:qc x u) (q:qc y u):x=y:=aT.inj (r.abs.symm.trans q.abs)
theorem oV.inj:∀{xs ys:List V}{us:List Value},oV xs us->oV ys us->xs=ys
 |_,_,_,.nil,.nil=>rfl
 |_,_,_,.cons r t,.cons l n=>by rw[r.inj l,oV.inj t n]
section
variable {X:Cx}{nA:List (Addr×Obj)}{σ:St}{H:Hp}{s:Shared}{a:Addr}{xs ys:List V}
theorem qV.of{K:W.Frag}(h:H a=some (.lst xs)):qV K H a xs:=.inl (.inl h)
theorem EO.of{K:W.Frag}(h:H a=some (.tup xs)):EO K H a xs:=.inl (.inl h)
theorem Inv.list(I:Inv X nA σ H s) (h:qV X.K H a xs):∃l:List Value,oV xs l/\mF s.heap a l.toArray/\xs.length<=jn:=by
 rcases h with h|⟨o,l,n,t,u,hd,x,y,r⟩
 .obtain ⟨z,l,n,r,e⟩:=h.ok I.hok;exact⟨l,r,⟨_,n,e,rfl,rfl,rfl⟩,z⟩
 .refine ⟨l.toList,r,⟨o,n,I.kIn a o t,u,hd,by simpa using x⟩,?_⟩
  have e:=r.length;simp only[bI]at e;lia
theorem Inv.tuple(I:Inv X nA σ H s) (h:EO X.K H a xs):∃l:List Value,oV xs l/\IsTup s.heap a l.toArray/\xs.length<=jn:=by
 rcases h with h|⟨o,l,n,t,u,x,y,r⟩
 .obtain ⟨z,l,r,p⟩:=h.ok I.hok;exact⟨l,r,p,z⟩
 .refine ⟨l.toList,r,⟨o,I.kIn a o t,u,n,by simpa using x⟩,?_⟩
  have e:=r.length;simp only[bI]at e;lia
theorem Inv.list_inj(I:Inv X nA σ H s) (h:qV X.K H a xs) (h':qV X.K H a ys):xs=ys:=by
 obtain⟨t,r,⟨o,n,e,_,_,d⟩,_⟩:=I.list h;obtain⟨l,y,⟨B,C,u,_,_,x⟩,_⟩:=I.list h';rw[e]at u;cases u;rw[d]at x;injection x with z _
 have:t=l:=by simpa using congrArg Array.toList z
 subst this;exact r.inj y
end
noncomputable abbrev Cx.wish(X:Cx) (E:Value->Shared->Prop):Cx:={ X with xe:=E }
abbrev Cx.nox(X:Cx):Cx:=X.wish λ_ _=>False
theorem Cx.Ok.wish{X:Cx}(ok:X.Ok) (E:Value->Shared->Prop):(X.wish E).Ok :=
 ⟨ok.mod,ok.kind,ok.glob,ok.blt,ok.above,ok.inj,ok.has,ok.cab,ok.hd,ok.frames,ok.stk,ok.exf,ok.bs,ok.bsz,ok.noex,ok.exfs,ok.funs,ok.frf⟩
theorem Cx.Ok.unwish{X:Cx}{E:Value->Shared->Prop}(ok:(X.wish E).Ok):X.Ok :=
 ⟨ok.mod,ok.kind,ok.glob,ok.blt,ok.above,ok.inj,ok.has,ok.cab,ok.hd,ok.frames,ok.stk,ok.exf,ok.bs,ok.bsz,ok.noex,ok.exfs,ok.funs,ok.frf⟩
section
variable {X:Cx}{nA:List (Addr×Obj)}{σ:St}{H:Hp}{s:Shared}{E:Value->Shared->Prop}
theorem Inv.wish(I:Inv X nA σ H s) (E:Value->Shared->Prop):Inv (X.wish E) nA σ H s:=⟨I.ok.wish E,I.os,I.bare,I.base,I.loc,I.cell,I.free,I.freeC,I.pin,I.hok,I.len⟩
theorem Inv.unwish(I:Inv (X.wish E) nA σ H s):Inv X nA σ H s:=⟨I.ok.unwish,I.os,I.bare,I.base,I.loc,I.cell,I.free,I.freeC,I.pin,I.hok,I.len⟩
theorem SP.unwish{D:Av}{f:Flow}{t:Shared}(h:SP (X.wish E) nA D f t):SP X nA D f t:=by
 cases f with
 |next=>obtain⟨l,n,I,q⟩:=h;exact⟨l,n,I.unwish,q⟩
 |brk=>obtain⟨l,n,I,q⟩:=h;exact⟨l,n,I.unwish,q⟩
 |cont=>obtain⟨l,n,I,q⟩:=h;exact⟨l,n,I.unwish,q⟩
 |ret u=>obtain⟨v,l,n,I,r,q⟩:=h;exact⟨v,l,n,I.unwish,r,q⟩
theorem NC.nox{st:List Stmt}{t:TS}(h:NC X.nox st t):NC X st t:=λnA s σ H D I l =>
 jF (h nA s σ H D (I.wish _) l) (λ_ _ q=>q.unwish) λ_ _ z=>False.elim z
end
section
variable {X:Cx}{st:Stmt}{oY:List Stmt}{t u:TS}{e:Expr}{te:TE}{pos:Pos}
def Uk:TS:=λD σ H=>D.nx σ H
def PQ(t u:TS):TS:=λD σ H=>t { D with nx:=u D } σ H
theorem pB:NC X [] Uk:=λ_ _ σ H _ I h=>kW ⟨σ,H,I,h⟩
theorem ny(h1:PS X st t) (h2:NC X oY u):NC X (st::oY) (PQ t u):=by
 intro n s σ H D I h;refine wpAny_execs_cons (sv (h1 n s σ H { D with nx:=u D } I h) λf r q=>?_)
 cases f with
 |next =>
  obtain⟨l,x,y,q⟩:=q;exact h2 n r l x D y q
 |ret v=>exact q
 |brk=>exact q
 |cont=>exact q
theorem nJ(h1:PS X st t):NC X [st] t:=by
 intro l s σ H D I h;refine wpAny_execs_cons (sv (h1 l s σ H D I h) λf n q=>?_)
 cases f with
 |next=>exact kW q
 |ret v=>exact q
 |brk=>exact q
 |cont=>exact q
theorem Inv.quiet{l:List (Addr×Obj)}{σ:St}{H:Hp}{s:Shared}(I:Inv X l σ H s):interactive X.env=false:=by simp[interactive,I.ok.kind]
def Aw(te:TE):TS:=λD σ H=>te σ H λ_ l=>D.nx σ l
theorem qe(l:PE X e te) (n:mR e none pos.line X.env=pure false:=by rfl):PS X (.Expr e pos) (Aw te):=by
 intro r s σ H D I h;exact wpAny_Expr_any (sv (l r s σ H _ I h) λv C ⟨x,y,z,E,B⟩=>⟨σ,y,z,B⟩) I.quiet n
def XZ(te:TE):TS:=λD σ H=>te σ H D.rt
theorem oy(l:PE X e te):PS X (.Return (some e) pos) (XZ te):=by
 intro n s σ H D I h;exact wpAny_Return_some (sv (l n s σ H _ I h) λv C ⟨x,r,y,z,B⟩=>⟨x,σ,r,y,z,B⟩)
noncomputable def RM(c:TT) (t u:TS):TS:=λD σ H=>c σ H λb l=>if b=true then t D σ l else u D σ l
theorem qU{c:Expr}{a b:List Stmt}{n:TT}(B:PT X c n) (C:NC X a t) (E:NC X b u):PS X (.If c a b pos) (RM n t u):=by
 intro l s σ H D I h;refine wpAny_If (sv (B l s σ H _ I h) λd r ⟨x,y,z⟩=>?_)
 cases d with
 |true=>exact C l r σ x D y z
 |false=>exact E l r σ x D y z
def Rf:TS:=λ_ _ _=>False
theorem Hw:PS X st Rf:=λ_ _ _ _ _ _ h=>h.elim
end
abbrev TG:=V->St->Hp->(St->Hp->Prop)->Prop
abbrev Wq:=List V->St->Hp->(St->Hp->Prop)->Prop
def PG(X:Cx) (l:Expr) (t:TG):Prop :=
 ∀(r:List (Addr×Obj)) (s:Shared) (σ:St) (H:Hp) (v:V) (u:Value) (Q:St->Hp->Prop),Inv X r σ H s->qc v u->t v σ H Q ->
  jj (jm X.prog X.w) X.A (assign l X.env u) (λ_ y=>∃n x,Inv X r n x y/\Q n x) X.xe s
def Yv(X:Cx) (u:List Expr) (t:Wq):Prop :=
 ∀(n:List (Addr×Obj)) (s:Shared) (σ:St) (H:Hp) (vs:List V) (us:List Value) (Q:St->Hp->Prop),Inv X n σ H s->oV vs us->t vs σ H Q ->
  jj (jm X.prog X.w) X.A (assignInOrder ((lH u X.env).map (·.2)) us) (λ_ x=>∃l r,Inv X n l r x/\Q l r) X.xe s
abbrev YB:=V->V->Hp->VK->Prop
def ZC(X:Cx) (op:Operator) (t:YB):Prop :=
 ∀(l:List (Addr×Obj)) (s:Shared) (σ:St) (H:Hp) (x y:V) (v u:Value) (Q:VK),Inv X l σ H s->qc x v->qc y u->t x y H Q ->
  jj (jm X.prog X.w) X.A (inplaceOp op v u) (EP X l σ Q) X.xe s
section
variable {X:Cx}{pos:Pos}
noncomputable def tm(i:Nat):TG:=λv σ H Q=>Q (σ.set i (some v)) H
theorem oP{i:Nat}{x:Str}(l:X.N.Nodup) (n:X.N[i]?=some x) (t:WD X.env.scope x) (y:X.fn x=true∨X.env.scope.names.lookup x=some .local:=by trivial):PG X (.Name x pos) (tm i):=by
 intro B s σ H v u Q I r h;exact wpAny_assign_Name (DO I l n t r (λC z=>⟨_,H,z,h⟩) y)
def Ny:Wq:=λvs σ H Q=>vs=[]/\Q σ H
noncomputable def zP(t:TG) (u:Wq):Wq:=λvs σ H Q=>∃v r,vs=v::r/\t v σ H λl n=>u r l n Q
theorem Dg:Yv X [] Ny:=by
 intro l s σ H n t Q I r h;obtain⟨e,h⟩:=h;subst e;cases r;exact assignInOrder_nil ⟨σ,H,I,h⟩
theorem vN{e:Expr}{es:List Expr}{t:TG}{u:Wq}(h1:PG X e t) (h2:Yv X es u)
  (x:(lH (e::es) X.env).map (·.2)=assign e X.env::(lH es X.env).map (·.2):=by rfl):Yv X (e::es) (zP t u):=by
 intro n s σ H J L Q I r h;obtain⟨v,M,y,h⟩:=h;subst y;cases r with
 |cons r z =>
  rw[x];refine assignInOrder_cons (sv (h1 n s σ H _ _ _ I r h) λ_ B ⟨l,C,E,G⟩=>?_)
  exact h2 n B l C _ _ Q E z G
noncomputable def Nk(K:W.Frag) (n:Nat) (t:Wq):TG:=λv σ H Q=>∃a xs,v = .ref a/\EO K H a xs/\xs.length=n/\t xs σ H Q
theorem G4{es:List Expr}{k:Nat}{t:Wq}{n:Nat}(B:X.calm=true) (h:Yv X es t)
  (hn:(lH es X.env).length=n:=by rfl) (l:(lH es X.env).findIdx? (·.1)=none:=by rfl):PG X (.Tuple es k pos) (Nk X.K n t):=by
 intro y s σ H v u Q I r x;obtain⟨a,C,E,G,hl,x⟩:=x;subst E;cases r;obtain⟨J,z,ht,P⟩:=I.tuple G;refine assign_Tuple_tuple (I.ok.hd B) ht (by simp[hn,←hl,z.length]) l λL M=>?_
 have O:Inv X y σ H { s with heap:=L }:=I.kept (t':=s.toks) λb o e=>M b o (aq (ae e)) e
 exact h y _ σ H C _ Q O (by simpa using z) x
def Km(te:TE) (g:TG):TS:=λD σ H=>te σ H λx l=>g x σ l D.nx
theorem nS{i:Nat}{x:Str}{e:Expr}{te:TE}{l:Pos}(n:X.N.Nodup) (r:X.N[i]?=some x) (t:WD X.env.scope x) (u:PE X e te) (z:mR e (some (.Name x l)) pos.line X.env=pure false:=by rfl) (B:X.fn x=true∨X.env.scope.names.lookup x=some .local:=by trivial) :
  PS X (.Assign [.Name x l] e pos) (Km te (tm i)):=by
 intro C s σ H D I h;refine wpAny_Assign_Name (sv (u C s σ H _ I h) λv O ⟨y,E,G,J,L⟩=>?_) z
 exact DO G n r t J (λP M=>⟨_,E,M,L⟩) B
def X9(i:Nat) (te:TE) (ti:YB):TS:=λD σ H=>∃x,σ[i]?=some (some x)/\te σ H λy l=>ti x y l λz n=>D.nx (σ.set i (some z)) n
theorem U3{i:Nat}{x:Str}{e:Expr}{te:TE}{op:Operator}{ti:YB}{B:Pos}(O:X.N.Nodup) (M:X.N[i]?=some x) (G:WD X.env.scope x) (P:PE X e te) (Q:ZC X op ti) (R:X.fn x=true∨X.env.scope.names.lookup x=some .local:=by trivial) :
  PS X (.AugAssign (.Name x B) op e pos) (X9 i te ti):=by
 intro J s σ H D I h;obtain⟨v,S,h⟩:=h;obtain⟨m,hn,hl⟩:=I.loc;have L:Yn X.env.scope x:=by rcases G with k|k;exact .inl k;exact .inr (.inl k)
 obtain⟨u,r,l⟩:=hl i x v M S L;refine wpAny_AugAssign_Name ?_;have go:jj (jm X.prog X.w) X.A (eval e X.env) (λw C=>jj (jm X.prog X.w) X.A (inplaceOp op u w) (λr E=>jj (jm X.prog X.w) X.A (storeName X.env x r) (λ_=>SP X J D .next) X.xe E) X.xe C) X.xe s:=by
  refine sv (P J s σ H _ I h) λw U ⟨y,Y,I1,r1,q1⟩=>?_
  refine sv (Q J U σ Y v y u w _ I1 r r1 q1) λz s2 ⟨zv,H2,I2,r2,q2⟩=>?_
  exact DO I2 O M G r2 (λs3 I3=>⟨_,H2,I3,q2⟩) R
 rcases l with ⟨n,hm⟩|⟨n,c,hc,t⟩
 .exact mH I.ok.kind n hn hm go
 .rcases n with n|n
  .exact mO I.ok.kind n hc t go
  .rcases G with k|k
   .have:X.env.scope.names.lookup x=some .free:=n;rw[k]at this;cases this
   .have:X.env.scope.names.lookup x=some .free:=n;rw[k]at this;cases this
noncomputable def YM(f:Int->Int->Int):YB:=λx y H Q=>∃i j,x = .int i/\y = .int j/\Q (.int (f i j)) H
theorem VA:ZC X .Add (YM λi j=>i+j):=by
 intro B s σ H x y v u Q I l n h;obtain⟨i,j,r,z,q⟩:=h;subst r;subst z;obtain⟨t,rfl⟩:=l;obtain⟨C,rfl⟩:=n;exact iadd_int ⟨.int _,H,I.tok _,⟨_,rfl⟩,q⟩
end
section
variable {X:Cx}{pos:Pos}
def OP(c:TT) (t:TS):TS:=λD σ H=>∃W:Nat->St->Hp->Prop,(∃m,W m σ H)/\∀m σ H,W m σ H ->
 c σ H λb n=>if b=true then ∃N:St->Hp->Prop,(∀l r,N l r->∃s,s<m/\W s l r)/\t { D with nx:=N,ct:=N,bk:=D.nx } σ n else D.nx σ n
theorem yn{c:Expr}{body:List Stmt}{L:TT}{M:TS}(O:PassesOwn (jm X.prog X.w) X.A X.env X.xe) (Y:PT X c L) (hb:NC X body M):PS X (.While c body [] pos) (OP L M):=by
 intro z s σ H D I h;obtain⟨W,⟨m0,w0⟩,turn⟩:=h;refine wpAny_While (codeAny_whileLoop (λn s'=>∃t P,Inv X z t P s'/\W n t P) ?_ m0 ⟨σ,H,I,w0⟩)
 rintro n s1 ⟨r,Q,I1,w1⟩;refine jT O (sv (Y z s1 r Q _ I1 (turn n r Q w1)) λb s2 ⟨R,S,x⟩=>?_)
 cases b with
 |true =>
  obtain⟨N,U,x⟩:=x;rw[pQ rfl];refine jT O (sv (hb z s2 r R _ S x) λf s3 y=>?_)
  cases f with
  |next =>
   obtain⟨l,u,B,C⟩:=y;obtain⟨E,G,J⟩:=U l u C;exact⟨E,G,l,u,B,J⟩
  |cont =>
   obtain⟨l,u,B,C⟩:=y;obtain⟨E,G,J⟩:=U l u C;exact⟨E,G,l,u,B,J⟩
  |brk=>exact y
  |ret v=>exact y
 |false =>
  rw[qk aW];exact kW ⟨r,R,S,x⟩
end
structure It where
 go:Nat->Hp->Prop
 yld:Nat->Hp->V->Hp->Prop
 stop:Nat->Hp->Prop
def CT(X:Cx) (l:List (Addr×Obj)) (H:Hp) (b:Addr):Prop :=
 H b=none/\b≠X.env.locals/\b∉X.fs/\(b∈X.ex∨X.s₀.heap.objs.size<=b)/\(∀x c,X.env.cells.lookup x=some c->c≠b)/\∀p∈X.pn++l,p.1≠b
theorem Inv.fpOk{X:Cx}{n:List (Addr×Obj)}{σ:St}{H r:Hp}{s:Shared}{b:Addr}(I:Inv X n σ H s) (l:s.heap.objs.size<=b) (hn:r b=none):CT X n r b:=by
 refine⟨hn,aR (aV I.lt l),I.nofs l,.inr (bw I.sz l),λx c e z=>?_,λp t z=>?_⟩
 .obtain ⟨v,q⟩:=I.cell x c e;exact absurd (aV q.lt (by rw[z];exact l)) (bV _)
 .exact absurd (aV (ae (I.pin p t).1) (by rw[z];exact l)) (bV _)
structure J5 (P:jo) (w:jt) (K:W.Frag) (tg:Expr) (J:It) (fp:List Addr) (it:Addr) (tn:Nat->Heap->Prop):Prop where
 mem:it∈fp
 obj:∀i h,tn i h->∀b∈fp,∃o,h.get? b=some o/\∀v,o.data ≠ .cell v
 keep:∀i h h',tn i h->(∀b∈fp,∀o,h.get? b=some o->h'.get? b=some o)->tn i h'
 item:∀(X:Cx),X.prog=P->X.w=w->X.K=K->X.calm=true->∀(i:Nat) (nA:List (Addr×Obj)) (s:Shared) (σ:St) (H:Hp) (E:Value->Shared->Prop),Inv X nA σ H s->(∀b∈fp,CT X nA H b)->tn i s.heap->J.go i H ->
  jj (jm P w) X.A (kj (.ref it)) (λr s1=>∃u,r=some u /\
   jj (jm P w) X.A (kX tg (.ref it) u) (λ_ s2=>∃x H',Inv X nA σ H' s2/\qc x u/\J.yld i H x H'/\tn (i+1) s2.heap/\∀b∈fp,H' b=none) E s1) E s
 done:∀(X:Cx),X.prog=P->X.w=w->X.K=K->X.calm=true->∀(i:Nat) (nA:List (Addr×Obj)) (s:Shared) (σ:St) (H:Hp) (E:Value->Shared->Prop),Inv X nA σ H s->(∀b∈fp,CT X nA H b)->tn i s.heap->J.stop i H ->
  jj (jm P w) X.A (kj (.ref it)) (λr s1=>r=none/\Inv X nA σ H s1) E s
 self:∀(A:Around) (i:Nat) (s:Shared) (Q:Value->Shared->Prop) (E:Value->Shared->Prop),tn i s.heap->Q (.ref it) s->jj (jm P w) A (pyIter (.ref it)) Q E s
abbrev TI:=St->Hp->(It->Hp->Prop)->Prop
def ZL(X:Cx) (r:List (Addr×Obj)) (σ:St) (x:Expr) (R:It->Hp->Prop) (l:Value) (s:Shared):Prop :=
 ∃(t:Addr) (fp:List Addr) (u:Nat->Heap->Prop) (J:It) (n:Hp),l = .ref t/\Inv X r σ n s/\J5 X.prog X.w X.K x J fp t u/\u 0 s.heap/\(∀b∈fp,CT X r n b)/\R J n
def PI(X:Cx) (n iter:Expr) (r:TI):Prop :=
 ∀(l:List (Addr×Obj)) (s:Shared) (σ:St) (H:Hp) (R:It->Hp->Prop),Inv X l σ H s->r σ H R ->
  jj (jm X.prog X.w) X.A (eval iter X.env) (λv t=>jj (jm X.prog X.w) X.A (pyIter v) (ZL X l σ n R) X.xe t) X.xe s
theorem OQ{M:Model}{A:Around}{E:Value->Shared->Prop}{s:Shared}{r:Expr}{t:Addr}{u:Value}{o:Obj}{n:String}{vs:Array Value}{Q:Unit->Shared->Prop}(x:s.heap.get? t=some o) (y:o.cls = .type n) (hd:o.data = .fields vs)
    (hn:["enumerate", "zip", "dict_itemiterator", "dict_reverseitemiterator", "odict_iterator", "itertools.zip_longest", "itertools.pairwise"].contains n=false) (l:Q () s):jj M A (kX r (.ref t) u) Q E s:=by
  unfold kX;cases r <;> first
    |exact jk l
    | (cases u <;> first
        |exact jk l
        | (refine ji (wpAny_load x ?_)
           rw[y,hd];show jj M A (if (["enumerate", "zip", "dict_itemiterator", "dict_reverseitemiterator", "odict_iterator", "itertools.zip_longest", "itertools.pairwise"].contains n && vs[0]? == some (mD _))=true then _ else _) Q E s
           rw[qk (by intro h;rw[hn,iK]at h;cases h)]
           exact jk l))
noncomputable def XB(K:W.Frag) (a:Addr):It :=
 ⟨λi H=>∃xs x,qV K H a xs/\xs[i]?=some x,λi H x l=>l=H/\∀xs,qV K H a xs->xs[i]?=some x,λi H=>∃xs,qV K H a xs/\xs.length<=i⟩
noncomputable def R8(lo:Int) (n:Nat):It:=⟨λi _=>i<n,λi H x l=>l=H/\x = .int (lo+i),λi _=>n<=i⟩
theorem MR{P:jo}{w:jt}{K:W.Frag}{tg:Expr}(a l:Addr):J5 P w K tg (XB K a) [l] l (λi h=>h.IsListIter l a i) where
 mem:=by simp
 obj:=λi h st b n=>by
  have e:b=l:=by simpa using n
  subst e;obtain⟨o,e,c,d⟩:=st;exact⟨o,e,λv z=>by rw[d]at z;cases z⟩
 keep:=λi h h' st k=>st.at λo e=>k l (by simp) o e
 item:=by
  intro X B C G hc i nA s σ H E I t st J;subst B C G;obtain⟨xs,x,y,L⟩:=J;obtain⟨M,O,p,hz⟩:=I.list y;obtain⟨u,hu,ru⟩:=O.get L;obtain⟨Q,R,f2,S,U,Y⟩:=t l (by simp)
  refine wpAny_pyNext_list_item st p.isList (x:=u) (by simpa using hu) λh' r sb=>?_
  have I1:Inv X nA σ H { s with heap:=h' }:=I.turned (t':=s.toks) (λb o n e=>(sb.2 b n).trans e) Q R S U Y
  obtain⟨o,e,c,d⟩:=id r;exact⟨u,rfl,OQ (s:={ s with heap:=h' }) e c d (by decide) ⟨x,H,I1,ru,⟨rfl,λys hy=>by rw[I.list_inj hy y];exact L⟩,r,λb n=>(t b n).1⟩⟩
 done:=by
  intro X B C G hc i nA s σ H E I t st J;subst B C G;obtain⟨xs,y,L⟩:=J;obtain⟨M,O,p,hz⟩:=I.list y;obtain⟨Q,R,f2,S,U,Y⟩:=t l (by simp)
  have hl:=O.length;exact wpAny_pyNext_list_end (I.ok.hd hc) st p.isList (by simp;lia) λh' eb=>⟨rfl,I.turned (t':=s.toks) (λb o n e=>eb b o n e) Q R S U Y⟩
 self:=λ_ _ _ _ _ st h=>wpAny_pyIter_listiter st h
theorem JG{P:jo}{w:jt}{K:W.Frag}{Y:Expr}(l:Addr) (lo:Int) (n:Nat):J5 P w K Y (R8 lo n) [l] l (λi h=>IsRangeIter h l (lo+(i:Nat)*1) ((n:Int)-(i:Nat)) 1) where
 mem:=by simp
 obj:=λi h st b r=>by
  have e:b=l:=by simpa using r
  subst e;exact⟨_,st,λv z=>by
   have z':Data.fields _=Data.cell v:=z;cases z'⟩
 keep:=λi h h' st k=>k l (by simp) _ st
 item:=by
  intro X y B C G i S s σ H E I x st J;subst y B C;obtain⟨L,M,f2,O,Q,R⟩:=x l (by simp)
  have W:=Walks.range (prog:=X.prog) (w:=X.w) (I.ok.hd G) l lo 1 n;refine W.item i s _ _ J st λv h' U hv u kk=>?_
  obtain⟨t,rfl⟩:=hv;have I1:Inv X S σ H { s with heap:=h',toks:=U }:=I.turned (λb o r e=>kk b o (by simpa using r) e) L M O Q R
  refine⟨_,rfl,OQ (s:={ s with heap:=h',toks:=U }) (n := "range_iterator") u rfl rfl (by decide) ⟨.int (lo+i),H,I1,⟨t,?_⟩,⟨rfl,rfl⟩,u,λb r=>(x b r).1⟩⟩
  rw[eA]
 done:=by
  intro X y B C G i S s σ H E I x st J;subst y B C;obtain⟨L,M,f2,O,Q,R⟩:=x l (by simp)
  exact wpAny_pyNext_range_end (I.ok.hd G) st (by have:n<=i:=J;lia) λh' eb=>⟨rfl,I.turned (t':=s.toks) (λb o r e=>eb b o r e) L M O Q R⟩
 self:=λ_ _ _ _ _ st h=>wpAny_pyIter_rangeiter st h
section
variable {X:Cx}{tg:Expr}
def OA(K:W.Frag) (n:TE):TI:=λσ H R=>n σ H λx l=>∃a,x = .ref a/\(∃xs,qV K l a xs)/\R (XB K a) l
theorem oS{l:Expr}{t:TE}(hl:PE X l t):PI X tg l (OA X.K t):=by
 intro u s σ H R I h;refine sv (hl u s σ H _ I h) λv n ⟨x,y,r,z,B⟩=>?_
 obtain⟨a,e,⟨J,C⟩,q⟩:=B;subst e;cases z;obtain⟨E,L,p,M⟩:=r.list C;refine kH p.isList ?_;refine⟨n.heap.objs.size,[n.heap.objs.size],_,_,y,rfl,r.kept (t':=n.toks) λb o e=>aj _ e,MR a _,⟨_,aL _ rfl,rfl,rfl⟩,λb G=>?_,q⟩
 have e:b=n.heap.objs.size:=by simpa using G
 subst e;exact r.fpOk (ai _) (r.hok.fresh (ai _))
theorem Q1{n:List (Addr×Obj)}{σ:St}{H:Hp}{s:Shared}{R:It->Hp->Prop}{E:Value->Shared->Prop}{lo l:Int}{t u v:Tok}{r:Nat}(I:Inv X n σ H s) (h1:-(2 ^ 62)<=lo) (h2:lo<2 ^ 62) (y:-(2 ^ 62)<=l) (z:l<2 ^ 62)
  (q:R (R8 lo (l-lo).toNat) H):jj (jm X.prog X.w) X.A (pyIter (.ref s.heap.objs.size)) (ZL X n σ tg R) E { s with heap:=s.heap.push { cls:=.type "range", data:=.fields #[.int lo t,.int l u,.int 1 v] },toks:=r }:=by
 refine wpAny_pyIter_range (IsRange.new ..) (small_one h1 h2 y z) ?_;have x:Inv X n σ H { s with heap:=s.heap.push { cls:=.type "range", data:=.fields #[.int lo t,.int l u,.int 1 v] },toks:=r }:=I.kept λb o e=>aj _ e
 refine⟨(s.heap.push { cls:=.type "range", data:=.fields #[.int lo t,.int l u,.int 1 v] }).objs.size,[(s.heap.push { cls:=.type "range", data:=.fields #[.int lo t,.int l u,.int 1 v] }).objs.size],_,_,H,rfl,
  x.kept (t':=r) λb o e=>aj _ e,JG _ lo (l-lo).toNat,?_,λb B=>?_,q⟩
 .have C:lo+((0:Nat):Int)*1=lo:=by simp
  have G:(((l-lo).toNat:Nat):Int)-((0:Nat):Int)=Builtin.Range.rangeSize lo l 1:=by rw[rangeSize_one];split <;> lia
  show IsRangeIter _ _ (lo+((0:Nat):Int)*1) ((((l-lo).toNat:Nat):Int)-((0:Nat):Int)) 1;rw[C,G];exact aL _ rfl
 .have e:b=(s.heap.push { cls:=.type "range", data:=.fields #[.int lo t,.int l u,.int 1 v] }).objs.size:=by simpa using B
  subst e;exact x.fpOk (ai _) (x.hok.fresh (ai _))
def Rk(l:TA):TI:=λσ H R=>l σ H λvs n=>∃j:Int,vs=[.int j]/\-(2 ^ 62)<=j/\j<2 ^ 62/\R (R8 0 j.toNat) n
theorem uw{a:Expr}{n:TA}{p pos:Pos}(u:Gl X "range") (x:X.mg "range" = none) (y:PA X [a] n) (z:jv [a] X.env=[(false,eval a X.env)]:=by rfl):PI X tg (.Call (.Name "range" p) [a] [] pos) (Rk n):=by
 intro B s σ H R I h;refine Call_ (vm I u x boot_range (bo (sv (y pos B s σ H _ I h) λL M ⟨O,P,C,E,l⟩=>?_) z rfl))
 obtain⟨j,e,l,G,q⟩:=l;subst e;cases E with
 |cons r J =>
  cases J;obtain⟨t,rfl⟩:=r;exact call_range_1 (Q1 C (by lia) (by lia) l G (by simpa using q))
def Mv(t:TI) (g:TG) (u:TS):TS:=λD σ H=>t σ H λJ y=>∃W:Nat->Nat->St->Hp->Prop,(∃m,W 0 m σ y)/\∀i m σ H,W i m σ H ->
 (J.stop i H/\D.nx σ H)∨(J.go i H/\∃N:St->Hp->Prop,(∀l n,N l n->∃s,s<m/\W (i+1) s l n)/\∀x n,J.yld i H x n->g x σ n λr z=>u { D with nx:=N,ct:=N,bk:=D.nx } r z)
noncomputable def D0(fp:List Addr) (h:Heap):List (Addr×Obj):=fp.filterMap λb=>(h.get? b).map λo=>(b,o)
theorem yL{fp:List Addr}{h:Heap}{b:Addr}{o:Obj}(l:b∈fp) (e:h.get? b=some o):(b,o)∈D0 fp h:=hX.mpr ⟨b,l,by rw[e];rfl⟩
theorem NQ{fp:List Addr}{h:Heap}{p:Addr×Obj}(l:p∈D0 fp h):p.1∈fp/\h.get? p.1=some p.2:=by
 obtain⟨b,n,e⟩:=hX.mp l;cases q:h.get? b with
 |none=>rw[q]at e;cases e
 |some o =>
  rw[q]at e;have r:(b,o)=p:=aT.inj e;subst r;exact⟨n,q⟩
theorem Inv.pinned{l:List (Addr×Obj)}{σ:St}{H:Hp}{s:Shared}{fp:List Addr}(I:Inv X l σ H s) (t:∀b∈fp,CT X l H b) (u:∀b∈fp,∃o,s.heap.get? b=some o/\∀v,o.data ≠ .cell v):Inv X (l++D0 fp s.heap) σ H s :=
 I.pins_of λp x=>(mAq.mp x).elim (λz=>I.pin p (aC _ z)) λz=>by
  obtain⟨n,e⟩:=NQ z;obtain⟨y,B,C,_⟩:=t p.1 n;obtain⟨o,r,d⟩:=u p.1 n;rw[e]at r;cases r;exact⟨e,y,B,C,d⟩
theorem Inv.unpinned{l pl:List (Addr×Obj)}{σ:St}{H:Hp}{s:Shared}(I:Inv X (l++pl) σ H s):Inv X l σ H s:=I.pins_of λp n=>I.pin p (aC _ (bQ _ n))
theorem qv{iter:Expr}{body:List Stmt}{wi:TI}{g:TG}{tb:TS}{pos:Pos}(P:PassesOwn (jm X.prog X.w) X.A X.env X.xe) (hc:X.calm=true) (hi:PI X tg iter wi) (hg:PG X tg g) (t:NC X body tb)
  (hs:∀x,lF iter X.env x=pure x:=by intro _;rfl):PS X (.For tg iter body [] pos) (Mv wi g tb):=by
 intro M s σ H D I h;refine wpAny_For (sv (hi M s σ H _ I h) λv s1 h1=>sv h1 λitv s2 h2=>?_) hs
 obtain⟨it,Q,tn,J,H2,e,I2,T,He,f2,W,⟨m0,w0⟩,turn⟩:=h2;subst e;have y:∀{G:Hp},(∀b∈Q,G b=none)->∀b∈Q,CT X M G b:=λhn b t=>⟨hn b t,(f2 b t).2⟩
 refine codeAny_forLoop_any (λn s'=>∃i z G,Inv X M z G s'/\tn i s'.heap/\(∀b∈Q,G b=none)/\W i n z G) ?_ m0 ⟨0,σ,H2,I2,He,λb t=>(f2 b t).1,w0⟩
 rintro n s3 ⟨i,B,U,I3,Yz,R,w3⟩;rcases turn i n B U w3 with ⟨stop,qn⟩|⟨go,N,hN,step⟩
 .refine jT P (sv (T.done X rfl rfl rfl hc i M s3 B U X.xe I3 (y R) Yz stop) λr s4 ⟨hr,I4⟩=>?_)
  subst hr;exact kW ⟨B,U,I4,qn⟩
 .refine jT P (sv (T.item X rfl rfl rfl hc i M s3 B U X.xe I3 (y R) Yz go) λr s4 ⟨u,hr,h4⟩=>?_)
  subst hr;refine jT P (sv h4 λ_ s5 ⟨x,H5,I5,r5,y5,O,Y⟩=>?_)
  have I5':=I5.pinned (y Y) (T.obj _ _ O);refine jT P (sv (hg _ s5 B H5 x u _ I5' r5 (step x H5 y5)) λ_ s6 ⟨σ6,H6,I6,q6⟩=>?_)
  refine jT P (sv (t _ s6 σ6 H6 _ I6 q6) λf s7 L=>?_)
  have again:∀{l:St}{C:Hp},Inv X (M++D0 Q s5.heap) l C s7->N l C->∃m,m<n/\∃i z G,Inv X M z G s7/\tn i s7.heap/\(∀b∈Q,G b=none)/\W i m z G:=λ{l C} E S=>by
   obtain⟨m',hm,w7⟩:=hN l C S;refine⟨m',hm,i+1,l,C,E.unpinned,T.keep _ _ _ O λb t o e=>(E.pin (b,o) (aC _ (aC _ (yL t e)))).1,λb t=>?_,w7⟩
   obtain⟨o,e,d⟩:=T.obj _ _ O b t;exact(E.pin (b,o) (aC _ (aC _ (yL t e)))).2.1
  cases f with
  |next=>obtain⟨l,C,E,S⟩:=L;exact again E S
  |cont=>obtain⟨l,C,E,S⟩:=L;exact again E S
  |brk=>obtain⟨l,C,E,L⟩:=L;exact⟨l,C,E.unpinned,L⟩
  |ret v=>obtain⟨x7,l,C,E,r7,L⟩:=L;exact⟨x7,l,C,E.unpinned,r7,L⟩
end
theorem PM{K:W.Frag}{a:Addr}{xs:List V}{g:TG}{z:TS}{D:Av}{σ:St}{H:Hp}(l:Nat->St->Hp->Prop) (h0:l 0 σ H) (hl:∀i σ H,i<=xs.length->l i σ H->qV K H a xs)
  (C:∀i x σ H,xs[i]?=some x->l i σ H->g x σ H λn u=>z { D with nx:=l (i+1),ct:=l (i+1),bk:=D.nx } n u) (hd:∀σ H,l xs.length σ H->D.nx σ H) :
  ∃W:Nat->Nat->St->Hp->Prop,(∃m,W 0 m σ H)/\∀i m σ H,W i m σ H ->
   ((XB K a).stop i H/\D.nx σ H)∨((XB K a).go i H/\∃N:St->Hp->Prop,(∀r s,N r s->∃B,B<m/\W (i+1) B r s)/\∀x s,(XB K a).yld i H x s->g x σ s λn u=>z { D with nx:=N,ct:=N,bk:=D.nx } n u):=by
 refine⟨λi m σ H=>m=xs.length-i/\i<=xs.length/\l i σ H,⟨xs.length,by simp,ba _,h0⟩,?_⟩
 rintro i m σ H ⟨rfl,E,p⟩;have q:=hl i σ H E p
 by_cases t:i<xs.length
 .refine .inr ⟨⟨xs,xs[i],q,by simp[t]⟩,l (i+1),λr s G=>⟨xs.length-(i+1),by lia,rfl,t,G⟩,λx s y=>?_⟩
  obtain⟨e,y⟩:=y;subst e;exact C i x σ _ (y xs q) p
 .have e:i=xs.length:=by lia
  subst e;exact .inl ⟨⟨xs,q,ai _⟩,hd σ H p⟩
theorem NA{lo:Int}{n:Nat}{g:TG}{B:TS}{D:Av}{σ:St}{H:Hp}(l:Nat->St->Hp->Prop) (h0:l 0 σ H)
  (E:∀i σ H,i<n->l i σ H->g (.int (lo+i)) σ H λr z=>B { D with nx:=l (i+1),ct:=l (i+1),bk:=D.nx } r z) (hd:∀σ H,l n σ H->D.nx σ H) :
  ∃W:Nat->Nat->St->Hp->Prop,(∃m,W 0 m σ H)/\∀i m σ H,W i m σ H ->
   ((R8 lo n).stop i H/\D.nx σ H)∨((R8 lo n).go i H/\∃N:St->Hp->Prop,(∀s t,N s t->∃C,C<m/\W (i+1) C s t)/\∀x t,(R8 lo n).yld i H x t->g x σ t λr z=>B { D with nx:=N,ct:=N,bk:=D.nx } r z):=by
 refine⟨λi m σ H=>m=n-i/\i<=n/\l i σ H,⟨n,by simp,ba _,h0⟩,?_⟩
 rintro i m σ H ⟨rfl,I,p⟩
 by_cases u:i<n
 .refine .inr ⟨u,l (i+1),λs t G=>⟨n-(i+1),by lia,rfl,u,G⟩,λx t y=>?_⟩
  obtain⟨e,y⟩:=y;subst e y;exact E i σ _ u p
 .have e:i=n:=by lia
  subst e;exact .inl ⟨ai _,hd σ H p⟩
abbrev R2:=V->V->Hp->VK->Prop
def EL(X:Cx) (f:Value->Value->Sem Value) (r:R2):Prop :=
 ∀(l:List (Addr×Obj)) (s:Shared) (σ:St) (H:Hp) (x y:V) (v u:Value) (Q:VK),Inv X l σ H s->qc x v->qc y u->r x y H Q ->
  jj (jm X.prog X.w) X.A (f v u) (EP X l σ Q) X.xe s
def YK(X:Cx) (f:Value->Sem Value) (r:V->Hp->VK->Prop):Prop :=
 ∀(l:List (Addr×Obj)) (s:Shared) (σ:St) (H:Hp) (x:V) (v:Value) (Q:VK),Inv X l σ H s->qc x v->r x H Q ->
  jj (jm X.prog X.w) X.A (f v) (EP X l σ Q) X.xe s
def xv(X:Cx) (f:Value) (r:List V->Hp->VK->Prop):Prop :=
 ∀(l:List (Addr×Obj)) (s:Shared) (σ:St) (H:Hp) (xs:List V) (us:List Value) (Q:VK),Inv X l σ H s->oV xs us->r xs H Q ->
  jj (jm X.prog X.w) X.A (call f us) (EP X l σ Q) X.xe s
noncomputable def Sr(r:R2) (l n:TE):TE:=λσ H Q=>l σ H λx s=>n σ s λy t=>r x y t Q
noncomputable def ZD(r:V->Hp->VK->Prop) (l:TE):TE:=λσ H Q=>l σ H λx n=>r x n Q
noncomputable def rI(C:Int->Int->Prop) (g:Int->Int->V):R2:=λx y H Q=>∃i j,x = .int i/\y = .int j/\C i j/\Q (g i j) H
noncomputable def OJ(g:Int->Int->V):R2:=λx y H Q=>∃i j,x = .int i/\y = .int j/\Q (g i j) H
def rU(g:Int->V):V->Hp->VK->Prop:=λx H Q=>∃i,x = .int i/\Q (g i) H
section
variable {X:Cx}{a b c:Expr}{ta tb tc:TE}{pos:Pos}
theorem Vs(C:PE X a ta) (E:PE X b tb) {t:List (Addr×Obj)}{s:Shared}{σ:St}{H:Hp}{R:V->V->Hp->Prop}(I:Inv X t σ H s)
  (h:ta σ H λx B=>tb σ B λy l=>R x y l) {Q:Value->Shared->Prop}{f:Value->Value->Sem Value}
  (G:∀v u z x y l,Inv X t σ l z->qc x v->qc y u->R x y l->jj (jm X.prog X.w) X.A (f v u) Q X.xe z) :
  jj (jm X.prog X.w) X.A (eval a X.env) (λv n=>jj (jm X.prog X.w) X.A (eval b X.env) (λu r=>jj (jm X.prog X.w) X.A (f v u) Q X.xe r) X.xe n) X.xe s:=by
 refine sv (C t s σ H _ I h) λv J ⟨x,B,L,M,O⟩=>?_
 refine sv (E t J σ B _ L O) λu z ⟨y,l,P,S,U⟩=>?_
 exact G v u z x y l P M S U
theorem oI{op:Operator}{r:R2}(l:EL X (kB op) r) (n:PE X a ta) (t:PE X b tb):PE X (.BinOp a op b pos) (Sr r ta tb):=by
 intro z s σ H Q I h;exact wpAny_BinOp (Vs n t I h λv u B x y C E G J q=>l z B σ C x y v u Q E G J q)
theorem vB{op:UnaryOp}{r:V->Hp->VK->Prop}(n:YK X (unaryOp op) r) (t:PE X a ta):PE X (.UnaryOp op a pos) (ZD r ta):=by
 intro l s σ H Q I h;exact UnaryOp_ (sv (t l s σ H _ I h) λv u ⟨x,y,z,B,C⟩=>n l u σ y x v Q z B C)
theorem X3{f:Value->Value->Sem Value}{C:Int->Int->Prop}{g:Int->Int->Int}
  (rule:∀(i j:Int) (t u:Tok) (s:Shared) (Q:Value->Shared->Prop) (E:Value->Shared->Prop),C i j->Q (.int (g i j) s.toks) { s with toks:=s.toks+1 }->jj (jm X.prog X.w) X.A (f (.int i t) (.int j u)) Q E s) :
  EL X f (rI C λi j=>.int (g i j)):=by
 intro B s σ H x y v u Q I l n h;obtain⟨i,j,rfl,rfl,r,q⟩:=h;obtain⟨t,rfl⟩:=l;obtain⟨z,rfl⟩:=n;exact rule i j t z s _ _ r ⟨.int (g i j),H,I.tok _,⟨_,rfl⟩,q⟩
theorem XJ{f:Value->Value->Sem Value}{g:Int->Int->Int}
  (rule:∀(i j:Int) (t u:Tok) (s:Shared) (Q:Value->Shared->Prop) (E:Value->Shared->Prop),Q (.int (g i j) s.toks) { s with toks:=s.toks+1 }->jj (jm X.prog X.w) X.A (f (.int i t) (.int j u)) Q E s) :
  EL X f (OJ λi j=>.int (g i j)):=by
 intro z s σ H x y v u Q I l n h;obtain⟨i,j,rfl,rfl,q⟩:=h;obtain⟨t,rfl⟩:=l;obtain⟨r,rfl⟩:=n;exact rule i j t r s _ _ ⟨.int (g i j),H,I.tok _,⟨_,rfl⟩,q⟩
theorem Xj{f:Value->Value->Sem Value}{g:Int->Int->Bool}
  (rule:∀(i j:Int) (t u:Tok) (s:Shared) (Q:Value->Shared->Prop) (E:Value->Shared->Prop),Q (.bool (g i j)) s->jj (jm X.prog X.w) X.A (f (.int i t) (.int j u)) Q E s) :
  EL X f (OJ λi j=>.bl (g i j)):=by
 intro z s σ H x y v u Q I l n h;obtain⟨i,j,rfl,rfl,q⟩:=h;obtain⟨t,rfl⟩:=l;obtain⟨r,rfl⟩:=n;exact rule i j t r s _ _ ⟨.bl (g i j),H,I,rfl,q⟩
def Vb(i j:Int):Prop:=0<j/\j<1073741824
def Vz(i j:Int):Prop:=0<=j/\j<=1000000/\i.natAbs<2 ^ 64
def Pm(i j:Int):Prop:=(-(2 ^ 64)<i/\i<2 ^ 64)∨(-(2 ^ 64)<j/\j<2 ^ 64)
theorem Pm.ok{i j:Int}(h:Pm i j):IntMulOk i j:=by
 rcases h with ⟨h1,h2⟩|⟨h1,h2⟩
 .exact .of_left (intBits_le_64 h1 h2)
 .exact .of_right (intBits_le_64 h1 h2)
theorem vW:EL X (kB .Add) (OJ λi j=>.int (i+j)):=XJ λ_ _ _ _ _ _ _ q=>add_int q
theorem DH:EL X (kB .Sub) (OJ λi j=>.int (i-j)):=XJ λ_ _ _ _ _ _ _ q=>sub_int q
theorem Eg:EL X (kB .Mult) (rI Pm λi j=>.int (i*j)):=X3 λ_ _ _ _ _ _ _ l q=>mul_int q l.ok
theorem vx:EL X (kB .FloorDiv) (rI Vb λi j=>.int (i / j)):=X3 λi j _ _ _ _ _ l q=>by
 have h1:(0:Int)<j:=l.1;have h2:j<1073741824:=l.2;exact floordiv_int (by lia) (by rw[gc i (by lia)];exact q) (.inl (PyProof.noPylong_small (by lia)))
theorem rB:EL X (kB .Mod) (rI (λ_ j=>0<j) λi j=>.int (i % j)):=X3 λi j _ _ _ _ _ l q=>by
 have h1:(0:Int)<j:=l;exact mod_int' (by lia) (by rw[Int.fmod_eq_emod_of_nonneg i (by lia)];exact q)
theorem GF:EL X (kB .Pow) (rI Vz λi j=>.int (i ^ j.toNat)):=X3 λ_ _ _ _ _ _ _ l q=>pow_int_small l.1 l.2.1 l.2.2 q
theorem unI{f:Value->Sem Value}{g:Int->Int}
  (rule:∀(i:Int) (t:Tok) (s:Shared) (Q:Value->Shared->Prop) (E:Value->Shared->Prop),Q (.int (g i) s.toks) { s with toks:=s.toks+1 }->jj (jm X.prog X.w) X.A (f (.int i t)) Q E s) :
  YK X f (rU λi=>.int (g i)):=by
 intro n s σ H x v Q I l h;obtain⟨i,rfl,q⟩:=h;obtain⟨t,rfl⟩:=l;exact rule i t s _ _ ⟨.int (g i),H,I.tok _,⟨_,rfl⟩,q⟩
theorem tH:YK X (unaryOp .USub) (rU λi=>.int (-i)):=unI λ_ _ _ _ _ q=>neg_int q
end
noncomputable def scal:V->V->Bool
 | .non,.non=>true|.non,.int _=>true|.int _,.non=>true|.non,.bl _=>true|.bl _,.non=>true|.non,.str _=>true|.str _,.non=>true
 | .int _,.int _=>true|.bl _,.bl _=>true|.str _,.str _=>true|.byt _,.byt _=>true
 | .int _,.str _=>true|.str _,.int _=>true|.bl _,.str _=>true|.str _,.bl _=>true
 |_,_=>false
def ZV:R2:=λx y H Q=>scal x y=true/\Q (.bl (decide (x=y))) H
def ZF:R2:=λx y H Q=>scal x y=true/\Q (.bl (!decide (x=y))) H
theorem Lo{i j:Int}:decide (V.int i=V.int j)=(i == j):=by
 rw[bx];simp
theorem O4{i j:Bool}:decide (V.bl i=V.bl j)=(i == j):=by
 rw[bx];simp
theorem Le{i j:Str}:decide (V.str i=V.str j)=(i == j):=by
 rw[bx];simp
theorem LS{i j:Array UInt8}:decide (V.byt i=V.byt j)=(i.toList == j.toList):=by
 rw[bx];cases i;cases j;simp
section
variable {X:Cx}{a b c:Expr}{ta tb tc:TE}{pos:Pos}
theorem qb{l:List (Addr×Obj)}{σ:St}{H:Hp}{s:Shared}{Q:VK}{k n:Bool}(I:Inv X l σ H s) (q:Q (.bl k) H) (e:k=n):EP X l σ Q (.bool n) s:=by
 subst e;exact⟨.bl k,H,I,rfl,q⟩
theorem zk:EL X (jQ .Eq) ZV:=by
 intro B s σ H x y v u Q I z l h;obtain⟨r,q⟩:=h;cases x with
 |non =>
  cases z;cases y with
  |non=>cases l;exact PySem.EqNone.eq_none_none (qb I q (by simp))
  |bl j=>cases l;exact PySem.EqNone.eq_none_bool (qb I q (by simp))
  |int j=>obtain⟨n,rfl⟩:=l;exact PySem.EqNone.eq_none_int (qb I q (by simp))
  |str j=>obtain⟨n,rfl⟩:=l;exact PySem.EqNone.eq_none_str (qb I q (by simp))
  |_=>exact absurd (show false=true from r) aW
 |bl i =>
  cases z;cases y with
  |non=>cases l;exact PySem.EqNone.eq_bool_none (qb I q (by simp))
  |bl j=>cases l;exact eq_bool (qb I q O4)
  |str j=>obtain⟨n,rfl⟩:=l;exact PySem.EqMixed.eq_bool_str (qb I q (by simp))
  |_=>exact absurd (show false=true from r) aW
 |int i =>
  obtain⟨t,rfl⟩:=z;cases y with
  |non=>cases l;exact PySem.EqNone.eq_int_none (qb I q (by simp))
  |int j=>obtain⟨n,rfl⟩:=l;exact eq_int (qb I q Lo)
  |str j=>obtain⟨n,rfl⟩:=l;exact PySem.EqMixed.eq_int_str (qb I q (by simp))
  |_=>exact absurd (show false=true from r) aW
 |str i =>
  obtain⟨t,rfl⟩:=z;cases y with
  |non=>cases l;exact PySem.EqNone.eq_str_none (qb I q (by simp))
  |bl j=>cases l;exact PySem.EqMixed.eq_str_bool (qb I q (by simp))
  |int j=>obtain⟨n,rfl⟩:=l;exact PySem.EqMixed.eq_str_int (qb I q (by simp))
  |str j=>obtain⟨n,rfl⟩:=l;exact eq_str (qb I q Le)
  |_=>exact absurd (show false=true from r) aW
 |byt i =>
  obtain⟨t,rfl⟩:=z;cases y with
  |byt j=>obtain⟨n,rfl⟩:=l;exact W.eq_bytes (qb I q LS)
  |_=>exact absurd (show false=true from r) aW
 |_=>cases y <;> exact absurd (show false=true from r) aW
theorem D4:EL X (jQ .NotEq) ZF:=by
 intro B s σ H x y v u Q I z l h;obtain⟨r,q⟩:=h;cases x with
 |non =>
  cases z;cases y with
  |non=>cases l;exact PySem.EqNone.ne_none_none (qb I q (by simp))
  |bl j=>cases l;exact PySem.EqNone.ne_none_bool (qb I q (by simp))
  |int j=>obtain⟨n,rfl⟩:=l;exact PySem.EqNone.ne_none_int (qb I q (by simp))
  |str j=>obtain⟨n,rfl⟩:=l;exact PySem.EqNone.ne_none_str (qb I q (by simp))
  |_=>exact absurd (show false=true from r) aW
 |bl i =>
  cases z;cases y with
  |non=>cases l;exact PySem.EqNone.ne_bool_none (qb I q (by simp))
  |bl j=>cases l;exact ne_bool (qb I q (congrArg not O4))
  |str j=>obtain⟨n,rfl⟩:=l;exact PySem.EqMixed.ne_bool_str (qb I q (by simp))
  |_=>exact absurd (show false=true from r) aW
 |int i =>
  obtain⟨t,rfl⟩:=z;cases y with
  |non=>cases l;exact PySem.EqNone.ne_int_none (qb I q (by simp))
  |int j=>obtain⟨n,rfl⟩:=l;exact ne_int (qb I q (congrArg not Lo))
  |str j=>obtain⟨n,rfl⟩:=l;exact PySem.EqMixed.ne_int_str (qb I q (by simp))
  |_=>exact absurd (show false=true from r) aW
 |str i =>
  obtain⟨t,rfl⟩:=z;cases y with
  |non=>cases l;exact PySem.EqNone.ne_str_none (qb I q (by simp))
  |bl j=>cases l;exact PySem.EqMixed.ne_str_bool (qb I q (by simp))
  |int j=>obtain⟨n,rfl⟩:=l;exact PySem.EqMixed.ne_str_int (qb I q (by simp))
  |str j=>obtain⟨n,rfl⟩:=l;exact ne_str (qb I q (congrArg not Le))
  |_=>exact absurd (show false=true from r) aW
 |byt i =>
  obtain⟨t,rfl⟩:=z;cases y with
  |byt j=>obtain⟨n,rfl⟩:=l;exact W.ne_bytes (qb I q (congrArg not LS))
  |_=>exact absurd (show false=true from r) aW
 |_=>cases y <;> exact absurd (show false=true from r) aW
theorem ON:EL X (jQ .Lt) (OJ λi j=>.bl (decide (i<j))):=Xj λ_ _ _ _ _ _ _ q=>lt_int q
theorem Fx:EL X (jQ .Gt) (OJ λi j=>.bl (decide (j<i))):=Xj λ_ _ _ _ _ _ _ q=>gt_int q
theorem pw(b:Expr) {op:CmpOp}(h:op ≠ .In:=by decide) (h2:op ≠ .NotIn:=by decide):kM op b=false:=by
 have l:(op == CmpOp.In)=false:=by cases op <;> first|rfl|exact absurd rfl h
 have n:(op == CmpOp.NotIn)=false:=by cases op <;> first|rfl|exact absurd rfl h2
 cases b <;> simp[kM,l,n]
theorem Br{op:CmpOp}{r:R2}(l:EL X (jQ op) r) (n:PE X a ta) (t:PE X b tb) (z:kM op b=false):PE X (.Compare a [op] [b] pos) (Sr r ta tb):=by
 intro B s σ H Q I h;exact wpAny_Compare1 (Vs n t I h λv u C x y E G J L q=>l B C σ E x y v u Q G J L q) z
noncomputable def Uz(t:TE):TT:=λσ H Q=>t σ H λx l=>∃k,x = .bl k/\Q k l
theorem oO{op:CmpOp}{r:R2}(n:EL X (jQ op) r) (t:PE X a ta) (B:PE X b tb) (C:kM op b=false):PT X (.Compare a [op] [b] pos) (Uz (Sr r ta tb)):=by
 intro l s σ H Q I h;refine mj (sv (t l s σ H _ I h) λv E ⟨x,G,J,L,M⟩=>sv (B l E σ G _ J M) λu O ⟨y,P,R,S,U⟩ =>
  sv (n l O σ P x y v u _ R L S U) λc s3 ⟨z,Y,I3,r3,k,e,q3⟩=>?_) C
 subst e;cases r3;exact jE ⟨Y,I3,q3⟩
theorem Kf:(jn:Nat)<2 ^ 63:=by rw[jy];decide
theorem wQ{x:V}{us:List Value}(r:oV [x] us):∃u,us=[u]/\qc x u:=by
 cases r with
 |cons l n=>cases n;exact⟨_,rfl,l⟩
theorem LZ{x y:V}{us:List Value}(r:oV [x,y] us):∃u l,us=[u,l]/\qc x u/\qc y l:=by
 cases r with
 |cons n s =>
  cases s with
  |cons t z=>cases z;exact⟨_,_,rfl,n,t⟩
def Xa(K:W.Frag) (x:V) (H:Hp) (n:Nat):Prop :=
 match x with
 | .str y=>y.length<=jn/\n=y.length
 | .byt y=>y.size<=jn/\n=y.size
 | .ref p=>(∃xs,qV K H p xs/\n=xs.length)∨∃xs,EO K H p xs/\n=xs.length
 |_=>False
theorem oE:xv X (.builtin "len") (λxs H Q=>∃x n,xs=[x]/\Xa X.K x H n/\Q (.int n) H):=by
 intro O s σ H xs P Q I r h;obtain⟨x,n,rfl,e,q⟩:=h;obtain⟨u,rfl,B⟩:=wQ r;have hl:=Kf;have R:jn=16777216:=jy;cases x with
 |str y =>
  obtain⟨t,rfl⟩:=B;obtain⟨L,z⟩:y.length<=jn/\n=y.length:=e;subst z;exact len_str (by lia) ⟨.int _,H,I.tok _,⟨_,rfl⟩,q⟩
 |byt y =>
  obtain⟨t,rfl⟩:=B;obtain⟨L,z⟩:y.size<=jn/\n=y.size:=e;subst z;exact W.len_bytes (by lia) ⟨.int _,H,I.tok _,⟨_,rfl⟩,q⟩
 |ref p =>
  cases B;have z:(∃xs,qV X.K H p xs/\n=xs.length)∨∃xs,EO X.K H p xs/\n=xs.length:=e;rcases z with ⟨xs,C,z⟩|⟨xs,C,z⟩
  .subst z;obtain⟨E,G,J,M⟩:=I.list C;have l:=G.length;exact Calls.call_len_list J.isList (by simp only[aA];lia) ⟨.int xs.length,H,I.tok _,⟨_,by simp only[aA];rw[l]⟩,q⟩
  .subst z;obtain⟨E,G,J,M⟩:=I.tuple C;have l:=G.length;exact len_tuple J (by simp only[aA];lia) ⟨.int xs.length,H,I.tok _,⟨_,by simp only[aA];rw[l]⟩,q⟩
 |_=>exact(show False from e).elim
end
theorem EH.some_of{v:V}{o:Option Value}(r:EH (some v) o):∃u,o=some u/\qc v u:=by
 cases o with
 |none=>exact(show False from r).elim
 |some u=>exact⟨u,rfl,r⟩
structure xI (k:Nat) (A:Around):Prop where
 hd:A.handled=none
 dp:A.depth+3*k+5<recursionLimit
 un:A.units+16*k+200<jD
theorem xI.mono{j k:Nat}{A:Around}(r:xI k A) (h:j<=k):xI j A:=⟨r.hd,by have:=r.dp;lia,by have:=r.un;lia⟩
theorem xI.deeper{k:Nat}{A:Around}(r:xI (k+1) A) (env:Env):xI k (A.deeper env) :=
 ⟨r.hd,by have:=r.dp;show A.depth+1+3*k+5<_;lia,by have:=r.un;show A.units+3+16*k+200<_;lia⟩
theorem xI.depth{k:Nat}{A:Around}(r:xI k A):A.depth<recursionLimit:=by have:=r.dp;lia
theorem xI.units{k:Nat}{A:Around}(r:xI k A):A.units+64<jD:=by have:=r.un;lia
def wM:TA:=λ_ H Q=>Q [] H
noncomputable def tP(l:TE) (tr:TA):TA:=λσ H Q=>l σ H λx n=>tr σ n λxs r=>Q (x::xs) r
section
variable {X:Cx}{e:Expr}{es:List Expr}{te:TE}{t:TA}{pos:Pos}
theorem nB:PA X [] wM:=λ_ _ _ _ H Q I h=>Calls.spliced_nil ⟨[],H,I,.nil,h⟩
theorem nu(n:PE X e te) (hr:PA X es t) (r:jv (e::es) X.env=(false,eval e X.env)::jv es X.env:=by rfl):PA X (e::es) (tP te t):=by
 intro pos l s σ H Q I h;rw[r];show jj _ _ (mU ((false,eval e X.env)::kC pos (jv es X.env))) _ _ s;refine Calls.spliced_cons (sv (n l s σ H _ I h) λu y ⟨x,z,B,C,E⟩=>?_)
 exact sv (hr pos l y σ z _ B E) λP R ⟨G,J,L,M,O⟩=>⟨x::G,J,L,.cons C M,O⟩
def Yg(t:TA):TE:=λσ H Q=>t σ H λxs l=>xs.length<=jn/\∀p,l p=none->Q (.ref p) (qG l p (.tup xs))
def XD(t:TA):TE:=λσ H Q=>t σ H λxs l=>xs.length<=jn/\∀p,l p=none->Q (.ref p) (qG l p (.lst xs))
theorem FP{x1} (h:PA X es t):PE X (.Tuple es x1 pos) (Yg t):=by
 intro y s σ H Q I B;refine wpAny_Tuple_spliced (sv (h pos y s σ H _ I B) λC l ⟨E,n,x,r,z,q⟩=>⟨by rw[←r.length];exact z,?_⟩)
 have G:n l.heap.objs.size=none:=x.hok.fresh (ai _);refine⟨.ref l.heap.objs.size,qG n l.heap.objs.size (.tup E),x.laid (t':=l.toks) (λb u e=>aj _ e) (ai _) ?_,rfl,q _ G⟩
 exact⟨z,C,r,⟨_,aL _ rfl,rfl,_,rfl⟩⟩
theorem pU(h:PA X es t):PE X (.List es pos) (XD t):=by
 intro y s σ H Q I B;refine wpAny_List_spliced (sv (h pos y s σ H _ I B) λC l ⟨E,n,x,r,z,q⟩=>⟨by rw[←r.length];exact z,?_⟩)
 have G:n l.heap.objs.size=none:=x.hok.fresh (ai _);refine⟨.ref l.heap.objs.size,qG n l.heap.objs.size (.lst E),x.laid (t':=l.toks) (λb u e=>aj _ e) (ai _) ?_,rfl,q _ G⟩
 exact⟨z,C,0,r,aL _ rfl⟩
end
abbrev Sp:=List V->Hp->VK->XK->Prop
abbrev QF:=List Env->Hp->Shared->XK->Value->Shared->Prop
structure SI (P:jo) (w:jt) (K:W.Frag) (mg:Str->Option Value) (base:Heap) (A:Around) (outer:List Env) (s:Shared) (H:Hp):Prop where
 frames:A.frames=some outer
 mod:Mod K mg base
 bs:∀b o,base.get? b=some o->s.heap.get? b=some o/\H b=none
 bsz:base.objs.size<=s.heap.objs.size
 funs:s.heap.FunFrames base outer
 frf:∀b∈OY outer,H b=none
 hok:Be P w H s.heap
 bare:kS s.gens
def CE(outer:List Env) (P:jo) (w:jt) (H:Hp) (s:Shared) (Q:VK) (u:Value) (l:Shared):Prop :=
 ∃v n,l.os=s.os/\kS l.gens/\Un (OY outer) [] H n s.heap l.heap/\Be P w n l.heap/\qc v u/\Q v n
def CR(CX:QF) (outer:List Env) (P:jo) (w:jt) (H:Hp) (s:Shared) (Q:VK) (E:XK) (r:mE) (l:Shared):Prop :=
 match r with
 | .ok (.ret u)=>CE outer P w H s Q u l
 | .ok _=>False
 | .error e=>CX outer H s E e l
structure CQ (P:jo) (w:jt) (K:W.Frag) (mg:Str->Option Value) (base:Heap) (CX:QF) (k:Nat) (f:Addr) (fd:jK) (ps:List Str) (sp:Sp):Prop where
 len:∀vs H Q E,sp vs H Q E->vs.length=ps.length
 run:∀(A:Around) (outer:List Env) (s:Shared) (H:Hp) (args:Args) (us:List Value) (vs:List V) (Q:VK) (E:XK),xI k A->SI P w K mg base A outer s H->mC s fd args (ps.zip us)->oV vs us->sp vs H Q E ->
  kr (jm P w) A (.call (.ref f) args) (CR CX outer P w H s Q E) s
theorem CQ.imp{P:jo}{w:jt}{K:W.Frag}{mg:Str->Option Value}{base:Heap}{CX:QF}{k:Nat}{f:Addr}{fd:jK}{ps:List Str}{sp l:Sp}(F:CQ P w K mg base CX k f fd ps sp)
  (h:∀vs H Q E,l vs H Q E->sp vs H Q E):CQ P w K mg base CX k f fd ps l :=
 ⟨λvs H Q E q=>F.len vs H Q E (h _ _ _ _ q),λA outer s H n r vs Q E hr t u x y=>F.run A outer s H n r vs Q E hr t u x (h _ _ _ _ y)⟩
section
variable {X:Cx}{nA:List (Addr×Obj)}{σ:St}{H:Hp}{s s':Shared}
theorem Inv.env0(I:Inv X nA σ H s):SI X.prog X.w X.K X.mg X.base X.A X.stack s H :=
 ⟨I.ok.frames,I.ok.mod,I.bs,bw I.ok.bsz I.sz,I.stack,I.stkFree,I.hok,I.bare⟩
theorem Inv.after{Q:VK}{u:Value}(I:Inv X nA σ H s) (h:CE X.stack X.prog X.w H s Q u s'):EP X nA σ Q u s':=by
 obtain⟨v,n,os,bare,un,hok,r,q⟩:=h;obtain⟨hh,g,d,t,l⟩:=s';obtain rfl:l=s.os:=os;exact⟨v,n,I.call (h':=hh) (g':=g) (d':=d) (t':=t) (ch:=[]) un hok bare (λb z=>absurd z (by simp)),r,q⟩
end
noncomputable def Md(sp:Sp) (l:List V) (E:XK) (t:TA):TE:=λσ H Q=>t σ H λvs n=>sp (vs++l) n Q E
def AI(K:W.Frag) (fd:jK) (ps:List Str) (ds:List Value):Prop :=
 ∀(s:Shared) (us:List Value),K.In s.heap->(us++ds).length=ps.length->mC s fd ⟨us,[]⟩ (ps.zip (us++ds))
theorem AI.all{K:W.Frag}{fd:jK}{ps:List Str}(h:∀us:List Value,us.length=ps.length->bindArgs fd ⟨us,[]⟩=pure (ps.zip us)):AI K fd ps []:=λs us _ hl=>by
 rw[aNq]at hl ⊢;exact .of_eq (h us hl)
def J4(CX:QF) (X:Cx) (E:XK):Prop:=∀(n:List (Addr×Obj)) (σ:St) (H:Hp) (s:Shared) (e:Value) (l:Shared),Inv X n σ H s->CX X.stack H s E e l->X.xe e l
section
variable {X:Cx}{CX:QF}{k:Nat}{f C:Addr}{fd:jK}{ps:List Str}{sp:Sp}{dvs:List V}{ds:List Value}{E:XK}{x m:Str}{p pos apos:Pos}{e o:Expr}{es:List Expr}{ta:TE}{t:TA}
theorem VZ{n:List (Addr×Obj)}{σ:St}{H:Hp}{s:Shared}{Q:VK}{us:List Value}{vs:List V}(F:CQ X.prog X.w X.K X.mg X.base CX k f fd ps sp) (hr:xI k X.A) (z:AI X.K fd ps ds) (hd:oV dvs ds) (B:J4 CX X E)
  (I:Inv X n σ H s) (r:oV vs us) (h:sp (vs++dvs) H Q E):jj (jm X.prog X.w) X.A (call (.ref f) us) (EP X n σ Q) X.xe s:=by
 have y:oV (vs++dvs) (us++ds):=r.append hd;have hl:(us++ds).length=ps.length:=by rw[←y.length];exact F.len _ _ _ _ h
 refine wpAny_call (mQ (F.run X.A X.stack s H ⟨us,[]⟩ (us++ds) (vs++dvs) Q E hr I.env0 (z s us I.kIn hl) y h) λr G l=>?_)
 cases r with
 |error e=>exact B n σ H s e G I l
 |ok fl =>
  cases fl with
  |ret u=>exact I.after l
  |next=>exact False.elim l
  |brk=>exact False.elim l
  |cont=>exact False.elim l
theorem Sk(F:CQ X.prog X.w X.K X.mg X.base CX k f fd ps sp) (hr:xI k X.A) (y:Gl X x) (z:X.mg x=some (.ref f)) (B:W.keepIn X.K (.ref f)=true) (G:AI X.K fd ps ds) (hd:oV dvs ds) (J:J4 CX X E)
  (L:PA X (e::es) t) (l:(x == ("__debug__" : Str))=false:=by decide) (M:jv (e::es) X.env=(false,eval e X.env)::jv es X.env:=by rfl) (n:(kC pos (jv es X.env)).any (·.1)=false:=by rfl) :
  PE X (.Call (.Name x p) (e::es) [] pos) (Md sp dvs E t):=by
 intro O s σ H Q I h;refine jS (RB I y z ?_ l);refine W.callWith_K (h₀:=X.base) I.ok.mod.kin B (sv (L pos O s σ H _ I h) λP R ⟨S,U,u,r,q⟩=>⟨u.kIn,?_⟩) M n
 exact VZ F hr G hd J u r q
end
structure oA (N P:List Str) (sc:kF):Prop where
 kind:sc.kind = .function
 co:sc.isCoroutine=false
 gen:sc.isGenerator=false
 nd:N.Nodup
 pre:N.take P.length=P
 par:∀x∈P,sc.names.lookup x=some .local∨sc.names.lookup x=some .cell
 nofree:∀y∈sc.names,y.2 ≠ .free
theorem E4{kindOf:Str->Option NameKind}{x:Str}:∀{binds:List (Str×Value)}{m:Str->Option Value},(∀v,(x,v)∉binds)->bindL kindOf binds m x=m x
 | [],_,_=>rfl
 | (n,v)::r,m,h=>by
  unfold bindL;rw[E4 λw l=>h w (mCo _ l)]
  split
  .have:x≠n:=by rintro rfl;exact h v aw
   simp[this]
  .rfl
theorem EW{kindOf:Str->Option NameKind}{x:Str}:∀{binds:List (Str×Value)}{m:Str->Option Value},(∀v,(x,v)∉binds)->bindC kindOf binds m x=m x
 | [],_,_=>rfl
 | (n,v)::r,m,h=>by
  unfold bindC;rw[EW λw l=>h w (mCo _ l)]
  split
  .rfl
  .have:x≠n:=by rintro rfl;exact h v aw
   simp[this]
theorem ES{kindOf:Str->Option NameKind}{x:Str}{v:Value}:∀{P:List Str}{vs:List Value}{i:Nat}{m:Str->Option Value},P.Nodup->P[i]?=some x->vs[i]?=some v->kindOf x=some .local ->
  bindL kindOf (P.zip vs) m x=some v
 | [],_,_,_,_,h,_,_=>by simp at h
 |_::_,[],_,_,_,_,h,_=>by simp at h
 |p::P,w::vs,0,m,nd,h1,h2,hk=>by
  simp at h1 h2;subst h1;subst h2;show bindL kindOf ((p,w)::P.zip vs) m p=_;unfold bindL;rw[E4 λv l=>(aB.mp nd).1 (gG l).1,pQ hk]
  simp
 |p::P,w::vs,i+1,m,nd,h1,h2,hk=>by
  show bindL kindOf ((p,w)::P.zip vs) m x=_;unfold bindL;exact ES (i:=i) (aB.mp nd).2 (by simpa using h1) (by simpa using h2) hk
theorem Fo{kindOf:Str->Option NameKind}{x:Str}{v:Value}:∀{P:List Str}{vs:List Value}{i:Nat}{m:Str->Option Value},P.Nodup->P[i]?=some x->vs[i]?=some v->kindOf x≠some .local ->
  bindC kindOf (P.zip vs) m x=some v
 | [],_,_,_,_,h,_,_=>by simp at h
 |_::_,[],_,_,_,_,h,_=>by simp at h
 |p::P,w::vs,0,m,nd,h1,h2,hk=>by
  simp at h1 h2;subst h1;subst h2;show bindC kindOf ((p,w)::P.zip vs) m p=_;unfold bindC;rw[EW λv l=>(aB.mp nd).1 (gG l).1,qk hk]
  simp
 |p::P,w::vs,i+1,m,nd,h1,h2,hk=>by
  show bindC kindOf ((p,w)::P.zip vs) m x=_;unfold bindC;exact Fo (i:=i) (aB.mp nd).2 (by simpa using h1) (by simpa using h2) hk
noncomputable def zj(N:List Str) (vs:List V):St:=vs.map some++bN (N.length-vs.length) none
def Mj(CX:QF) (P:jo) (w:jt) (K:W.Frag) (mg:Str->Option Value) (base:Heap) (N:List Str) (l:Str) (scope:kF) (f:Addr) (r:Value) (A:Around) (outer:List Env) (s:Shared) (H:Hp) (E:XK):Cx where
 prog:=P
 w:=w
 K:=K
 mg:=mg
 base:=base
 A:=A.deeper (lC l scope s.heap.objs.size f r)
 N:=N
 s₀:=s
 H₀:=H
 env:=lC l scope s.heap.objs.size f r
 outer:=outer
 stack:=lC l scope s.heap.objs.size f r::outer
 ex:=[]
 calm:=true
 fn:=λ_=>true
 pn:=[]
 xe:=λe t=>jj (jm P w) (A.deeper (lC l scope s.heap.objs.size f r)) (leaving (lC l scope s.heap.objs.size f r) e) (λ_ n=>CX outer H s E e n) (λu n=>CX outer H s E u n) t
theorem Ik{l:kF}{n:Nat}{x:Str}(h:l.names.lookup x=some .cell):∃c,(cellsFrom n l.names []).lookup x=some c:=by
 have q:=W.cellsFrom_some l.names n [] (.inl h);exact Option.isSome_iff_exists.mp q
theorem Oa{CX:QF}{P:jo}{w:jt}{K:W.Frag}{mg:Str->Option Value}{base:Heap}{N ps:List Str}{l:Str}{scope:kF}{f:Addr}{J:Value}{A:Around}{outer:List Env}{s M:Shared}{H:Hp}{E:XK}{us:List Value}{vs:List V}
  (S:oA N ps scope) (hd:A.handled=none) (t:SI P w K mg base A outer s H) (hl:vs.length=ps.length) (r:oV vs us)
  (x:InCallC s s.heap.objs.size (bindL (lC l scope s.heap.objs.size f J).kindOf (ps.zip us) λ_=>none) (cellsFrom (s.heap.objs.size+1) scope.names []) (bindC (lC l scope s.heap.objs.size f J).kindOf (ps.zip us) λ_=>none) M) :
  Inv (Mj CX P w K mg base N l scope f J A outer s H E) [] (zj N vs) H M:=by
 have R:ps.length<=N.length:=by have:=congrArg bp S.pre;rw[lTq]at this;lia
 obtain⟨h1,Y,rfl,O⟩:=x.done;have B:∀b:Addr,b∉(Mj CX P w K mg base N l scope f J A outer s H E).ex:=λb z=>absurd (show b∈([]:List Addr) from z) (by simp)
 refine⟨⟨t.mod,S.kind,rfl,rfl,ai _,λy z c h1 h2=>?_,λy C=>?_,λy c _ h=>?_,λ_=>hd,Around.frames_deeper t.frames,.inr ⟨rfl,rfl⟩,λb z=>absurd z (B b),t.bs,t.bsz,λb _ _=>B b,λb z=>absurd z (B b),t.funs,t.frf⟩,
  rfl,t.bare,Un.kept O,⟨_,x.toInCall.ns,λi y v h1 h2 h3=>?_⟩,λy c h=>⟨_,x.cell y c h⟩,t.hok.fresh (ai _),λy c h=>?_,λp G=>absurd (show p∈([]:List (Addr×Obj)) from G) (by simp),t.hok.kept O,?_⟩
 .exact name_of_addr x.apart (PySem.mem_of_lookup h1) (PySem.mem_of_lookup h2)
 .have C:scope.names.lookup y=some .cell∨scope.names.lookup y=some .free:=C;rcases C with C|C
  .exact Ik C
  .exact absurd rfl (S.nofree _ (PySem.mem_of_lookup C))
 .exact bZ (x.above y c (PySem.mem_of_lookup h))
 .have L:i<vs.length:=by
   unfold zj at h2
   by_cases L:i<vs.length
   .exact L
   .rw [gYq (by simpa using L)]at h2
    rw[cV]at h2;split at h2 <;> cases h2
  have U:vs[i]?=some v:=by
   unfold zj at h2;rw[gZq (by simpa using L),gMq]at h2
   cases e:vs[i]? with
   |none=>rw[e]at h2;cases h2
   |some a=>rw[e]at h2;cases h2;rfl
  obtain⟨u,Q,X⟩:=r.get U;have G:ps[i]?=some y:=by
   rw[←S.pre,dJ (by lia)];exact h1
  have I:ps.Nodup:=by rw[←S.pre];exact S.nd.sublist (bW _ _)
  refine⟨u,X,?_⟩;rcases S.par y (mGq G) with k|k
  .exact .inl ⟨k,ES I G Q k⟩
  .obtain ⟨c,e⟩:=Ik (n:=s.heap.objs.size+1) k;refine .inr ⟨.inl k,c,e,?_⟩;have q:=x.cell y c e;rw[Fo I G Q (by show scope.names.lookup y≠_;rw[k];decide)]at q
   exact q
 .exact t.hok.fresh (bZ (x.above y c (PySem.mem_of_lookup h)))
 .unfold zj;show _=N.length;rw[lAq,lMq,gQ];lia
theorem Xy{CX:QF}{P:jo}{w:jt}{K:W.Frag}{mg:Str->Option Value}{base:Heap}{k:Nat}{f:Addr}{name l:Str}{z:Arguments}{body:List Stmt}{scope:kF}{dV kV R pm G ct oc:Value}{an od:Option Addr}
  {osl:Array (Option Value)}{N ps:List Str}{sp:Sp}(lk:K.lookup f=some ⟨oc,od,.func (W.fnOf name l z body scope dV kV R pm an G ct),osl⟩) (hcd:W.codeIn K G l=true) (S:oA N ps scope)
  (len:∀vs H Q E,sp vs H Q E->vs.length=ps.length)
  (L:∀(A:Around) (outer:List Env) (s:Shared) (H:Hp) (vs:List V) (Q:VK) (E:XK),xI k (A.deeper (lC l scope s.heap.objs.size f G))->sp vs H Q E ->
   ∃t,NC (Mj CX P w K mg base N l scope f G A outer s H E) body t/\t { nx:=λ_ C=>Q .non C,rt:=Q } (zj N vs) H) :
  CQ P w K mg base CX (k+1) f (W.fnOf name l z body scope dV kV R pm an G ct) ps sp:=by
 refine⟨len,λA outer s H args us vs Q E hr U hb r X=>?_⟩
 have hl:=len _ _ _ _ X;have KX:K.In s.heap:=U.mod.kin.keeps λb o e=>(U.bs b o e).1
 have lim:s.heap.NoLimit:=U.mod.nolimit.keeps λb o e=>(U.bs b o e).1
 have M:∀y∈ps.zip us,scope.names.lookup y.1=some .local∨(scope.names.lookup y.1=some .cell/\((cellsFrom (s.heap.objs.size+1) scope.names []).lookup y.1).isSome=true):=λ⟨n,v⟩ hy=>by
  rcases S.par n (gG hy).1 with q|q
  .exact .inl q
  .exact .inr ⟨q,W.cellsFrom_some _ _ _ (.inl q)⟩
 refine codeAny_call_function hr.depth (KX _ _ lk) rfl S.co S.gen rfl (W.codeRec_of KX hcd) (hb _ _ _ _ ?_);refine wpAny_newFunctionEnv_cells S.kind M λenv he s1 x=>?_
 subst he;refine⟨lim.keeps x.toInCall.keep,codeAny_func ?_⟩;obtain⟨t,ht,hq⟩:=L A outer s H vs Q E (hr.deeper _) X;have I:Inv (Mj CX P w K mg base N l scope f G A outer s H E) [] (zj N vs) H s1:=Oa S hr.hd U hl r x;refine jF (ht [] s1 (zj N vs) H _ I hq) (λfl s' O=>?_) λe s' O=>O
 have Y:∀{B:St}{C:Hp}{v:V}{u:Value},Inv (Mj CX P w K mg base N l scope f G A outer s H E) [] B C s'->qc v u->Q v C->CE outer P w H s Q u s' :=
  λ{B C v u} J rv q=>⟨v,C,J.os,J.bare,J.base,J.hok,rv,q⟩
 cases fl with
 |ret u =>
  obtain⟨v,B,C,J,rv,q⟩:=O;exact Y J rv q
 |next =>
  obtain⟨B,C,J,q⟩:=O;exact Y (v:=V.non) (u:=fS) J rfl q
 |brk =>
  obtain⟨_,_,_,q⟩:=O;exact False.elim q
 |cont =>
  obtain⟨_,_,_,q⟩:=O;exact False.elim q
section
variable {X:Cx}{x:Str}{p pos:Pos}{e:Expr}{es:List Expr}{t:TA}{id T:String}{r:List V->Hp->VK->Prop}
noncomputable def Hh(r:List V->Hp->VK->Prop) (t:TA):TE:=λσ H Q=>t σ H λvs l=>r vs l Q
theorem nY(y:xv X (.builtin id) r) (z:Gl X x) (B:X.mg x=none) (C:kA x=some (.builtin id)) (E:PA X (e::es) t) (hn:x ≠ "__name__" := by decide) (l:(x == ("__debug__" : Str))=false:=by decide)
  (G:jv (e::es) X.env=(false,eval e X.env)::jv es X.env:=by rfl) (n:(kC pos (jv es X.env)).any (·.1)=false:=by rfl):PE X (.Call (.Name x p) (e::es) [] pos) (Hh r t):=by
 intro u s σ H Q I h;refine jS (vm I z B C ?_ hn l);exact fG (sv (E pos u s σ H _ I h) λJ L ⟨M,O,P,R,S⟩=>y u L σ O M J Q P R S) G n
theorem vn(y:xv X (.type T) r) (z:Gl X x) (B:X.mg x=none) (C:kA x=some (.type T)) (E:PA X (e::es) t) (hn:x ≠ "__name__" := by decide) (l:(x == ("__debug__" : Str))=false:=by decide)
  (G:jv (e::es) X.env=(false,eval e X.env)::jv es X.env:=by rfl) (n:(kC pos (jv es X.env)).any (·.1)=false:=by rfl):PE X (.Call (.Name x p) (e::es) [] pos) (Hh r t):=by
 intro u s σ H Q I h;refine jS (vm I z B C ?_ hn l);exact bo (sv (E pos u s σ H _ I h) λJ L ⟨M,O,P,R,S⟩=>y u L σ O M J Q P R S) G n
end
end L2
namespace HT
open PySem PyProof.Rows
noncomputable def qw:List Int->List Int->Bool
 | [],[]=>false
 | [],_::_=>true
 |_::_,[]=>false
 |x::xs,y::ys=>if x=y then qw xs ys else decide (x<y)
theorem uv(x y:Int) (xs ys:List Int):qw (x::xs) (y::ys)=if x=y then qw xs ys else decide (x<y):=rfl
theorem Ax:qw [] []=false:=rfl
theorem zU(y:Int) (ys:List Int):qw [] (y::ys)=true:=rfl
theorem zI(x:Int) (xs:List Int):qw (x::xs) []=false:=rfl
theorem Ji(A:Around) (s:Shared) (a:Int) (t:Tok) (c:Int) (u:Tok):∃e,SeqAt.EqAt A s (.int a t) (.int c u) e/\(e=true↔a=c) :=
 ⟨(a == c),SeqAt.EqAt.int_int a t c u,by simp⟩
theorem IQ(A:Around) (s:Shared) (a:Int) (t:Tok) (c:Int) (u:Tok) (prog:jo) (w:jt) (E:Value->Shared->Prop) (Q:Value->Shared->Prop) (h:Q (.bool (decide (a<c))) s) :
  jj (jm prog w) A (mV .Lt (.int a t) (.int c u)) Q E s :=
 (jh h:jj (jm prog w) A (jQ .Lt (.int a t) (.int c u)) Q E s)
section
open PySem.SeqAt
open PySem.AutoSeq1 (wpAny_loadPart')
open PySem.MeetsSeq PySem.MeetsSeq2 PySem.MeetsSeq3
theorem EA(l b:Addr) (items items2:Array Value) (n n2:Nat) (dd X:Option Addr) (sl Y:Array (Option Value)) (ns ms:List Int) (hi:jB items.toList ns) (hj:jB items2.toList ms) :
  Meets (Builtin.«tuple.__lt__» ⟨[.ref l,.ref b],[]⟩)
   (λ_ R s=>s.heap.get? l=some { cls:=.type "tuple", dict:=dd,data:=.seq items n,slots:=sl }/\s.heap.get? b=some { cls:=.type "tuple", dict:=X,data:=.seq items2 n2,slots:=Y } /\
    R (.ok (.ret (.bool (qw ns ms)))) s) :=
 .of_wp λprog w A R s h=>by
  obtain⟨P,g,d,Q,os⟩:=s;obtain⟨hl,hb,h⟩:=h;have f2:=AutoSeq1.sub_tuple_tuple;have z1:items.size=ns.length:=by rw[←hi.length];simp
  have z2:items2.size=ms.length:=by rw[←hj.length];simp
  wp_walk using wpAny_loadPart' hl,wpAny_loadPart' hb,wpAny_forIn_list _ (λoY b s'=>b.1=none/\s'=⟨P,g,d,Q,os⟩/\∃(S U:List Value) (z B:List Int),oY=S.zip U /\
   jB S z/\jB U B/\z.length+items2.size=B.length+items.size/\R (.ok (.ret (.bool (qw z B)))) ⟨P,g,d,Q,os⟩) _
  case turn =>
   rintro⟨y,x⟩ oY b s' ⟨I,rfl,S,U,z,B,C,J,E,r,G⟩;cases J with
   |nil=>rw[List.zip_nil_left]at C;cases C
   |cons a t M =>
    cases E with
    |nil=>rw[List.zip_nil_right]at C;cases C
    |cons c u O =>
     rw[cv]at C;injection C with hyx L
     injection hyx with hy hx
     subst hy hx;rw[uv]at G;simp only[lCq]at r;obtain⟨e,he,H⟩:=Ji A.in1 ⟨P,g,d,Q,os⟩ a t c u;refine ji (he prog w _ _ ?_);cases e with
     |true =>
      rw[pQ (H.mp rfl)]at G
      wp_walk
      exact⟨rfl,rfl,_,_,_,_,L,M,O,by lia,G⟩
     |false =>
      rw[qk (λq=>absurd (H.mpr q) aW)]at G
      have hri:=IQ A.in1 ⟨P,g,d,Q,os⟩ a t c u prog w
      wp_walk using hri
      exact⟨_,rfl,by simpa using G⟩
  case fin =>
   rintro⟨b1,b2⟩ s' ⟨I,rfl,S,U,z,B,C,J,E,r,G⟩;simp only at I;subst I;have hv:qw z B=decide (items.size<items2.size):=by
    cases J with
    |nil =>
     cases E with
     |nil =>
      simp only[cg]at r;rw[Ax];exact(decide_eq_false (by lia)).symm
     |cons c u hw =>
      simp only[cg,lCq]at r;rw[zU];exact(decide_eq_true (by lia)).symm
    |cons a t hv =>
     cases E with
     |nil =>
      simp only[cg,lCq]at r;rw[zI];exact(decide_eq_false (by lia)).symm
     |cons c u hw =>
      rw[cv]at C;cases C
   rw[hv]at G
   wp_walk
   exact⟨_,rfl,by simpa [Builtin.Tuple.tupleCompareSizes] using G⟩
  case h =>
   exact⟨rfl,rfl,items.toList,items2.toList,ns,ms,rfl,hi,hj,by lia,h⟩
end
section
variable {prog:jo}{w:jt}{A:Around}{E:Value->Shared->Prop}{s:Shared}
theorem JQ{l b:Addr}{items items2:Array Value}{ns ms:List Int}{Q:Value->Shared->Prop}(hl:IsTup s.heap l items) (I:IsTup s.heap b items2) (J:jB items.toList ns) (L:jB items2.toList ms)
  (M:A.units<jD) (h:Q (.bool (qw ns ms)) s):jj (jm prog w) A (jQ .Lt (.ref l) (.ref b)) Q E s:=by
 obtain⟨⟨cls,dd,B,O⟩,C,G,n,hd⟩:=id hl;obtain⟨⟨H,y,data2,z⟩,r,t,P,u⟩:=id I;simp only at G hd t u;subst G hd t u;exact richCompare_meets_room (op:=.Lt) ⟨_,C,rfl⟩ ⟨_,r,rfl⟩ PySem.F.slot_tuple_lt PySem.F.entry_tuple_lt (PySem.F.args_tuple_lt_2 _ _) (EA l b items items2 n P dd y O z ns ms J L)
  ⟨C,r,show dQ (qw ns ms)≠Value.notImplemented/\Q (.bool (qw ns ms)) s from ⟨(λx=>nomatch x),h⟩⟩ M
noncomputable def EY(n d:Nat):Option Int->Nat
 |none=>d
 |some v=>if v<0 then (v+(n:Int)).toNat else min v.toNat n
theorem IC(n d:Nat):EY n d none=d:=rfl
theorem C4(n d k:Nat):EY n d (some (k:Int))=min k n:=by
 show (if (k:Int)<0 then ((k:Int)+(n:Int)).toNat else min (k:Int).toNat n)=min k n
 rw[qk (by lia),cT]
end
end HT
namespace L2
open PySem PySem.Spec PyProof.Rows
abbrev TO:=St->Hp->(Option Int->Hp->Prop)->Prop
def PO(X:Cx) (e:Option Expr) (t:TO):Prop :=
 ∀(l:List (Addr×Obj)) (s:Shared) (σ:St) (H:Hp) (Q:Option Int->Hp->Prop),Inv X l σ H s->t σ H Q ->
  jj (jm X.prog X.w) X.A (evalPart e X.env) (λu r=>∃o n,Inv X l σ n r/\IsPart u o/\Q o n) X.xe s
def Lq:TO:=λ_ H Q=>Q none H
noncomputable def Uw(t:TE):TO:=λσ H Q=>t σ H λx l=>∃i,x = .int i/\Q (some i) l
theorem xk{ns:List Int}:∀{us:List Value},oV (ns.map V.int) us->jB us ns:=by
 induction ns with
 |nil=>intro us r;rw[fN]at r;cases r;exact .nil
 |cons n ns l =>
  intro us r;rw[ax]at r;cases r with
  |cons s u =>
   obtain⟨t,e⟩:=s;subst e;exact .cons n t (l u)
section
variable {X:Cx}{e:Expr}{te:TE}{lo hi:Option Expr}{tl th:TO}{pos p2:Pos}
theorem we:PO X none Lq:=by
 intro l s σ H Q I h;rw[evalPart_none];exact jk ⟨none,H,I,.none,h⟩
theorem uP(h:PE X e te):PO X (some e) (Uw te):=by
 intro l s σ H Q I n;rw[evalPart_some];refine sv (h l s σ H _ I n) λu C ⟨x,r,y,z,B⟩=>?_
 obtain⟨i,rfl,q⟩:=B;obtain⟨t,rfl⟩:=z;exact⟨some i,r,y,.int i t,q⟩
def ZM(X:Cx) (r:V->Option Int->Option Int->Hp->VK->Prop):Prop :=
 ∀(l:List (Addr×Obj)) (s:Shared) (σ:St) (H:Hp) (x:V) (v n t:Value) (lo hi:Option Int) (sl:Addr) (Q:VK),Inv X l σ H s->qc x v->s.heap.IsSliceOf sl n t .none->IsPart n lo->IsPart t hi->r x lo hi H Q ->
  ∃T id,jZ (.type T) "__getitem__" = pure (some (.builtin id))/\s.TypeIs v T/\jj (jm X.prog X.w) X.A (mz v (.ref sl)) (EP X l σ Q) X.xe s
noncomputable def Zx(r:V->Option Int->Option Int->Hp->VK->Prop) (te:TE) (tl th:TO):TE:=λσ H Q=>te σ H λx n=>tl σ n λl s=>th σ s λu t=>r x l u t Q
theorem ug{r:V->Option Int->Option Int->Hp->VK->Prop}(hr:ZM X r) (C:PE X e te) (hl:PO X lo tl) (E:PO X hi th):PE X (.Subscript e (.Slice lo hi none p2) pos) (Zx r te tl th):=by
 intro t s σ H Q I h;refine Subscript_ (sv (C t s σ H _ I h) λv G ⟨x,J,L,M,O⟩=>?_)
 refine wpAny_Slice (sv (hl t G σ J _ L O) λy P ⟨l,R,S,U,Y⟩=>sv (E t P σ R _ S Y) λz n ⟨u,B,I3,pu,q3⟩=>?_)
 rw[evalPart_none];refine jk ?_;have I4:Inv X t σ B { n with heap:=n.heap.push { cls:=.type "slice", data:=.fields #[y,z,.none] } }:=I3.kept (t':=n.toks) λb ob q=>aj _ q
 obtain⟨T,id,hT,ht,hg⟩:=hr t { n with heap:=n.heap.push { cls:=.type "slice", data:=.fields #[y,z,.none] } } σ B x v y z l u n.heap.objs.size Q I4 M (Heap.IsSliceOf.new ..) U pu q3
 show jj (jm X.prog X.w) X.A (mN e (.Slice lo hi none p2) v (.ref n.heap.objs.size)) (EP X t σ Q) X.xe { n with heap:=n.heap.push { cls:=.type "slice", data:=.fields #[y,z,.none] } }
 exact tail_any (ops:=[.ref n.heap.objs.size,v]) ht hT hg (by with_unfolding_all rfl)
def KA(xs:List V) (lo hi:Option Int):List V:=(xs.drop (HT.EY xs.length 0 lo)).take (HT.EY xs.length xs.length hi-HT.EY xs.length 0 lo)
theorem IK(xs:List V) (lo hi:Option Int):(KA xs lo hi).length<=xs.length:=by
 unfold KA;rw[lTq,aO];lia
end
noncomputable def Hc(n:Nat) (i:Int):Option Nat:=if 0<=i then (if i<n then some i.toNat else none) else if -(n:Int)<=i then some (i+n).toNat else none
def atI{α:Type}(xs:List α) (i:Int):Option α:=(Hc xs.length i).bind λj=>xs[j]?
theorem K4{n:Nat}{i:Int}{j:Nat}(h:Hc n i=some j):mS i n=some j/\j<n/\-(n:Int)<=i/\i<n:=by
 unfold Hc at h
 by_cases h0:0<=i
 .rw [pQ h0]at h
  by_cases h1:i<n
  .rw [pQ h1]at h;have e:i.toNat=j:=aT.inj h;exact⟨by rw[seqIndex_of h0 h1,e],by lia,by lia,h1⟩
  .rw [qk h1]at h;cases h
 .rw [qk h0]at h
  by_cases h1:-(n:Int)<=i
  .rw [pQ h1]at h;have e:(i+n).toNat=j:=aT.inj h;exact⟨by rw[seqIndex_neg (by lia) h1,e],by lia,h1,by lia⟩
  .rw [qk h1]at h;cases h
theorem LD{α:Type}{xs:List α}{i:Int}{v:α}(h:atI xs i=some v):∃j,mS i xs.length=some j/\xs[j]?=some v/\j<xs.length/\-(xs.length:Int)<=i/\i<xs.length:=by
 unfold atI at h;cases e:Hc xs.length i with
 |none=>rw[e]at h;cases h
 |some j =>
  rw[e]at h;obtain⟨h1,h2,l,n⟩:=K4 e;exact⟨j,h1,h,h2,l,n⟩
theorem qE{α:Type}{xs:List α}{j:Nat}{v:α}(h:xs[j]?=some v):atI xs (j:Int)=some v:=by
 have l:j<xs.length:=(gSq.mp h).1;have e:Hc xs.length (j:Int)=some j:=by
  unfold Hc;rw[pQ (by lia),pQ (by lia)];simp
 unfold atI;rw[e];exact h
theorem Hk{α:Type}(xs:List α) (v:α):atI (xs++[v]) (-1)=some v:=by
 have hl:(xs++[v]).length=xs.length+1:=by simp
 have e:Hc (xs++[v]).length (-1)=some xs.length:=by
  unfold Hc;rw[hl,qk (by decide),pQ (by lia)]
  congr 1;lia
 unfold atI;rw[e];show (xs++[v])[xs.length]?=some v;simp
def Sh(b:Expr):Prop:=∀o i,lZ b false o i=operate [o,i] (mz o i)
def Y7(X:Cx) (r:R2):Prop :=
 ∀(n l:Expr) (t:List (Addr×Obj)) (s:Shared) (σ:St) (H:Hp) (x y:V) (v u:Value) (Q:VK),Inv X t σ H s->qc x v->qc y u->r x y H Q ->
  lZ l false v u=operate [v,u] (mz v u)->jj (jm X.prog X.w) X.A (mN n l v u) (EP X t σ Q) X.xe s
def Yt(X:Cx) (id:String) (r:V->List V->Hp->VK->Prop):Prop :=
 ∀(l:List (Addr×Obj)) (s:Shared) (σ:St) (H:Hp) (x:V) (xs:List V) (v:Value) (us:List Value) (Q:VK),Inv X l σ H s->qc x v->oV xs us->r x xs H Q ->
  jj (jm X.prog X.w) X.A (call (.builtin id) (v::us)) (EP X l σ Q) X.xe s
section
variable {X:Cx}{a b:Expr}{ta tb:TE}{pos:Pos}
theorem qQ{r:R2}(hr:Y7 X r) (l:PE X a ta) (n:PE X b tb) (t:Sh b):PE X (.Subscript a b pos) (Sr r ta tb):=by
 intro z s σ H Q I h;exact Subscript_ (Vs l n I h λv u B x y C E G J q=>hr a b z B σ C x y v u Q E G J q (t _ _))
def R9(K:W.Frag):R2:=λx y H Q=>∃p xs i v,x = .ref p/\y = .int i/\qV K H p xs/\atI xs i=some v/\Q v H
def XY(K:W.Frag):R2:=λx y H Q=>∃p xs i v,x = .ref p/\y = .int i/\EO K H p xs/\atI xs i=some v/\Q v H
theorem pH:Y7 X (R9 X.K):=by
 intro n B J s σ H x y v u Q I O P h L;obtain⟨p,xs,i,z,rfl,rfl,R,S,q⟩:=h;cases O;obtain⟨t,rfl⟩:=P;obtain⟨C,r,E,hz⟩:=I.list R;obtain⟨j,h1,h2,h3,U,Y⟩:=LD S;obtain⟨w,M,Az⟩:=r.get h2;have hl:=r.length;have hn:=Kf;have l:EP X J σ Q w s:=⟨z,H,I,Az,q⟩
 by_cases h0:0<=i
 .have G:i.toNat=j:=by
   rw[seqIndex_of h0 Y]at h1;exact aT.inj h1
  exact item_listR E.isList h0 (by lia) (by rw[G];simpa using M) l L
 .have G:(i+(C.toArray.size:Int)).toNat=j:=by
   rw[seqIndex_neg (by lia) U]at h1
   rw[aA,←hl];exact aT.inj h1
  exact lX (x:=w) E.isList.typeIs slot_list_getitem.lookup
   (wpAny_getItem_list_neg (Q:=λr s'=>r=w/\EP X J σ Q r s') E.isList (by lia) (by rw[aA] <;> lia) (by lia) (by rw[G];simpa using M) ⟨rfl,l⟩) L
theorem Co:Y7 X (XY X.K):=by
 intro l n C s σ H x y v u Q I G J h L;obtain⟨p,U,i,z,rfl,rfl,M,O,q⟩:=h;cases G;obtain⟨t,rfl⟩:=J;obtain⟨P,r,E,Y⟩:=I.tuple M;obtain⟨j,h1,h2,h3,h4,h5⟩:=LD O;obtain⟨w,R,Az⟩:=r.get h2;have hl:=r.length;have hn:=Kf;have B:EP X C σ Q w s:=⟨z,H,I,Az,q⟩;exact lX (x:=w) E.typeIs slot_tuple_getitem.lookup
  (getItem_tuple (j:=j) (Q:=λr S=>r=w/\EP X C σ Q r S) E (by lia) (by lia) (by rw[aA,←hl];exact h1) (by simpa using R) ⟨rfl,B⟩) L
theorem GL(lo l:Option Int) (n:Nat):(kq lo l none n).1=((HT.EY n 0 lo:Nat):Int)/\(kq lo l none n).2.1=((HT.EY n n l:Nat):Int)/\(kq lo l none n).2.2=1:=by
 refine⟨?_,?_,rfl⟩
 .cases lo with
  |none=>simp[kq,HT.EY]
  |some i =>
   simp only[kq,HT.EY,iz,show (1:Int)>0 by decide,if_true]
   by_cases h:i<0
   .simp only [h,if_true] <;> lia
   .simp only [h,if_false] <;> lia
 .cases l with
  |none=>simp[kq,HT.EY]
  |some i =>
   simp only[kq,HT.EY,iz,show (1:Int)>0 by decide,if_true]
   by_cases h:i<0
   .simp only [h,if_true] <;> lia
   .simp only [h,if_false] <;> lia
theorem EE(l:List Value) (lo n:Option Int):slicePick l.toArray lo n none=((l.drop (HT.EY l.length 0 lo)).take (HT.EY l.length l.length n-HT.EY l.length 0 lo)).toArray:=by
 obtain⟨h1,h2,r⟩:=GL lo n l.toArray.size;unfold slicePick;rw[h1,h2,r];simp only[sliceRange_one,pick_run,aA] <;> rfl
def XH(K:W.Frag):V->Option Int->Option Int->Hp->VK->Prop:=λx lo l H Q=>∃a xs,x = .ref a/\qV K H a xs/\∀p,H p=none->Q (.ref p) (qG H p (.lst (KA xs lo l)))
theorem vv:ZM X (XH X.K):=by
 intro J s σ H x v L M lo t O Q I u y z B h;obtain⟨a,l,rfl,C,q⟩:=h;cases u;obtain⟨E,r,ht,G⟩:=I.list C;have n:=r.length;refine⟨"list", _,slot_list_getitem.lookup,ht.isList.typeIs,?_⟩;refine wpAny_getItem_list_slice ht.isList y z B .none (by simp) ?_ (by rw[aA] <;> lia)
 rw[EE,←n];refine⟨.ref s.heap.objs.size,_,I.laid (t':=s.toks) (o:=.lst (KA l lo t)) (λb P q=>aj _ q) (ai _) ?_,rfl,q _ (I.hok.fresh (ai _))⟩
 exact⟨bw (IK l lo t) G,_,0,(r.drop (HT.EY l.length 0 lo)).take (HT.EY l.length l.length t-HT.EY l.length 0 lo),aL _ rfl⟩
theorem uU:xv X (.type "list") (λxs H Q=>∃p ys,xs=[.ref p]/\(qV X.K H p ys∨EO X.K H p ys)/\∀l,H l=none->Q (.ref l) (qG H l (.lst ys))):=by
 intro P s σ H xs S Q I r h;obtain⟨p,ys,rfl,B,q⟩:=h;obtain⟨u,rfl,R⟩:=wQ r;cases R;have C:∀(t:List Value),oV ys t->ys.length<=jn->∀(x:Heap) (y:Nat),(∀b O,s.heap.get? b=some O->x.get? b=some O) ->
   x.get? s.heap.objs.size=some { cls:=.type "list", dict:=none,data:=.seq t.toArray y,slots:=#[] }->EP X P σ Q (.ref s.heap.objs.size) { s with heap:=x }:=λt z E x y kp e =>
  ⟨.ref s.heap.objs.size,_,I.laid (t':=s.toks) kp (ai _) (show qT X.prog X.w _ x _ (.lst ys) from ⟨E,t,y,z,e⟩),rfl,q _ (I.hok.fresh (ai _))⟩
 rcases B with B|B
 .obtain ⟨t,z,J,E⟩:=I.list B;have G:=z.length;obtain⟨o,L,M,n,hd⟩:=J.isList;exact call_list_seq p (.inl rfl) L M hd (λx y kp e=>C t z E x y kp e) (by simp only[aA] <;> lia)
 .obtain ⟨t,z,J,E⟩:=I.tuple B;have G:=z.length;obtain⟨o,L,M,n,hd⟩:=J;exact call_list_seq p (.inr rfl) L M hd (λx y kp e=>C t z E x y kp e) (by simp only[aA] <;> lia)
theorem AF:xv X (.type "tuple") (λxs H Q=>∃p ys,xs=[.ref p]/\((qV X.K H p ys/\∀l,H l=none->Q (.ref l) (qG H l (.tup ys)))∨(EO X.K H p ys/\Q (.ref p) H))):=by
 intro B s σ H xs M Q I r h;obtain⟨p,ys,rfl,h⟩:=h;obtain⟨u,rfl,J⟩:=wQ r;cases J;rcases h with ⟨x,q⟩|⟨x,q⟩
 .obtain ⟨n,y,z,C⟩:=I.list x;have E:=y.length;refine call_tuple_list z.isList (λt kp=>?_) (by simp only[aA] <;> lia)
  have G:Inv X B σ H { s with heap:=t }:=I.kept (t':=s.toks) kp
  have L:Inv X B σ (qG H t.objs.size (.tup ys)) { s with heap:=t.push { cls:=.type "tuple", data:=.seq n.toArray } } :=
   G.laid (t':=s.toks) (λb o e=>aj _ e) (ai _) (show qT X.prog X.w _ _ _ (.tup ys) from ⟨C,n,y,IsTup.new _ _⟩)
  exact⟨.ref t.objs.size,_,L,rfl,q _ (G.hok.fresh (ai _))⟩
 .obtain ⟨n,y,z,C⟩:=I.tuple x;exact call_tuple_same z ⟨.ref p,H,I,rfl,q⟩
def YE(K:W.Frag) (T:String) (x:V) (H:Hp):Prop:=match x with
 | .str _=>T = "str"
 | .int _=>T = "int"
 | .ref p=>(T = "list" /\ ∃xs,qV K H p xs)∨(T = "tuple" /\ ∃o,K.lookup p=some o/\o.cls = .type "tuple" /\ o.dict=none) ∨
   (T = "dict" /\ ((∃kvs,H p=some (.dK kvs))∨∃kvs,H p=some (.dT kvs)))∨(T = "set" /\ ∃S n,H p=some (.set S n))
 |_=>False
theorem PP{E:List (Addr×Obj)}{σ:St}{H:Hp}{s:Shared}{T:String}{x:V}{v:Value}(I:Inv X E σ H s) (r:qc x v) (ty:YE X.K T x H) :
  s.TypeIs v T/\∀a,v = .ref a->∃B,s.heap.get? a=some B/\B.dict=none:=by
 cases x with
 |str z =>
  obtain⟨t,rfl⟩:=r;cases (show T = "str" from ty)
  exact⟨typeIs_str s z t,λ_ e=>nomatch e⟩
 |int i =>
  obtain⟨t,rfl⟩:=r;cases (show T = "int" from ty)
  exact⟨typeIs_int s i t,λ_ e=>nomatch e⟩
 |ref p =>
  cases r;rcases ty with ⟨rfl,M,G⟩|⟨rfl,o,l,J,hd⟩|⟨rfl,l⟩|⟨rfl,S,n,l⟩
  .obtain ⟨L,_,C,_⟩:=I.list G;refine⟨C.isList.typeIs,λa e=>?_⟩
   cases e;obtain⟨o,n,e,c,hd,_⟩:=C;exact⟨o,e,hd⟩
  .refine ⟨⟨o,I.kIn p o l,J⟩,λa e=>?_⟩
   cases e;exact⟨o,I.kIn _ o l,hd⟩
  .have z:∃o,s.heap.get? p=some o/\o.ExactDict:=by
    rcases l with ⟨u,l⟩|⟨u,l⟩
    .obtain ⟨_,_,_,_,o,_,_,e,ex,_⟩:=I.hok p _ l;exact⟨o,e,ex⟩
    .obtain ⟨_,_,_,_,o,_,_,e,ex,_⟩:=I.hok p _ l;exact⟨o,e,ex⟩
   obtain⟨o,e,ex⟩:=z;refine⟨⟨o,e,ex.1⟩,λa y=>?_⟩
   cases y;exact⟨o,e,ex.2.1⟩
  .obtain ⟨o,_,_,_,e,ex,_⟩:=I.hok p _ l;refine⟨⟨o,e,ex.1⟩,λa y=>?_⟩
   cases y;exact⟨o,e,ex.2.1⟩
 |_=>exact False.elim ty
noncomputable def Xg(K:W.Frag) (T:String) (r:V->List V->Hp->VK->Prop) (to:TE):TE:=λσ H Q=>to σ H λx l=>YE K T x l/\r x [] l Q
noncomputable def Ov(K:W.Frag) (T:String) (r:V->List V->Hp->VK->Prop) (to:TE) (t:TA):TE:=λσ H Q=>to σ H λx l=>YE K T x l/\t σ l λxs n=>r x xs n Q
variable {o e:Expr}{es:List Expr}{to:TE}{t:TA}{name:Str}{apos cpos:Pos}{T id:String}{r:V->List V->Hp->VK->Prop}
theorem KF(C:PlainAttrs T) (slot:Slot T name id) (u:typeOf (.builtin id)=pure (.type "method_descriptor")) (E:Yt X id r) (G:PE X o to)
  (l:attributeBase o name X.env (eval o X.env)=eval o X.env:=by rfl) (n:(apos.endLine == cpos.line)=true:=by rfl):PE X (.Call (.Attribute o name apos) [] [] cpos) (Xg X.K T r to):=by
 intro y s σ H Q I h;refine wpAny_Call_method0_late l n (sv (G y s σ H _ I h) λv J ⟨x,L,z,B,ty,M⟩=>?_)
 obtain⟨h1,h2⟩:=PP z B ty;exact⟨T,id,C,slot,u,h1,h2,Calls.callWith_builtin rfl (PySem.evalArgs_none (E y J σ L x [] v [] Q z B .nil M))⟩
theorem rN(J:PlainAttrs T) (slot:Slot T name id) (z:typeOf (.builtin id)=pure (.type "method_descriptor")) (L:Yt X id r) (M:PE X o to) (O:PA X (e::es) t)
  (n:attributeBase o name X.env (eval o X.env)=eval o X.env:=by rfl)
  (y:((kC cpos (jv (e::es) X.env)).all (λx=>!x.1) && (backToKw cpos (keywordEach [] X.env)).all (λx=>x.1.isSome)
   && decide ((e::es).length+([]:List Keyword).length+(if ([]:List Keyword).isEmpty then 0 else 1)<30))=true:=by rfl)
  (u:(apos.endLine == cpos.line)=true:=by rfl) (P:jv (e::es) X.env=(false,eval e X.env)::jv es X.env:=by rfl) (l:(kC cpos (jv es X.env)).any (·.1)=false:=by rfl) :
  PE X (.Call (.Attribute o name apos) (e::es) [] cpos) (Ov X.K T r to t):=by
 intro B s σ H Q I h;refine wpAny_Call_method_late n y u rfl (sv (M B s σ H _ I h) λv R ⟨x,S,C,E,ty,U⟩=>?_)
 obtain⟨h1,h2⟩:=PP C E ty;refine⟨T,id,J,slot,z,h1,h2,?_⟩;have G:=O cpos B R σ S _ C U;rw[P]at G ⊢;refine Calls.callWith_builtin (by show (false || (kC cpos (jv es X.env)).any (·.1))=false;rw[l] <;> rfl) (Calls.evalArgs_plain ?_)
 exact sv G λY s2 ⟨vs,H2,I2,r2,q2⟩=>L B s2 σ H2 x vs v Y Q I2 E r2 q2
/- xs.append(e),list.index on a module's tuple .. are Yt facts of 06m -/
end
def Yx(X:Cx) (id:String) (r:V->List V->Hp->VK->Prop):Prop :=
 ∀(l:List (Addr×Obj)) (s:Shared) (σ:St) (H:Hp) (x:V) (xs:List V) (v:Value) (us:List Value) (Q:VK),Inv X l σ H s->qc x v->oV xs us->r x xs H Q ->
  jj (jm X.prog X.w) X.A (call (.builtin id) (v::us)) (EP X l σ Q) X.xe s
theorem oV.one:∀{x:V}{us:List Value},oV [x] us->∃u,us=[u]/\qc x u
 |_,_,.cons r .nil=>⟨_,rfl,r⟩
theorem oV.two:∀{x y:V}{us:List Value},oV [x,y] us->∃u v,us=[u,v]/\qc x u/\qc y v
 |_,_,_,.cons r (.cons q .nil)=>⟨_,_,rfl,r,q⟩
theorem oV.zero:∀{us:List Value},oV [] us->us=[]
 |_,.nil=>rfl
theorem oV.dropLast{xs:List V}{us:List Value}(h:oV xs us):oV xs.dropLast us.dropLast:=by
 induction h with
 |nil=>exact .nil
 |cons r t l =>
  cases t with
  |nil=>exact .nil
  |cons q n=>exact .cons r l
theorem oV.eraseIdx:∀{xs:List V}{us:List Value}(i:Nat),oV xs us->oV (xs.eraseIdx i) (us.eraseIdx i)
 |_,_,_,.nil=>.nil
 |_,_,0,.cons _ t=>t
 |_,_,i+1,.cons r t=>.cons r (oV.eraseIdx i t)
theorem oV.reverse{xs:List V}{us:List Value}(h:oV xs us):oV xs.reverse us.reverse:=by
 induction h with
 |nil=>exact .nil
 |cons r t l=>rw[ft,ft];exact oV.append l (.cons r .nil)
theorem A7{α:Type}(l:List α):l.eraseIdx (l.length-1)=l.dropLast:=by
 induction l with
 |nil=>rfl
 |cons a r n =>
  cases r with
  |nil=>rfl
  |cons b r =>
   have e:(a::b::r).length-1=((b::r).length-1)+1:=by
    have h1:(a::b::r).length=r.length+2:=rfl;have h2:(b::r).length=r.length+1:=rfl;lia
   rw[e,bP,n]
   all_goals rfl
theorem Ft{α:Type}:∀(l:List α) (i:Nat),(l.eraseIdx i).length<=l.length
 | [],_=>ai _
 |_::_,0=>bR _
 |_::r,i+1=>gn (Ft r i)
section
variable {X:Cx}{nA:List (Addr×Obj)}{σ:St}{H:Hp}{s:Shared}{l b:Addr}{xs ys zs:List V}
theorem Inv.lset{r its':List Value}{n:Nat}{f:Array Value->Array Value}{t':Nat}(I:Inv X nA σ H s) (t:H l=some (.lst xs))
  (e:s.heap.get? l=some { cls:=.type "list", data:=.seq r.toArray n }) (y:f r.toArray=its'.toArray) (z:oV ys its') (B:ys.length<=jn) :
  Inv X nA σ (qG H l (.lst ys)) { s with heap:=s.heap.update l (Obj.mapSeq f),toks:=t' }:=by
 have q:=PySem.IsL.update e f;rw[y]at q;refine I.write (x:=l) (e:=l) (by rw[t];exact trivial) (.inl rfl) (λG u C E=>(gH s.heap (Obj.mapSeq f) (Ne.symm C)).trans E) ⟨_,q⟩ ?_
 exact⟨B,its',_,z,q⟩
theorem Inv.lnew{n:List Value}{t':Nat}(I:Inv X nA σ H s) (r:oV ys n) (t:ys.length<=jn) :
  Inv X nA σ (qG H s.heap.objs.size (.lst ys)) { s with heap:=s.heap.push { cls:=.type "list", data:=.seq n.toArray },toks:=t' } :=
 I.laid (λ_ _ q=>aj _ q) (ai _) ⟨t,n,0,r,aL _ rfl⟩
theorem Inv.fresh(I:Inv X nA σ H s):H s.heap.objs.size=none:=I.hok.fresh (ai _)
theorem Inv.lstM(I:Inv X nA σ H s) (u:H l=some (.lst xs)):xs.length<=jn/\∃(t:List Value) (n:Nat),oV xs t/\xs.length=t.length/\s.heap.get? l=some { cls:=.type "list", data:=.seq t.toArray n }:=by
 obtain⟨z,t,n,r,e⟩:=I.hok l _ u;exact⟨z,t,n,r,r.length,e⟩
theorem Qj{n:Nat}(h:n<=jn):Builtin.List.listTooLong n=false:=by
 unfold Builtin.List.listTooLong;exact decide_eq_false (by lia)
end
section
variable {X:Cx}
def Al:V->List V->Hp->VK->Prop:=λx vs H Q=>∃l xs y,x = .ref l/\vs=[y]/\H l=some (.lst xs)/\xs.length<jn/\Q .non (qG H l (.lst (xs++[y])))
theorem pZ:Yx X "list.append" Al:=by
 intro J s σ H x L v M Q I C E h;obtain⟨l,O,y,rfl,rfl,B,P,q⟩:=h;cases C;obtain⟨u,rfl,G⟩:=E.one;obtain⟨z,t,n,r,hl,e⟩:=I.lstM B;refine ki F.slot_list_append ⟨_,e,rfl⟩ F.entry_list_append (F.args_list_append_2 _ _) (PySem.list_append l t.toArray n u (by rw[aA];lia)) ⟨e,?_⟩
 refine⟨.non,_,I.lset (its':=t++[u]) B e (by simp) (r.append (.cons G .nil)) ?_,rfl,q⟩
 rw[lAq,lSq];lia
def GI:V->List V->Hp->VK->Prop:=λx vs H Q=>∃l b xs n,x = .ref l/\vs=[.ref b]/\H l=some (.lst xs)/\H b=some (.lst n)/\xs.length+n.length<=jn/\Q .non (qG H l (.lst (xs++n)))
theorem wC:Yx X "list.extend" GI:=by
 intro U s σ H x Y v us Q I G J h;obtain⟨l,b,xs,zs,rfl,rfl,E,L,hz,q⟩:=h;cases G;obtain⟨u,rfl,M⟩:=J.one;cases M;obtain⟨z,y,n,r,hl,e⟩:=I.lstM E;obtain⟨z2,t,O,P,R,S⟩:=I.lstM L;have C:y.toArray.size+t.toArray.size<=jn:=by rw[aA,aA];lia
 have B:¬ (!y.toArray.isEmpty && Builtin.List.listTooLong (y.toArray.size+t.toArray.size))=true:=by
  rw[Qj C,Bool.and_false];exact aW
 refine ki F.slot_list_extend ⟨_,e,rfl⟩ F.entry_list_extend (F.args_list_extend_2 _ _)
  (AutoSeq1.list_extend_list_list_0 l y.toArray n b t.toArray O B (by rw[aA];lia) (by lia)) ⟨e,S,?_⟩
 refine⟨.non,_,I.lset (its':=y++t) E e (by simp) (r.append P) ?_,rfl,q⟩
 rw[lAq];lia
def V1:V->List V->Hp->VK->Prop:=λx vs H Q=>∃l xs y,x = .ref l/\vs=[]/\H l=some (.lst xs)/\xs[xs.length-1]?=some y/\Q y (qG H l (.lst xs.dropLast))
theorem KL:Yx X "list.pop" V1:=by
 intro P s σ H x R v S Q I G J h;obtain⟨l,U,y,rfl,rfl,E,L,q⟩:=h;cases G;have B:=J.zero;subst B;obtain⟨z,t,n,r,hl,e⟩:=I.lstM E;obtain⟨u,M,O⟩:=r.get L;have C:t.toArray[t.toArray.size-1]?=some u:=by
  show t.toArray[t.length-1]?=some u;rw[←dr,←hl];exact M
 refine ki F.slot_list_pop ⟨_,e,rfl⟩ F.entry_list_pop (F.args_list_pop_1 _) (MeetsSeq.list_pop_last l t.toArray n u C (by rw[aA];lia)) ⟨e,?_⟩
 refine⟨y,_,I.lset (its':=t.dropLast) E e ?_ r.dropLast ?_,O,q⟩
 .show t.toArray.eraseIdxIfInBounds (t.toArray.size-1)=t.dropLast.toArray;rw[aA,fy,A7]
 .rw [List.length_dropLast];lia
def O7:V->List V->Hp->VK->Prop:=λx vs H Q=>∃l xs i k y,x = .ref l/\vs=[.int i]/\H l=some (.lst xs)/\-(2 ^ 63)<=i/\i<2 ^ 63/\mS i xs.length=some k/\xs[k]?=some y/\Q y (qG H l (.lst (xs.eraseIdx k)))
theorem Eo:Yx X "list.pop" O7:=by
 intro R s σ H x S v U Q I E G h;obtain⟨l,J,i,k,y,rfl,rfl,C,h1,h2,L,M,q⟩:=h;cases E;obtain⟨u,rfl,O⟩:=G.one;obtain⟨t,rfl⟩:=O;obtain⟨z,B,n,r,hl,e⟩:=I.lstM C;obtain⟨w,P,Az⟩:=r.get M;refine ki F.slot_list_pop ⟨_,e,rfl⟩ F.entry_list_pop (F.args_list_pop_2 _ _)
  (MeetsSeq.list_pop_at l B.toArray n i t k w (fitsIndex_both h1 h2) (by rw[aA,←hl];exact L) (by rw[←dr];exact P) (by rw[aA];lia)) ⟨e,?_⟩
 refine⟨y,_,I.lset (its':=B.eraseIdx k) C e ?_ (r.eraseIdx k) ?_,Az,q⟩
 .show B.toArray.eraseIdxIfInBounds k=(B.eraseIdx k).toArray;rw[fy]
 .have:=Ft J k;lia
def X4:R2:=λx y H Q=>∃l b xs n,x = .ref l/\y = .ref b/\H l=some (.lst xs)/\H b=some (.lst n)/\xs.length+n.length<=jn/\∀p,H p=none->Q (.ref p) (qG H p (.lst (xs++n)))
theorem G3:EL X (kB .Add) X4:=by
 intro R s σ H x y v u Q I C E h;obtain⟨l,b,S,U,rfl,rfl,G,J,Y,q⟩:=h;cases C;cases E;obtain⟨z,B,n,r,hl,e⟩:=I.lstM G;obtain⟨z2,t,n2,L,M,O⟩:=I.lstM J;refine PySem.P.add_list e O ?_ (by rw[aA,aA];lia)
 have P:B.toArray++t.toArray=(B++t).toArray:=by simp
 rw[P];exact⟨.ref _,_,I.lnew (t':=s.toks) (r.append L) (by rw[lAq];lia),rfl,q _ I.fresh⟩
end
section
variable {κ:Type} [DecidableEq κ]
noncomputable def Bs(kvs:List (κ×V)) (k:κ):Option V:=(kvs.find? λkv=>decide (kv.1=k)).map (·.2)
noncomputable def xn(kvs:List (κ×V)) (k:κ) (v:V):List (κ×V) :=
 if (kvs.any λkv=>decide (kv.1=k))=true then kvs.map (λkv=>if kv.1=k then (kv.1,v) else kv) else kvs++[(k,v)]
theorem D9{p:κ×V}{r:List (κ×V)}{k:κ}(e:p.1=k):Bs (p::r) k=some p.2:=by simp[Bs,ee,e]
theorem Dm{p:κ×V}{r:List (κ×V)}{k:κ}(e:¬ p.1=k):Bs (p::r) k=Bs r k:=by simp[Bs,ee,e]
theorem Iu(k:κ):∀kvs:List (κ×V),(kvs.any λkv=>decide (kv.1=k))=(Bs kvs k).isSome
 | []=>rfl
 |p::r=>by
  rw[eS]
  by_cases e:p.1=k
  .simp only [D9 e,decide_eq_true e,Bool.true_or,hZ]
  .rw [Dm e,decide_eq_false e,Bool.false_or];exact Iu k r
theorem xr(kvs:List (κ×V)) (k:κ) (v:V):(xn kvs k v).length<=kvs.length+1:=by
 unfold xn;split
 .rw [lMq];lia
 .rw [lAq,lCq,cg];lia
theorem EH.isSome_eq{o:Option V}{u:Option Value}(r:EH o u):o.isSome=u.isSome:=by
 cases o with
 |none=>cases u with
  |none=>rfl
  |some _=>exact(show False from r).elim
 |some _=>cases u with
  |none=>exact(show False from r).elim
  |some _=>rfl
theorem KV.val{kvs:List (κ×V)}{vs:List (κ×Value)}(r:KV kvs vs) (k:κ):EH (Bs kvs k) (lI vs k):=by
 unfold KV at r
 induction r with
 |nil=>exact True.intro
 | @cons p q u l h t s =>
  obtain⟨h1,h2⟩:=h
  by_cases e:p.1=k
  .have n:q.1=k:=h1.symm.trans e;have b:lI (q::l) k=some q.2:=by simp[lI,ee,n]
   rw[D9 e,b];exact h2
  .have n:¬ q.1=k:=λz=>e (h1.trans z)
   have b:lI (q::l) k=lI l k:=by simp[lI,ee,n]
   rw[Dm e,b];exact s
theorem KV.any{kvs:List (κ×V)}{vs:List (κ×Value)}(r:KV kvs vs) (k:κ):(kvs.any λkv=>decide (kv.1=k))=vs.any λkv=>decide (kv.1=k):=by
 unfold KV at r
 induction r with
 |nil=>rfl
 |cons h t l=>rw[eS,eS,l,h.1]
theorem KV.repl{kvs:List (κ×V)}{vs:List (κ×Value)}(r:KV kvs vs) (k:κ) {y:V}{u:Value}(l:qc y u) :
  KV (kvs.map λkv=>if kv.1=k then (kv.1,y) else kv) (vs.map λkv=>if kv.1=k then (kv.1,u) else kv):=by
 unfold KV at r ⊢
 induction r with
 |nil=>exact .nil
 | @cons p q s x h t n =>
  rw[ax,ax];refine .cons ?_ n;obtain⟨h1,h2⟩:=h
  by_cases e:p.1=k
  .rw [pQ e,pQ (h1.symm.trans e)];exact⟨h1,l⟩
  .rw [qk e,qk (λz=>e (h1.trans z))];exact⟨h1,h2⟩
theorem KV.put{kvs:List (κ×V)}{vs:List (κ×Value)}(r:KV kvs vs) (k:κ) {y:V}{u:Value}(l:qc y u):KV (xn kvs k y) (lg vs k u):=by
 unfold xn lg;rw[r.any k]
 by_cases e:(vs.any λkv=>decide (kv.1=k))=true
 .rw [pQ e,pQ e];exact r.repl k l
 .rw [qk e,qk e];exact Paired.snoc r ⟨rfl,l⟩
theorem KV.length{kvs:List (κ×V)}{vs:List (κ×Value)}(r:KV kvs vs):kvs.length=vs.length:=Paired.length r
end
theorem IW{P:jo}{w:jt}{k:oq}{u:Value}(r:qc (kV k) u):(qH P w).is k u=true:=by
 cases k with
 |inl i=>obtain⟨t,e⟩:=(show ∃t,u=gP i t from r);subst e;exact HS P w i t
 |inr x=>obtain⟨t,e⟩:=(show ∃t,u=iU x t from r);subst e;exact HP P w x t
theorem Fd{P:jo}{w:jt}:∀{ks:List oq}{us:List Value},oV (ks.map kV) us->ItemsAre (qH P w) ks us
 | [],_,r=>by rw[fN]at r;cases r;exact .nil
 |k::ks,_,r=>by
  rw[ax]at r;cases r with
  |cons h t=>exact .cons (IW h) (Fd t)
abbrev KT(H:Hp):List (List oq×V)->List (List oq×Addr×Value)->Prop:=Paired λp q=>p.1=q.1/\H q.2.1=some (.tup (p.1.map kV))/\qc p.2 q.2.2
theorem KT.val{H:Hp}{kvs:List (List oq×V)}{xs:List (List oq×Addr×Value)}(r:KT H kvs xs) (k:List oq):EH (Bs kvs k) ((lV xs k).map (·.2)):=by
 induction r with
 |nil=>exact True.intro
 | @cons p q u l h t s =>
  obtain⟨h1,_,h2⟩:=h
  by_cases e:p.1=k
  .have n:q.1=k:=h1.symm.trans e;have b:lV (q::l) k=some q.2:=by simp[lV,ee,n]
   rw[D9 e,b];exact h2
  .have n:¬ q.1=k:=λz=>e (h1.trans z)
   have b:lV (q::l) k=lV l k:=by simp[lV,ee,n]
   rw[Dm e,b];exact s
theorem KT.repl{H:Hp}{kvs:List (List oq×V)}{xs:List (List oq×Addr×Value)}(r:KT H kvs xs) (k:List oq) {y:V}{u:Value}(l:qc y u) :
  KT H (kvs.map λkv=>if kv.1=k then (kv.1,y) else kv) (xs.map (putAt k u)):=by
 induction r with
 |nil=>exact .nil
 | @cons p q x B h t n =>
  rw[ax,ax];refine .cons ?_ n;obtain⟨h1,h2,s⟩:=h;unfold putAt
  by_cases e:p.1=k
  .rw [pQ e,pQ (h1.symm.trans e)];exact⟨h1,h2,l⟩
  .rw [qk e,qk (λz=>e (h1.trans z))];exact⟨h1,h2,s⟩
theorem KT.put{H:Hp}{kvs:List (List oq×V)}{xs:List (List oq×Addr×Value)}(r:KT H kvs xs) (k:List oq) {b:Addr}{y:V}{u:Value}(n:H b=some (.tup (k.map kV))) (l:qc y u) :
  KT H (xn kvs k y) (storedH xs k b u):=by
 have e:(kvs.any λkv=>decide (kv.1=k))=(lV xs k).isSome:=by
  rw[Iu,(r.val k).isSome_eq,eB]
 unfold xn storedH;rw[e]
 by_cases q:(lV xs k).isSome=true
 .rw [pQ q,pQ q];exact r.repl k l
 .rw [qk q,qk q];exact Paired.snoc r ⟨rfl,n,l⟩
theorem KT.keeps{H l:Hp}{kvs:List (List oq×V)}{xs:List (List oq×Addr×Value)}(r:KT H kvs xs) (ht:∀b ys,H b=some (.tup ys)->l b=some (.tup ys)):KT l kvs xs :=
 Paired.mapP r λ_ _ z=>⟨z.1,ht _ _ z.2.1,z.2.2⟩
section
variable {P:jo}{w:jt}{H:Hp}{h:Heap}{a:Addr}
theorem Uh{u:HO}(ok:Be P w H h) (e:Rd H a u):qT P w H h a u:=e.ok ok
theorem IS{kvs:List (oq×V)}(ok:Be P w H h) (e:Rd H a (.dK kvs)):kvs.length<=jn/\(a == ke)=false/\∃vs,KV kvs vs/\h.DictOf (qH P w) a vs :=
 show qT P w H h a (.dK kvs) from Uh ok e
theorem UM{kvs:List (oq×V)}(ok:Be P w H h) (e:H a=some (.dK kvs)):kvs.length<=jn/\(a == ke)=false/\∃vs,KV kvs vs/\h.DictOf (qH P w) a vs:=IS ok (.inl e)
theorem GD{ks:List oq}(ok:Be P w H h) (e:H a=some (.tup (ks.map kV))):(lU (qH P w)).is h ks a:=by
 obtain⟨_,l,r,o,h1,h2,n,s⟩:=(show qT P w H h a (.tup (ks.map kV)) from ok a _ e)
 exact⟨o,l.toArray,n,h1,h2,s,by simpa using Fd r⟩
theorem Ht{kvs:List (List oq×V)}(ok:Be P w H h) (e:Rd H a (.dT kvs)):kvs.length<=jn/\(a == ke)=false /\
  ∃xs,KT H kvs xs/\h.DictOfH (lU (qH P w)) a xs:=by
 obtain⟨z,y,xs,r,o,u,B,h1,h2,C,E,G⟩:=(show qT P w H h a (.dT kvs) from Uh ok e)
 refine⟨z,y,xs,r,o,u,B,h1,h2,C,E,λx n=>?_,G⟩
 have all:∀{l:List (List oq×V)}{m:List (List oq×Addr×Value)},KT H l m->∀x∈m,(lU (qH P w)).is h x.1 x.2.1:=by
  intro l m q
  induction q with
  |nil=>intro x n;exact nomatch n
  | @cons p q J L s t I =>
   intro x n;rcases ar.mp n with e|n
   .subst e;exact GD ok (by rw[←s.1];exact s.2.1)
   .exact I x n
 exact all r x n
theorem Xt{kvs:List (List oq×V)}(ok:Be P w H h) (e:H a=some (.dT kvs)):kvs.length<=jn/\(a == ke)=false /\
  ∃xs,KT H kvs xs/\h.DictOfH (lU (qH P w)) a xs:=Ht ok (.inl e)
end
def Dz(H:Hp) (a:Addr) (y:V) (r:Option V):Prop :=
 (∃kvs k,Rd H a (.dK kvs)/\y=kV k/\r=Bs kvs k)∨∃kvs k b,Rd H a (.dT kvs)/\y = .ref b/\H b=some (.tup (k.map kV))/\r=Bs kvs k
def QE(H:Hp) (a:Addr) (y v:V) (l:Hp):Prop :=
 (∃kvs k,H a=some (.dK kvs)/\y=kV k/\kvs.length<jn/\l=qG H a (.dK (xn kvs k v))) ∨
 ∃kvs k b,H a=some (.dT kvs)/\y = .ref b/\H b=some (.tup (k.map kV))/\kvs.length<jn/\l=qG H a (.dT (xn kvs k v))
theorem Dz.k{H:Hp}{a:Addr}{kvs:List (oq×V)}{k:oq}(e:H a=some (.dK kvs)):Dz H a (kV k) (Bs kvs k):=.inl ⟨kvs,k,.inl e,rfl,rfl⟩
theorem QE.k{H:Hp}{a:Addr}{kvs:List (oq×V)}{k:oq}{v:V}(e:H a=some (.dK kvs)) (hl:kvs.length<jn):QE H a (kV k) v (qG H a (.dK (xn kvs k v))):=.inl ⟨kvs,k,e,rfl,hl,rfl⟩
section
variable {X:Cx}{nA:List (Addr×Obj)}{σ:St}{H:Hp}{s:Shared}{a:Addr}{y v:V}{u r:Value}{o:Option V}{A:Around}{E:Value->Shared->Prop}
theorem Inv.big(I:Inv X nA σ H s):ke<s.heap.objs.size:=by
 have h:jr<s.heap.objs.size:=(I.mod.glob.keeps I.bk).lt;exact gA (by decide) h
theorem M7{Q:Value->Shared->Prop}(M:A.units+1<jD) (I:Inv X nA σ H s) (g:Dz H a y (some v)) (J:qc y u) (h:∀t L,Inv X nA σ H L->qc v t->Q t L) :
  jj (jm X.prog X.w) A (mz (.ref a) u) Q E s:=by
 rcases g with ⟨x,k,e,B,l⟩|⟨x,k,b,e,B,O,l⟩
 .subst B;obtain⟨z,hd,P,n,dd⟩:=IS I.hok e;obtain⟨t,C,Az⟩:=EH.some_of (v:=v) (o:=lI P k) (by rw[l];exact n.val k)
  exact wpAny_getItem_of (IW J) dd.mapOf C (h t _ (I.tok _) Az)
 .subst B;cases (show u=aE b from J)
  obtain⟨z,hd,R,n,dd⟩:=Ht I.hok e;obtain⟨t,C,Az⟩:=EH.some_of (v:=v) (o:=(lV R k).map (·.2)) (by rw[l];exact n.val k)
  obtain⟨p,S,G⟩:=oMq.mp C;refine wpAny_getItem_heap (lB M) (GD I.hok O) dd S ?_;rw[G];exact h t _ (I.tok _) Az
theorem SB{Q:Value->Shared->Prop}(G:A.units+1<jD) (I:Inv X nA σ H s) (g:Dz H a y o) (B:qc y u) (h:∀C,Inv X nA σ H C->Q (.bool (!o.isSome)) C) :
  jj (jm X.prog X.w) A (jQ .NotIn u (.ref a)) Q E s:=by
 rcases g with ⟨t,k,e,x,l⟩|⟨t,k,b,e,x,J,l⟩
 .subst x;obtain⟨z,hd,L,n,dd⟩:=IS I.hok e;refine wpAny_notIn_of (IW B) hd dd.mapOf ?_;rw[← (n.val k).isSome_eq,←l];exact h _ (I.tok _)
 .subst x;cases (show u=aE b from B)
  obtain⟨z,hd,M,n,dd⟩:=Ht I.hok e;refine wpAny_notIn_heap (lB G) (GD I.hok J) hd dd ?_;have q:=(n.val k).isSome_eq;rw[eB]at q;rw[←q,←l];exact h _ (I.tok _)
theorem GY{h':Heap}{t':Nat}{l:HO}(I:Inv X nA σ H s) (mu:Ym (H a)) (n:fg a s.heap h') (t:∃q,h'.get? a=some q) (new:qT X.prog X.w (qG H a l) h' a l) :
  Inv X nA σ (qG H a l) { s with heap:=h',toks:=t' } :=
 I.write (x:=a) (e:=a) mu (.inl rfl) (λb q B z=>(n.2 b B).trans z) t new
theorem Ge{P:jo}{w:jt}{n:Hp}{h':Heap}{kvs:List (oq×V)}{vs:List (oq×Value)}(z:kvs.length<=jn) (hd:(a == ke)=false) (l:KV kvs vs) (dd:h'.DictOf (qH P w) a vs) :
  qT P w n h' a (.dK kvs):=⟨z,hd,vs,l,dd⟩
theorem Mn{M:Hp}{Q:Unit->Shared->Prop}(hu:A.units+1<jD) (I:Inv X nA σ H s) (g:QE H a y v M) (O:qc y u) (P:qc v r) (h:∀R,Inv X nA σ M R->Q () R) :
  jj (jm X.prog X.w) A (setItem (.ref a) u r) Q E s:=by
 rcases g with ⟨n,k,e,C,l,G⟩|⟨n,k,b,e,C,S,l,G⟩
 .subst C G;obtain⟨z,hd,vs,t,dd⟩:=UM I.hok e;have J:vs.length<=jn:=by rw[←t.length];exact z
  have hl:(xn n k v).length<=jn:=by have:=xr n k v;lia
  refine wpAny_setItem_pairs (hsz:=J) (IW O) dd λU x L=>h _ ?_
  have he:∃q,U.get? a=some q:=let ⟨q,_,_,B,_⟩:=x;⟨q,B⟩
  exact GY I (by rw[e];exact True.intro) L he (Ge hl hd (t.put k P) x)
 .subst C G;cases (show u=aE b from O)
  obtain⟨z,hd,xs,t,dd⟩:=Xt I.hok e;have J:xs.length<=jn:=by rw[←Paired.length t];exact z
  have hl:(xn n k v).length<=jn:=by have:=xr n k v;lia
  refine wpAny_setItem_heap (hsz:=J) (lB hu) (GD I.hok S) dd λU x L=>h _ ?_
  obtain⟨q,es,ep,B,h2,h3,h4,_,h5⟩:=x;refine GY I (by rw[e];exact True.intro) L ⟨q,B⟩ ⟨hl,hd,_,(t.put k S P).keeps λc ys Y=>?_,q,es,ep,B,h2,h3,h4,h5⟩
  rw[oz (Xx Y e (λz=>nomatch z))]
  exact Y
end
def W5(i:Expr):Prop:=∀l n,lZ i false l n=operate [l,n] (mz l n)
theorem Tn{prog:jo}{w:jt}{A:Around}{E:Value->Shared->Prop}{s:Shared}{env:Env}{n l:Expr}{pos:Pos}{T id:String}{Q:Value->Shared->Prop}
  (hl:jZ (.type T) "__getitem__" = pure (some (.builtin id))) (I:W5 l)
  (h:jj (jm prog w) A (eval n env) (λo y=>jj (jm prog w) A (eval l env) (λi t=>t.TypeIs o T/\jj (jm prog w) A (mz o i) Q E t) E y) E s) :
  jj (jm prog w) A (eval (.Subscript n l pos) env) Q E s:=by
 refine Subscript_ (jF h (λo y C=>jF C (λi t u=>?_) λ_ _ x=>x) λ_ _ x=>x)
 obtain⟨H,u⟩:=u;unfold mN;refine ji ?_;rw[getitemInPython_of_ne H.not_modules];refine ji (lS H hl ?_);have B:jj (jm prog w) A (lZ l false o i) (λr z=>jj (jm prog w) A (letTemporaryGo n o r >>= λ_=>pure r) Q E z) E t:=by
  rw[I o i];exact wpAny_operating (jF u (λr z G=>ji (wpAny_letTemporaryGo (jk G))) λ_ _ x=>x)
 first
  |exact jk (ji B)
  |exact ji (jk (ji B))
  |exact ji B
theorem Ii{X:Cx}{n:List (Addr×Obj)}{σ:St}{H:Hp}{s:Shared}{a:Addr}{y:V}{o:Option V}(I:Inv X n σ H s) (g:Dz H a y o):s.TypeIs (.ref a) "dict" := by
 rcases g with ⟨l,k,e,_,_⟩|⟨l,k,b,e,_,_,_⟩
 .obtain ⟨_,_,r,_,dd⟩:=IS I.hok e;exact dd.typeIs
 .obtain ⟨_,_,t,_,dd⟩:=Ht I.hok e;exact dd.typeIs
noncomputable def OU(n ty:TE):TE:=λσ H Q=>n σ H λx r=>ty σ r λy l=>∃a v,x = .ref a/\Dz l a y (some v)/\Q v l
noncomputable def Lg(ty n:TE):TE:=λσ H Q=>ty σ H λy r=>n σ r λx l=>∃a o,x = .ref a/\Dz l a y o/\Q (.bl (!o.isSome)) l
def UH(n ty r:TE):TS:=λD σ H=>r σ H λv s=>n σ s λx t=>ty σ t λy u=>∃a l,x = .ref a/\QE u a y v l/\D.nx σ l
section
variable {X:Cx}{o i e value:Expr}{pos pos' tpos:Pos}{td ty tv:TE}
theorem qD(r:X.A.units+1<jD) (t:PE X o td) (z:PE X i ty) (B:W5 i):PE X (.Subscript o i pos) (OU td ty):=by
 intro l s σ H Q I h;refine Tn PySem.F.slot_dict_getitem.lookup B (sv (t l s σ H _ I h) λu C ⟨x,E,G,J,L⟩=>sv (z l C σ E _ G L) λS U ⟨y,M,n,O,a,v,ex,g,P⟩=>?_)
 subst ex;obtain rfl:u=aE a:=J;exact⟨Ii n g,M7 r n g O λY s3 R Az=>⟨v,M,R,Az,P⟩⟩
theorem uB(n:X.A.units+1<jD) (r:PE X i ty) (t:PE X o td):PC X .NotIn i o (Lg ty td):=by
 intro l s σ H Q I h;refine sv (r l s σ H _ I h) λS z ⟨y,B,C,E,G⟩=>sv (t l z σ B _ C G) λu U ⟨x,J,L,M,a,O,ex,g,P⟩=>?_
 subst ex;obtain rfl:u=aE a:=M;exact SB n L g E λY R=>⟨.bl (!O.isSome),J,R,rfl,P⟩
theorem sy(n:X.A.units+1<jD) (t:PE X o td) (z:PE X i ty) (B:PE X value tv) (C:mR value (some (.Subscript o i pos')) pos.line X.env=pure false) :
  PS X (.Assign [.Subscript o i pos'] value pos) (UH td ty tv):=by
 intro l s σ H D I h;refine wpAny_Assign_Subscript (sv (B l s σ H _ I h) λr E ⟨v,G,J,L,M⟩=>sv (t l E σ G _ J M) λu O ⟨x,P,Q,R,S⟩=>sv (z l O σ P _ Q S) λiv s3 ⟨y,H3,U,Y,a,H4,ex,g,q3⟩=>?_) C
 subst ex;obtain rfl:u=aE a:=R;exact Mn n U g Y L λs4 I4=>⟨σ,H4,I4,q3⟩
end
theorem IY{P:jo}{w:jt}{H:Hp}(h:Heap) (l:ke<h.objs.size):qT P w H (h.push { cls:=.type "dict", data:=.dict #[] }) h.objs.size (.dK []) :=
 ⟨ba _,beq_eq_false_iff_ne.mpr (Ne.symm (aq l)),[],.nil,iA.new h⟩
def PV:TE:=λ_ H Q=>∀p,H p=none->Q (.ref p) (qG H p (.dK []))
section
variable {X:Cx}{pos:Pos}
theorem tO:PE X (.Dict [] [] pos) PV:=λl s σ H Q I h =>
 wpAny_Dict_empty ⟨.ref s.heap.objs.size,_,I.laid (a:=s.heap.objs.size) (o:=.dK []) (t':=s.toks) (λ_ _ q=>aj _ q) (ai _) (IY s.heap I.big),rfl,h _ (I.hok.fresh (ai _))⟩
end
def JL:List (TE×TE)->St->Hp->(List (V×V)->Hp->Prop)->Prop
 | [],_,H,Q=>Q [] H
 | (l,n)::r,σ,H,Q=>l σ H λx s=>n σ s λy t=>JL r σ t λps u=>Q ((x,y)::ps) u
abbrev VV:List (V×V)->List (Value×Value)->Prop:=Paired λp q=>qc p.1 q.1/\qc p.2 q.2
def YD(X:Cx) (pos:Pos) (n:List (Option Expr)) (l:List Expr) (r:List (TE×TE)):Prop :=
 ∀(t:List (Addr×Obj)) (s:Shared) (σ:St) (H:Hp) (Q:List (V×V)->Hp->Prop),Inv X t σ H s->JL r σ H Q ->
  jj (jm X.prog X.w) X.A (evalPairs (pairTrees n l X.env pos)) (λvs x=>∃ps u,Inv X t σ u x/\VV ps vs/\Q ps u) X.xe s
theorem La{X:Cx}{pos:Pos}:YD X pos [] [] []:=λl s σ H Q I h=>pairTrees_nil_walk ⟨[],H,I,.nil,h⟩
theorem HU{X:Cx}{pos:Pos}{k v:Expr}{ks:List (Option Expr)}{vs:List Expr}{t z:TE}{l:List (TE×TE)}(B:PE X k t) (C:PE X v z) (hr:YD X pos ks vs l) :
  YD X pos (some k::ks) (v::vs) ((t,z)::l):=λn s σ H Q I h =>
 pairTrees_cons_walk (sv (B n s σ H _ I h) λu E ⟨x,G,J,L,M⟩=>sv (C n E σ G _ J M) λw2 O ⟨y,P,R,S,U⟩ =>
  sv (hr n O σ P _ R U) λws s3 ⟨Y,H3,I3,r,q3⟩=>⟨(x,y)::Y,H3,I3,.cons ⟨L,S⟩ r,q3⟩)
def Ck(kvs more:List (oq×V)):List (oq×V):=more.foldl (λl kv=>xn l kv.1 kv.2) kvs
theorem KV.merge:∀{more:List (oq×V)}{rs:List (oq×Value)}{kvs:List (oq×V)}{vs:List (oq×Value)},KV more rs->KV kvs vs->KV (Ck kvs more) (merged vs rs):=by
 intro more rs kvs vs r;unfold KV at r
 induction r generalizing kvs vs with
 |nil=>intro q;exact q
 | @cons p q s u h t l =>
  intro n;have e:KV (xn kvs p.1 p.2) (lg vs q.1 q.2):=by
   have:=n.put p.1 h.2;rw[←h.1];exact this
  exact l e
theorem AA:∀(more kvs:List (oq×V)),(Ck kvs more).length<=kvs.length+more.length
 | [],kvs=>by show kvs.length<=kvs.length+0;lia
 |p::r,kvs=>by
  have h1:=AA r (xn kvs p.1 p.2);have h2:=xr kvs p.1 p.2;show (Ck (xn kvs p.1 p.2) r).length<=_;rw[lCq];lia
theorem DA{P:jo}{w:jt}:∀{kvs:List (oq×V)}{ws:List (Value×Value)},VV (kvs.map λkv=>(kV kv.1,kv.2)) ws->∃rs,Carries (qH P w) ws rs/\KV kvs rs
 | [],_,r=>by rw[fN]at r;cases r;exact⟨[],True.intro,.nil⟩
 |p::kvs,_,r=>by
  rw[ax]at r;cases r with
  | @cons a b l bs h t =>
   obtain⟨rs,c,q⟩:=DA (P:=P) (w:=w) t;obtain⟨b1,b2⟩:=b;exact⟨(p.1,b2)::rs,⟨IW h.1,rfl,c⟩,.cons ⟨rfl,h.2⟩ q⟩
def UB(l:List (TE×TE)):TE:=λσ H Q=>∀p,H p=none->JL l σ (qG H p (.dK [])) λps n=>n p=some (.dK [])/\∃kvs:List (oq×V),ps=kvs.map (λkv=>(kV kv.1,kv.2))/\kvs.length<=15/\Q (.ref p) (qG n p (.dK (Ck [] kvs)))
theorem L3{X:Cx}{pos:Pos}{l:List (Option Expr)}{n:List Expr}{r:List (TE×TE)}(h:YD X pos l n r) (t:l.all (·.isSome)=true) (hl:l.length=n.length) (h0:l≠[])
  (y:l.length<=15):PE X (.Dict l n pos) (UB r):=by
 intro E s σ H Q I q;have hn:=I.hok.fresh (ai s.heap.objs.size);have G:=I.laid (a:=s.heap.objs.size) (o:=.dK []) (h':=s.heap.push { cls:=.type "dict", data:=.dict #[] }) (t':=s.toks) (λ_ _ q=>aj _ q) (ai _) (IY s.heap I.big)
 refine wpAny_Dict_walk (knd:=qH X.prog X.w) t hl h0 y (sv (h E _ σ _ _ G (q _ hn)) λws s2 ⟨ps,H2,C,B,e,u,J,lk,L⟩=>?_)
 subst J;obtain⟨M,c,O⟩:=DA (P:=X.prog) (w:=X.w) B;obtain⟨z,hd,R,S,dd⟩:=UM C.hok e;cases S;refine⟨M,c,dd,λU x Y=>⟨.ref s.heap.objs.size,_,?_,rfl,L⟩⟩
 have hz:(Ck [] u).length<=jn:=by
  have h1:=AA u [];rw[cg]at h1;rw[jy];lia
 have he:∃q,U.get? s.heap.objs.size=some q:=let ⟨q,_,_,hq,_⟩:=x;⟨q,hq⟩
 exact GY C (by rw[e];exact True.intro) Y he (Ge hz hd (O.merge .nil) x)
def IsD(H:Hp) (a:Addr):Prop:=(∃kvs,Rd H a (.dK kvs))∨∃kvs,Rd H a (.dT kvs)
theorem Vv{X:Cx}{r:List (Addr×Obj)}{σ:St}{H:Hp}{s:Shared}{a:Addr}(I:Inv X r σ H s) (d:IsD H a) :
  s.TypeIs (.ref a) "dict" /\ (∀b,aE a = .ref b->∃l,s.heap.get? b=some l/\l.dict=none)/\(a == ke)=false:=by
 rcases d with ⟨n,e⟩|⟨n,e⟩
 .obtain ⟨_,hd,t,_,dd⟩:=IS I.hok e;refine⟨dd.typeIs,λb q=>?_,hd⟩
  cases q;obtain⟨l,_,_,h1,h2,_⟩:=dd;exact⟨l,h1,h2.2.1⟩
 .obtain ⟨_,hd,u,_,dd⟩:=Ht I.hok e;refine⟨dd.typeIs,λb q=>?_,hd⟩
  cases q;obtain⟨l,_,_,h1,h2,_⟩:=dd;exact⟨l,h1,h2.2.1⟩
end L2
namespace Att
open PySem PySem.W PySem.Calls PyProof.Rows
theorem CU{P:Params}{h:Heap}:∀(ns:List Int) (vs:List Value),WellAll P h vs (ns.map WData.int)->jB vs ns:=by
 intro ns
 induction ns with
 |nil =>
  intro vs w;rw[fN]at w;cases w;exact .nil
 |cons n ns l =>
  intro vs w;rw[ax]at w;cases w with
  |cons a b =>
   cases a;exact .cons _ _ (l _ b)
theorem N7{l:OpenLaw}{n:Nat}(hn:l.most=some n) {P:Params}{h:Heap}{args:List WData}{s:List Value}
  (t:l.row.toRowW.claim.pre args=true) (B:WellAll P h s args) :
  ∃a vs ns,s=[aE a]/\args=[WData.list (ns.map WData.int)]/\h.get? a=some { cls:=.type "list", data:=.seq vs.toArray }/\jB vs ns/\ns.length<=n:=by
 have C:WShape.hasAll [] args [.list .int]=true:=(pre_splitW t).1;have E:l.pre.holds [] { args:=args }=true:=(pre_splitW t).2;obtain⟨d,r,rfl,h1,h2⟩:=hasAllW_cons C;obtain rfl:=hasAllW_nil h2;obtain⟨M,rfl,G⟩:=hasW_list h1;obtain⟨ns,rfl⟩:=items_int G;have u:ns.length<=n:=by
  unfold OpenLaw.pre at E;have y:(WTm.not (.lt (.lit (.int (n:Int))) (.len (.arg 0)))).holds [] { args:=[.list (ns.map .int)] }=true:=by
   have y:=(holds_andW E).1;rw[hn]at y;exact y
  have z:=condW_of y (w_not (w_lt w_lit (w_len_list (w_arg rfl))));rw[lMq]at z;refine gq λq=>?_
  have H:(n:Int)<((ns.length:Nat):Int):=by lia
  first
   | (rw[decide_eq_true H]at z;exact absurd z (by decide))
   | (simp at z;lia)
 cases B with
 |cons I J =>
  cases J;cases I with
  |list L x=>exact⟨_,_,ns,rfl,rfl,L,CU ns _ x,u⟩
theorem Mm(l:OpenLaw) (args:List WData):l.row.toRowW.claim.post args (.bool true) args=true :=
 postW_of (r:=l.row.toRowW) (X:=(true == true))
  (show WShape.has [] (.bool true) .bool=true by first|rfl|decide|simp[WShape.has,WShape.arms,WShape.armsAll])
  (show (WTm.eq .res (.lit (.bool true))).value [] { args:=args,res:=some (.bool true),after:=args }=some (.bool (true == true)) from w_eq_bool (w_res rfl) w_lit) rfl
theorem Hy{l:OpenLaw}{n:Nat}{q:jo}{loose:List Str}{O:(Str->Option Value)->Heap->Prop}{P:jt->Heap->Prop}{d:DefRec}
  (hn:l.most=some n) (H:d.params.defaults=[])
  (call:∀(w:jt) (s₀ s:Shared) (mg I:Str->Option Value) (x:Addr) (o:Obj) (pm C t:Value) (a:Addr) (vs:List Value) (ns:List Int),
   Ground q loose [] O w s₀ mg I s.heap->P w s.heap ->
   s.heap.get? x=some o->o.data = .func (docDef d.name d.params d.body d.scope pm C t)->s.heap.CodeRec C d.name->mg d.name=some (.ref x) ->
   s.heap.get? a=some { cls:=.type "list", data:=.seq vs.toArray }->jB vs ns->ns.length<=n->s.gens=#[] ->
   kr (jm l.prog w) lJ (.call (.ref x) ⟨[.ref a],[]⟩) (λr E=>r = .ok (.ret (.bool true))/\OldK s.heap E.heap/\E.os=s.os/\kS E.gens) s) :
  WalkO q loose O P l.row.toRowW d [] (λf vs=>PySem.call f vs):=by
 intro w s₀ s mg I G Y x o pm C t X kV ho hd J Q L hg R S as y U hrd M hlo;obtain rfl:X = .none:=Dflts.none Q H;obtain rfl:kV = .none:=Dflts.noKw Q;obtain⟨a,vs,ns,rfl,rfl,z,u,B⟩:=N7 hn y M;refine enter_call (mQ (call w s₀ s mg I x o pm C t a vs ns G Y ho (fd_plain hd) J L z u B hg) λr E hq=>?_)
 obtain⟨rfl,h2,h3,h4⟩:=hq;exact⟨.inl ⟨.bool true,.bool true,[],rfl,λ_=>rfl,.bool true,Mm l _,λ_=>⟨bj.nil,λ_ hm=>(nomatch hm)⟩⟩,h2,h3,h4⟩
end Att
namespace L2
open PySem PySem.Spec PyProof.Rows
theorem vals_ints:∀{vs:List Value}{ns:List Int},jB vs ns->oV (ns.map V.int) vs
 |_,_,.nil=>.nil
 |_,_,.cons n t h=>.cons ⟨t,rfl⟩ (vals_ints h)
def Vp(H:Hp):Prop:=∀b,H b=none∨∃o xs,H b=some (.frz o (.lst xs))
theorem On{P:jo}{w:jt}{K:W.Frag}{mg X:Str->Option Value}{CX:QF}{k:Nat}{Y a:Addr}{fd:jK}{x:Str}{sp:Sp}{l:Shared}{vs:List Value}{ns:List Int}
  (KX:K.In l.heap) (I:l.heap.Ns jr mg) (y:l.heap.Ns builtinsNs X) (hbb:∀x:Str,x ≠ "__name__" -> X x=kA x) (J:l.heap.NoLimit) (hg:l.gens=#[])
  (U:l.heap.get? a=some { cls:=.type "list", data:=.seq vs.toArray }) (hi:jB vs ns) (hl:ns.length<=jn) (hr:xI k lJ)
  (F:∀base:Heap,K.In base->base.Ns jr mg->CQ P w K mg base CX k Y fd [x] sp) (G:∀(s:Shared) (u:Value),mC s fd ⟨[u],[]⟩ [(x,u)])
  (hsp:∀H:Hp,Vp H->qV K H a (ns.map V.int)->sp [.ref a] H (λv _=>v = .bl true) λ_ _ _=>False)
  (hCX:∀H e B,CX [] H l (λ_ _ _=>False) e B->False) :
  kr (jm P w) lJ (.call (.ref Y) ⟨[.ref a],[]⟩) (λr B=>r = .ok (.ret (.bool true))/\OldK l.heap B.heap/\B.os=l.os/\kS B.gens) l:=by
 have rv:=vals_ints hi;have L:=hi.length;have E:∀H:Hp,Vp H->qV K H a (ns.map V.int)->Be P w H l.heap->(∀b,H b≠none->b=a)->(H a≠none->K.lookup a=none) ->
   kr (jm P w) lJ (.call (.ref Y) ⟨[.ref a],[]⟩) (λr B=>r = .ok (.ret (.bool true))/\OldK l.heap B.heap/\B.os=l.os/\kS B.gens) l:=by
  intro H hO hS hok hA hK;have t:∀{b:Addr}{o:Obj},l.heap.get? b=some o->H b=none->(GJ l.heap H).get? b=some o:=λe n=>QS e n
  have noA:∀{b:Addr}{o:Obj}{M:Array DictEntry}{O:Nat},l.heap.get? b=some o->o.data = .dict M O->H b=none:=λ{b o M O} e d=>by
   cases q:H b with
   |none=>rfl
   |some u =>
    have e':b=a:=hA b (by rw[q];simp)
    subst e';rw[U]at e;cases e;have d':Data.seq vs.toArray _=Data.dict M O:=d;cases d'
  have C:∀{b:Addr}{m:Str->Option Value},l.heap.Ns b m->(GJ l.heap H).Ns b m:=λ{b m} ⟨o,M,O,e,d,r⟩=>⟨o,M,O,t e (noA e d),d,r⟩
  have Q:K.In (GJ l.heap H):=λb o e=>t (KX b o e) (by
   cases q:H b with
   |none=>rfl
   |some u =>
    have e':b=a:=hA b (by rw[q];simp)
    subst e';rw[hK (by rw[q];simp)]at e;cases e)
  have hM:Mod K mg (GJ l.heap H):=⟨Q,C I,⟨X,C y,hbb⟩,let ⟨mc,h1,h2⟩:=J;⟨mc,C h1,h2⟩⟩
  have e0:SI P w K mg (GJ l.heap H) lJ [] l H:=⟨rfl,hM,λb o e=>SG e,fh (MC _ _),trivial,λb y=>absurd (show b∈([]:List Addr) from y) (by simp),hok,.of_eq hg⟩
  refine mQ ((F _ Q (C I)).run lJ [] l H ⟨[.ref a],[]⟩ [.ref a] [.ref a] _ _ hr e0 (G l (.ref a)) (.cons rfl .nil) (hsp H hO hS)) λr B h=>?_
  cases r with
  |error e=>exact(hCX H e B h).elim
  |ok fl =>
   cases fl with
   |next=>exact False.elim h
   |brk=>exact False.elim h
   |cont=>exact False.elim h
   |ret u =>
    obtain⟨v,H',os,bare,un,R,r',q⟩:=h;have q':v = .bl true:=q;subst q';obtain rfl:u=dQ true:=r';refine⟨rfl,OldK.of_keep λb o e=>?_,os,bare⟩
    cases q:H b with
    |none=>exact un.keep b o e q (by intro z;exact absurd (show b∈([]:List Addr) from z) (by simp)) (by simp)
    |some u =>
     rcases hO b with z|⟨ob,xs,z⟩
     .rw [q]at z;cases z
     .have z2:=un.frzs b ob _ z;obtain⟨e1,_⟩:=hok b _ z;obtain⟨e2,_⟩:=R b _ z2;rw[e]at e1;cases e1;exact e2
 cases hk:K.lookup a with
 |some o =>
  have e:=KX a o hk;rw[U]at e;cases e;refine E (λ_=>none) (λ_=>.inl rfl) (.inr ⟨_,vs.toArray,_,hk,rfl,rfl,rfl,by rw[aA,L];exact hl,by simpa using rv⟩) (λb u z=>by have S:(none:Option HO)=some u:=z;cases S) (λb z=>absurd rfl z) λz=>absurd rfl z
 |none =>
  refine E (λb=>if b=a then some (.frz { cls:=.type "list", data:=.seq vs.toArray } (.lst (ns.map V.int))) else none) (λb=>?_) (.inl (.inr ⟨{ cls:=.type "list", data:=.seq vs.toArray },pQ rfl⟩)) (λb u z=>?_) (λb z=>?_) λ_=>hk
  .by_cases y:b=a
   .exact .inr ⟨_,_,pQ y⟩
   .exact .inl (qk y)
  .by_cases y:b=a
   .have S:=(pQ y).symm.trans z;cases S;subst y;exact⟨U,by rw[lMq];exact hl,vs,_,rv,U⟩
   .have S:=(qk y).symm.trans z;cases S
  .by_cases y:b=a
   .exact y
   .exact absurd (qk y) z
theorem RO{l:W.OpenLaw}{n k:Nat}{q:jo}{loose:List Str}{Q:(Str->Option Value)->Heap->Prop}{O:jt->Heap->Prop}{d:DefRec}{K:Params->W.Frag}{CX:jt->QF}{sp:jt->Sp}{x:Str}
  (hn:l.most=some n) (C:n<=jn) (E:d.params.defaults=[]) (hr:xI k lJ)
  (R:∀(w:jt) (h:Heap),O w h->(K w.params).In h)
  (F:∀(w:jt) (mg:Str->Option Value) (B:Addr) (h:Heap),(K w.params).In h->h.Ns jr mg->mg d.name=some (.ref B) ->
   ∃fd:jK,(∀(s:Shared) (u:Value),mC s fd ⟨[u],[]⟩ [(x,u)]) /\
    ∀base:Heap,(K w.params).In base->base.Ns jr mg->CQ l.prog w (K w.params) mg base (CX w) k B fd [x] (sp w))
  (I:∀(w:jt) (H:Hp) (a:Addr) (ns:List Int),ns.length<=n->Vp H->qV (K w.params) H a (ns.map V.int)->sp w [.ref a] H (λv _=>v = .bl true) λ_ _ _=>False)
  (J:∀(w:jt) (H:Hp) (s:Shared) (e:Value) (L:Shared),CX w [] H s (λ_ _ _=>False) e L->False) :
  W.WalkO q loose Q O l.row.toRowW d [] (λf vs=>PySem.call f vs):=by
 refine Att.Hy hn E λw s₀ y mg mb B o pm cd S a vs ns G Y ho hd U M z t r X=>?_
 have P:=R w _ Y;obtain⟨fd,hb,hF⟩:=F w mg B _ P G.T.g M;exact On P G.T.g G.T.b G.T.builtins G.T.nolimit X z t (bw r C) hr hF hb (λH hO hS=>I w H a ns r hO hS) λH e L=>J w H y e L
noncomputable def wc(s:Stmt):Arguments:=match s with
 | .FunctionDef _ a _ _ _ _ _ _ _ _=>a
 |_=>{ posonlyargs:=[],args:=[],vararg:=none,kwonlyargs:=[],kw_defaults:=[],kwarg:=none,defaults:=[] }
noncomputable def vz(s:Stmt):List Stmt:=match s with
 | .FunctionDef _ _ b _ _ _ _ _ _ _=>b
 |_=>[]
noncomputable def nZ(s:Stmt):kF:=match s with
 | .FunctionDef _ _ _ _ _ _ l _ _ _=>l
 |_=>{ kind:=.function,names:=[],isGenerator:=false,isCoroutine:=false }
abbrev VH:QF:=λ_ _ _ _ _ _=>False
abbrev E0:XK:=λ_ _ _=>False
theorem Xb{X:Cx}:J4 VH X E0:=λ_ _ _ _ _ _ _ h=>h.elim
structure Up (K:W.Frag) (x qual:Str) (st:Stmt) (f:Addr) (fd:jK):Prop where
 ex:∃(oc:Value) (od:Option Addr) (kV doc pm:Value) (an:Option Addr) (tR ct:Value) (osl:Array (Option Value)),
  fd=W.fnOf x qual (wc st) (vz st) (nZ st) .none kV doc pm an tR ct/\K.lookup f=some ⟨oc,od,.func fd,osl⟩/\W.codeIn K tR qual=true
 kp:W.keepIn K (.ref f)=true
section
variable {P:jo}{w:jt}{K:W.Frag}{mg:Str->Option Value}{base:Heap}
theorem Up.ok{x l:Str}{st:Stmt}{f:Addr}{fd:jK}{N ps:List Str}{k:Nat}{sp:Sp}(F:Up K x l st f fd) (S:oA N ps (nZ st)) (len:∀vs H Q E,sp vs H Q E->vs.length=ps.length)
  (n:∀(r:Value) (A:Around) (outer:List Env) (s:Shared) (H:Hp) (vs:List V) (Q:VK) (E:XK),xI k (A.deeper (lC l (nZ st) s.heap.objs.size f r))->sp vs H Q E ->
   ∃t,NC (Mj VH P w K mg base N l (nZ st) f r A outer s H E).nox (vz st) t/\t { nx:=λ_ z=>Q .non z,rt:=Q } (zj N vs) H):CQ P w K mg base VH (k+1) f fd ps sp:=by
 obtain⟨G,I,kV,B,pm,J,r,ct,C,rfl,lk,u⟩:=F.ex;refine Xy lk u S len λA outer s H vs Q E hr y=>?_
 obtain⟨t,h,q⟩:=n r A outer s H vs Q E hr y;exact⟨t,h.nox,q⟩
theorem Up.binds{x l:Str}{st:Stmt}{f:Addr}{fd:jK}{ps:List Str}(F:Up K x l st f fd)
  (h:∀(kV n pm:Value) (r:Option Addr) (s ct:Value) (us:List Value),us.length=ps.length->bindArgs (W.fnOf x l (wc st) (vz st) (nZ st) .none kV n pm r s ct) ⟨us,[]⟩=pure (ps.zip us)):AI K fd ps []:=by
 obtain⟨y,z,kV,n,pm,r,s,ct,t,rfl,lk,u⟩:=F.ex;exact .all (h kV n pm r s ct)
theorem JZ{x n:Str}{st:Stmt}{f:Addr}{y:Value}{z u:Option Addr}{s:Array (Option Value)}{kV r pm t ct:Value}(l:K.lookup f=some ⟨y,z,.func (W.fnOf x n (wc st) (vz st) (nZ st) .none kV r pm u t ct),s⟩)
  (c:W.codeIn K t n=true) (k:W.keepIn K (.ref f)=true):Up K x n st f (W.fnOf x n (wc st) (vz st) (nZ st) .none kV r pm u t ct):=⟨⟨y,z,kV,r,pm,u,t,ct,s,rfl,l,c⟩,k⟩
end
theorem pO{A:Around}{k:Nat}(hr:xI k A):A.units+1<jD:=Nat.lt_of_le_of_lt (Nat.add_le_add_left (by decide:1<=64) _) hr.units
section
variable {X:Cx}
theorem pv(i:Nat) {x:Str}{pos:Pos}(n:X.N[i]?=some x:=by rfl) (r:Yn X.env.scope x:=by trivial) (hd:(x == ("__debug__" : Str))=false:=by decide)
  (l:(x == ("__classdict__" : Str))=false:=by decide):PE X (.Name x pos) (zo i):=Vu n r hd l
end
theorem Ip{A B:Prop}(h:B):if false=true then A else B:=by
 rw[qk aW];exact h
theorem Iy{A B:Prop}(h:A):if true=true then A else B:=by
 rw[pQ rfl];exact h
def pJ(H l:Hp):Prop:=∀b o,H b=some o->l b=some o
theorem pJ.refl(H:Hp):pJ H H:=λ_ _ h=>h
theorem pJ.trans{H l n:Hp}(a:pJ H l) (b:pJ l n):pJ H n:=λc o h=>b c o (a c o h)
theorem pJ.free{H n:Hp}(e:pJ H n) {l:Addr}(h:n l=jd):H l=jd:=by
 cases q:H l with
 |none=>rfl
 |some o =>
  rw[e l o q]at h;cases h
theorem pJ.seq{K:W.Frag}{H l:Hp}{a:Addr}{xs:List V}(e:pJ H l) (h:qV K H a xs):qV K l a xs:=by
 rcases h with (h|⟨o,h⟩)|h
 .exact .inl (.inl (e _ _ h))
 .exact .inl (.inr ⟨o,e _ _ h⟩)
 .exact .inr h
end L2
namespace Mr
def cell(ns:List Int) (k:Nat):Int:=ns.getD k 0
def qd(ns:List Int):Nat->Nat
 |0=>0
 |k+1=>if ns.getD k 0<ns.getD (qd ns k) 0 then k else qd ns k
noncomputable def rot(ns:List Int) (i:Nat):List Int:=ns.drop i++ns.take i
def good(ns:List Int):List Int:=rot ns (qd ns ns.length)
theorem wq(ns:List Int):∀n,(0<n->qd ns n<n)/\(∀j,j<n->ns.getD (qd ns n) 0<=ns.getD j 0)/\(∀j,j<qd ns n->ns.getD (qd ns n) 0<ns.getD j 0)
 |0=>⟨λh=>absurd h (bV _),λj h=>absurd h (bK _),λj h=>absurd h (bK _)⟩
 |n+1=>by
  obtain⟨h1,h2,r⟩:=wq ns n;simp only[qd]
  by_cases c:ns.getD n 0<ns.getD (qd ns n) 0
  .rw [pQ c];refine⟨λ_=>fA n,λj l=>?_,λj l=>?_⟩
   .rcases ia (ip l) with q|q
    .have:=h2 j q;lia
    .subst q;exact fB _
   .have:=h2 j l;lia
  .rw [qk c];refine⟨λ_=>?_,λj l=>?_,r⟩
   .by_cases hn:0<n
    .exact bX (h1 hn)
    .have:n=0:=by lia
     subst this;exact fA 0
   .rcases ia (ip l) with q|q
    .exact h2 j q
    .subst q;lia
theorem D8(ns:List Int):qd ns ns.length<=ns.length:=by
 by_cases h:0<ns.length
 .exact bZ ((wq ns ns.length).1 h)
 .have:ns.length=0:=by lia
  rw[this];exact ai 0
theorem xB{ns:List Int}{j:Nat}(h:j<ns.length):ns.getD j 0=ns[j]:=by
 rw[gDq,gEg h];rfl
theorem zA{ns:List Int}{M:Int}(n:M∈ns) (hl:∀a,a∈ns->M<=a):ns.idxOf M=qd ns ns.length:=by
 have h0:0<ns.length:=bH n;obtain⟨h1,h2,s⟩:=wq ns ns.length;have h1:=h1 h0;have l:ns.idxOf M<ns.length:=dN.mpr n;have e:ns.getD (ns.idxOf M) 0=M:=by rw[xB l];exact fY l
 have r:ns.getD (qd ns ns.length) 0=M:=by
  have t:=h2 _ l;rw[e]at t;have u:=hl _ (by rw[xB h1];exact gRq h1:ns.getD (qd ns ns.length) 0∈ns)
  lia
 rcases iq (ns.idxOf M) (qd ns ns.length) with q|q|q
 .have:=s _ q;lia
 .exact q
 .exfalso;have:=List.not_of_lt_findIdx (p:=(· == M)) (xs:=ns) (i:=qd ns ns.length) (by simpa [List.idxOf] using q)
  rw[xB h1]at r;simp[r]at this
theorem QQ:good []=[]:=rfl
theorem JY(ns:List Int) (i:Nat):(rot ns i).length=ns.length:=by
 unfold rot;rw[lAq,aO,lTq];lia
theorem Iv(ns:List Int):(good ns).length=ns.length:=JY _ _
def step(ns:List Int):Int:=if 0<cell ns 0 % 3 then cell ns 0 % 10 ^ 40+1 else 1
theorem A9{A B:List Int}{m:Int}(h:∀x,x∈A->m<x) (h2:∀x,x∈B->m<=x):good (A++m::B)=m::B++A:=by
 have l:m∈A++m::B:=by simp
 have hl:∀a,a∈A++m::B->m<=a:=λa n=>by
  rcases mAq.mp n with q|q
  .exact fO (h a q)
  .rcases ar.mp q with rfl|q
   .exact fB _
   .exact h2 a q
 have e:=zA l hl;have r:(A++m::B).idxOf m=A.length:=by
  rw[ir,qk (λq=>absurd (h m q) (Int.lt_irrefl m)),eI,bh]
 unfold good rot;rw[←e,r,fW,fq]
theorem Hn{t:List Int}(h0:t≠[]) (hn:t.Nodup):∃A m B,t=A++m::B/\(∀x,x∈A->m<x)/\∀x,x∈B->m<x:=by
 have hl:0<t.length:=eU.mpr h0;obtain⟨h1,h2,n⟩:=wq t t.length;have h1:=h1 hl;refine⟨t.take (qd t t.length),t[qd t t.length],t.drop (qd t t.length+1),?_,?_,?_⟩
 .rw [←aX h1,bq]
 .intro x l;obtain⟨j,r,rfl⟩:=List.mem_take_iff_getElem.mp l;have:=n j (by lia)
  rw[xB h1,xB (by lia)]at this
  exact this
 .intro x l;obtain⟨j,r,rfl⟩:=List.mem_drop_iff_getElem.mp l;have a:=h2 (qd t t.length+1+j) (by lia)
  rw[xB h1,xB (by lia)]at a
  have ne:t[qd t t.length]≠t[qd t t.length+1+j]:=eV.mp hn _ _ h1 (by lia) (by lia)
  lia
theorem Dy{t:List Int}(hn:t.Nodup) (i:Nat):good (rot t i)=good t:=by
 by_cases h0:t=[]
 .subst h0;simp[rot]
 .obtain ⟨A,m,B,rfl,h1,h2⟩:=Hn h0 hn;rw[A9 h1 (λx q=>fO (h2 x q))]
  by_cases c:i<=A.length
  .have e:rot (A++m::B) i=A.drop i++m::(B++A.take i):=by
    unfold rot;rw[List.drop_append_of_le_length c,fI c];simp
   rw[e,A9 (λx q=>h1 x (fH q)) (λx q=>?_)]
   .simp
   .rcases mAq.mp q with q|q
    .exact fO (h2 x q)
    .exact fO (h1 x (eJ q))
  .have l:A.length<i:=by lia
   obtain⟨j,rfl⟩:∃j,i=A.length+(j+1):=⟨i-A.length-1,by lia⟩
   have e:rot (A++m::B) (A.length+(j+1))=(B.drop j++A)++m::B.take j:=by
    unfold rot;rw[List.drop_append,List.take_append];simp[bz,bA]
   rw[e,A9 (λx q=>?_) (λx q=>fO (h2 x (eJ q)))]
   .rw [gu,gu,←aM,bq]
   .rcases mAq.mp q with q|q
    .exact h2 x (fH q)
    .exact h1 x q
theorem rot_perm(t:List Int) (i:Nat):(rot t i).Perm t:=by
 unfold rot;exact dt.trans (by rw[bq])
theorem si(t:List Int):(good t).Perm t:=rot_perm t _
theorem yT{rs n:List (List Int)}(h:rs.Perm n):rs.flatten.Perm n.flatten:=by
 induction h with
 |nil=>exact .refl _
 |cons x _ r=>rw[fCq,fCq];exact dU.append (.refl x) r
 |swap x y l =>
  rw[fCq,fCq,fCq,fCq,←aM,←aM];exact dU.append dt (.refl _)
 |trans _ _ a b=>exact a.trans b
theorem tV{f:List Int->List Int}(l:∀r,(f r).Perm r):∀rs:List (List Int),(rs.map f).flatten.Perm rs.flatten
 | []=>.refl _
 |r::rs=>by
  rw[ax,fCq,fCq];exact dU.append (l r) (tV l rs)
theorem Nq{rs:List (List Int)}{r:List Int}(h:rs.flatten.Nodup) (hr:r∈rs):r.Nodup:=bj.sublist (aK hr) h
theorem Lh:∀t:Fin 66,∀d:Fin 67,0<d.val->(t.val+1)*d.val % 67≠0:=by decide +kernel
end Mr
namespace MrS
open PySem PyProof.Rows
structure B2 (prog:jo) (w:jt) (A:Around) (s:Shared) (κ:jI) (P:jq->Prop) (lt:jq->jq->Bool):Prop where
 ask:∀x y,P x->P y->∀(E:Value->Shared->Prop) (Q:Bool->Shared->Prop),Q (lt x y) s->jj (jm prog w) A (keyLt' κ x.1 y.1) Q E s
 asym:∀x y,P x->P y->lt x y=true->lt y x=false
 trans:∀x y z,P x->P y->P z->lt y x=false->lt z y=false->lt z x=false
section
variable {prog:jo}{w:jt}{A:Around}{E:Value->Shared->Prop}{s:Shared}{κ:jI}{P:jq->Prop}{lt:jq->jq->Bool}
theorem B2.refl(C:B2 prog w A s κ P lt) {x:jq}(l:P x):lt x x=false:=by
 cases e:lt x x with
 |false=>rfl
 |true=>rw[←C.asym x x l l e,e]
theorem B2.cmp(C:B2 prog w A s κ P lt) {x y:jq}{st:SortSt}{Q:Option Bool->SortSt->Prop}(l:P x) (n:P y) (r:kindOf st=κ) (h:Q (some (lt x y)) st) :
  wpS (jm prog w) A E s (lt' x y) Q st:=by
 rw[lt'_eq];refine jw (mv ?_);rw[r];refine jw (wpS_lift (lD (C.ask x y l n _ _ ⟨rfl,?_⟩)));exact jC h
theorem Jf{arr:Array jq}{i:Nat}{x:jq}{st:SortSt}{Q:jq->SortSt->Prop}(l:arr[i]?=some x) (h:Q x st):wpS (jm prog w) A E s (elem' arr i) Q st:=by
 rw[elem'_eq,l];exact jC h
theorem B2.at(C:B2 prog w A s κ P lt) {i j:Nat}{x y:jq}{st:SortSt}{Q:Option Bool->SortSt->Prop}(l:(jx st)[i]?=some x) (n:(jx st)[j]?=some y) (r:P x) (t:P y) (u:kindOf st=κ) (h:Q (some (lt x y)) st) :
  wpS (jm prog w) A E s (ltAt' i j) Q st:=by
 rw[ltAt'_eq];refine jw (mv ?_);exact jw (Jf l (jw (Jf n (C.cmp r t u h))))
end
section
variable {prog:jo}{w:jt}{A:Around}{E:Value->Shared->Prop}{s:Shared}{κ:jI}{P:jq->Prop}{lt:jq->jq->Bool}
theorem IA{x:String}{st:SortSt}{Q:Unit->SortSt->Prop}(h:Q () st):wpS (jm prog w) A E s (liftM (rule x):StateT SortSt Sem Unit) Q st:=wpS_lift (mL ⟨rfl,h⟩)
structure Ls where
 o:Array jq
 (i j m p q g:Nat)
variable {a b:Array jq}{st:SortSt}{Q:Array jq->SortSt->Prop}{n:Nat}{x:Ls}
end
def Dq(lt:jq->jq->Bool) (xs:Array jq) (i j:Nat):Prop:=∀p q x y,i<=p->p<=q->q<j->xs[p]?=some x->xs[q]?=some y->lt y x=false
def Ro(lt:jq->jq->Bool) (xs:Array jq) (i j:Nat):Prop:=∀p q x y,i<=p->p<=q->q<j->xs[p]?=some x->xs[q]?=some y->lt x y=false
def Yh(lt:jq->jq->Bool) (xs:Array jq) (i j:Nat):Prop:=∀p q x y,i<=p->p<j->i<=q->q<j->xs[p]?=some x->xs[q]?=some y->lt x y=false
section
variable {lt:jq->jq->Bool}{xs:Array jq}{i j lo n:Nat}
theorem JV(l:j<=xs.size) (h:Ro lt xs i j):Dq lt (mirror xs i j ((j-i) / 2)) i j:=by
 intro p q x y h1 h2 s ex r;rw[ku l,pQ ⟨h1,by lia⟩]at ex
 rw[ku l,pQ ⟨by lia,s⟩]at r
 exact h _ _ _ _ (by lia) (by lia) (by lia) r ex
theorem AU(u:j<=xs.size) (z:lo<=i) (hn:j<=n) (e:Yh lt xs i j) (h:Ro lt xs lo n):Ro lt (mirror xs i j ((j-i) / 2)) lo n:=by
 intro p q x y h1 h2 s ex l;rw[ku u]at ex l
 by_cases t:i<=p/\p<j
 .rw [pQ t]at ex
  by_cases r:i<=q/\q<j
  .rw [pQ r]at l;exact e _ _ _ _ (by lia) (by lia) (by lia) (by lia) ex l
  .rw [qk r]at l;exact h _ _ _ _ (by lia) (by lia) s ex l
 .rw [qk t]at ex
  by_cases r:i<=q/\q<j
  .rw [pQ r]at l;exact h _ _ _ _ h1 (by lia) (by lia) ex l
  .rw [qk r]at l;exact h _ _ _ _ h1 h2 s ex l
end
section
variable (lo:Nat)
noncomputable def YW(n:Nat):StateT SortSt Sem (ForInStep (Option (Option Nat)×Nat)):=do
 match ←ltAt' (lo+n) (lo+n-1) with
 |some c=>if c then pure (.done (none,n)) else pure (.yield (none,n+1))
 |_=>pure (.done (some none,n))
noncomputable def ZO(n q:Nat):StateT SortSt Sem (ForInStep (Option (Option Nat)×Nat×Nat)):=do
 match ←ltAt' (lo+n) (lo+n-1) with
 |some c =>
  if c then
   if q>0 then do
    let _ ←kL (lo+n-(q+1)) (lo+n)
    pure (.yield (none,n+1,0))
   else pure (.yield (none,n+1,0))
  else do
   match ←ltAt' (lo+n-1) (lo+n) with
   |some c=>if c then pure (.done (none,n,q)) else pure (.yield (none,n+1,q+1))
   |_=>pure (.done (some none,n,q))
 |_=>pure (.done (some none,n,q))
def Y6(l n:Nat):StateT SortSt Sem (Option Nat):=do
 kL lo (lo+n)
 let r ←forIn [n:l] (none,n) λ_ s=>YW lo s.2
 Break.runK.match_1 (λ_=>StateT SortSt Sem (Option Nat)) r.1 (λv=>pure v) λ_=>pure (some r.2)
def Zo(l n:Nat):StateT SortSt Sem (Option Nat):=do
 rule "list.sort.descending-run"
 let r ←forIn [n+1:l] (none,n+1,0) λ_ s=>ZO lo s.2.1 s.2.2
 Break.runK.match_1 (λ_=>StateT SortSt Sem (Option Nat)) r.1 (λv=>pure v) λ_ =>
  if r.2.2>0 then do
   let _ ←kL (lo+r.2.1-(r.2.2+1)) (lo+r.2.1)
   Y6 lo l r.2.1
  else Y6 lo l r.2.1
theorem XU(l:Nat):countRun' lo l=(do
 let r ←forIn [1:l] (none,1) λ_ s=>YW lo s.2
 Break.runK.match_1 (λ_=>StateT SortSt Sem (Option Nat)) r.1 (λv=>pure v) λ_ =>
  if r.2 == l then pure (some r.2)
  else if r.2>1 then do
   match ←ltAt' lo (lo+r.2-1) with
   |some c =>
    if c then pure (some r.2)
    else do
     let _ ←kL lo (lo+r.2)
     Zo lo l r.2
   |_=>pure none
  else Zo lo l r.2):=countRun'_eq lo l
end
section
variable {prog:jo}{w:jt}{A:Around}{E:Value->Shared->Prop}{s:Shared}{κ:jI}{P:jq->Prop}{lt:jq->jq->Bool}
theorem Rt(C:B2 prog w A s κ P lt) {xs:Array jq}(n:∀x,x∈xs->P x) (lo:Nat):Dq lt xs lo (lo+1):=by
 intro p q x y h1 h2 r ex l;have e:p=q:=by lia
 subst e;rw[ex]at l;cases l;exact C.refl (n _ (aQq ex))
theorem P5(C:B2 prog w A s κ P lt) {xs:Array jq}(r:∀x,x∈xs->P x) {lo n:Nat}(h:Dq lt xs lo (lo+(n+1))) (u:∀x y,xs[lo+(n+1)]?=some x->xs[lo+n]?=some y->lt x y=false) (B:lo+(n+1)<xs.size):Dq lt xs lo (lo+(n+2)):=by
 intro p q x y h1 h2 G ex l
 by_cases c:q<lo+(n+1)
 .exact h p q x y h1 h2 c ex l
 .have eq:q=lo+(n+1):=by lia
  subst eq
  by_cases z:p=lo+(n+1)
  .subst z;rw[ex]at l;cases l;exact C.refl (r _ (aQq ex))
  .have t:xs[lo+n]?=some (xs[lo+n]'(by lia)):=br (by lia)
   exact C.trans _ _ _ (r _ (aQq ex)) (r _ (aQq t)) (r _ (aQq l)) (h p (lo+n) _ _ h1 (by lia) (by lia) ex t) (u _ _ l t)
theorem IX(C:B2 prog w A s κ P lt) {xs:Array jq}(r:∀x,x∈xs->P x) {lo n:Nat}(h:Ro lt xs lo (lo+(n+1))) (u:∀x y,xs[lo+(n+1)]?=some x->xs[lo+n]?=some y->lt y x=false) (B:lo+(n+1)<xs.size):Ro lt xs lo (lo+(n+2)):=by
 intro p q x y h1 h2 G ex l
 by_cases c:q<lo+(n+1)
 .exact h p q x y h1 h2 c ex l
 .have eq:q=lo+(n+1):=by lia
  subst eq
  by_cases z:p=lo+(n+1)
  .subst z;rw[ex]at l;cases l;exact C.refl (r _ (aQq ex))
  .have t:xs[lo+n]?=some (xs[lo+n]'(by lia)):=br (by lia)
   exact C.trans _ _ _ (r _ (aQq l)) (r _ (aQq t)) (r _ (aQq ex)) (u _ _ l t) (h p (lo+n) _ _ h1 (by lia) (by lia) ex t)
theorem HK(C:B2 prog w A s κ P lt) {lo l a:Nat}{st:SortSt}(H:∀x,x∈jx st->P x) (M:kindOf st=κ) (R:1<=a) (t:a<=l) (S:lo+l<=(jx st).size) (O:Dq lt (jx st) lo (lo+a)) :
  wpS (jm prog w) A E s (forIn [a:l] ((none,a):Option (Option Nat)×Nat) λ_ s=>YW lo s.2)
   (λc r=>∃n,c=(none,n)/\r=st/\a<=n/\n<=l/\Dq lt (jx st) lo (lo+n)/\(n=l∨∃x y,(jx st)[lo+n]?=some x/\(jx st)[lo+n-1]?=some y/\lt x y=true)) st:=by
 refine kz (I:=λi c r=>c=(none,i)/\r=st/\a<=i/\i<=l/\Dq lt (jx st) lo (lo+i)) ?step ?fin ⟨rfl,rfl,ai _,t,O⟩
 case step =>
  rintro i c r h1 h2 ⟨rfl,rfl,B,J,u⟩;obtain⟨k,rfl⟩:∃k,i=k+1:=⟨i-1,by lia⟩
  have ex:(jx r)[lo+(k+1)]?=some ((jx r)[lo+(k+1)]'(by lia)):=br (by lia)
  have G:(jx r)[lo+(k+1)-1]?=some ((jx r)[lo+k]'(by lia)):=br (by lia)
  refine jw (C.at ex G (H _ (aQq ex)) (H _ (aQq G)) M ?_);cases e:lt ((jx r)[lo+(k+1)]'(by lia)) ((jx r)[lo+k]'(by lia)) with
  |true=>exact jC ⟨_,rfl,rfl,B,J,u,.inr ⟨_,_,ex,G,e⟩⟩
  |false =>
   refine jC ⟨rfl,rfl,by lia,h2,P5 C H u (λx y L Q=>?_) (by lia)⟩
   have z:(jx r)[lo+(k+1)-1]?=some y:=Q;rw[ex]at L;rw[G]at z;cases L;cases z;exact e
 case fin =>
  rintro c r ⟨rfl,rfl,B,J,u⟩;have e:max a l=l:=Nat.max_eq_right t;rw[e]at B J u ⊢;exact⟨l,rfl,rfl,B,ai _,u,.inl rfl⟩
theorem C7{i j:Nat}{st:SortSt}{Q:Unit->SortSt->Prop}(h:Q () (jN st (mirror (jx st) i j ((j-i) / 2)))):wpS (jm prog w) A E s (kL i j) Q st:=by
 rw[reverseSlice'_eq];exact mK h
structure B3 (xs ys:Array jq) (lo hi:Nat):Prop where
 pm:ys.Perm xs
 out:∀k,(k<lo∨hi<=k)->ys[k]?=xs[k]?
theorem B3.refl(xs:Array jq) (lo l:Nat):B3 xs xs lo l:=⟨iJ.refl _,λ_ _=>rfl⟩
theorem B3.trans{xs ys n:Array jq}{lo l:Nat}(a:B3 xs ys lo l) (b:B3 ys n lo l):B3 xs n lo l:=⟨b.pm.trans a.pm,λk h=>(b.out k h).trans (a.out k h)⟩
theorem B3.mono{xs ys:Array jq}{lo n l:Nat}(a:B3 xs ys lo n) (h:n<=l):B3 xs ys lo l:=⟨a.pm,λk q=>a.out k (by lia)⟩
theorem B3.size{xs ys:Array jq}{lo l:Nat}(a:B3 xs ys lo l):ys.size=xs.size:=a.pm.size_eq
theorem B3.mem{xs ys:Array jq}{lo l:Nat}(a:B3 xs ys lo l) {P:jq->Prop}(h:∀x,x∈xs->P x):∀x,x∈ys->P x:=λx n=>h x (a.pm.mem_iff.mp n)
theorem yU{xs:Array jq}{lo l i j:Nat}(n:j<=xs.size) (h1:lo<=i) (h2:j<=l):B3 xs (mirror xs i j ((j-i) / 2)) lo l :=
 ⟨mirror_perm _ _ _ _,λk r=>by rw[ku n,qk (by lia)]⟩
structure CR (lt:jq->jq->Bool) (as:Array jq) (lo i q:Nat) (ys:Array jq):Prop where
 b:B3 as ys lo (lo+i)
 d:Ro lt ys lo (lo+i)
 e:Yh lt ys (lo+i-(q+1)) (lo+i)
 p:q+1<=i
theorem C6(C:B2 prog w A s κ P lt) {ys:Array jq}(r:∀x,x∈ys->P x) {i j:Nat}(h:j<=i+1):Yh lt ys i j:=by
 intro p q x y t g2 u z l n;have e:p=q:=by lia
 subst e;rw[l]at n;cases n;exact C.refl (r _ (aQq l))
theorem Wp(C:B2 prog w A s κ P lt) {lo t k l:Nat}{st:SortSt}{ys:Array jq}(R:∀x,x∈jx st->P x) (S:kindOf st=κ) (hz:lo+t<=(jx st).size) (M:k+1<t) (g:CR lt (jx st) lo (k+1) l ys) :
  wpS (jm prog w) A E s (ZO lo (k+1) l) (λr He=>∃m q U,He=jN st U/\m<=t/\CR lt (jx st) lo m q U/\(r = .done (none,m,q)∨r = .yield (none,m,q)/\m=k+1+1)) (jN st ys):=by
 have G:=g.b;have g2:=g.d;have O:=g.e;have g4:=g.p;have n:=G.mem R;have hsz:=G.size;have ex:ys[lo+(k+1)]?=some (ys[lo+(k+1)]'(by lia)):=br (by lia)
 have z:ys[lo+(k+1)-1]?=some (ys[lo+k]'(by lia)):=br (by lia)
 have B:=n _ (aQq ex);have py:=n _ (aQq z);have H:lt (ys[lo+k]'(by lia)) (ys[lo+(k+1)]'(by lia))=false->Ro lt ys lo (lo+(k+1+1)):=λe=>IX C n g2 (λx y X hy=>by
  have I:ys[lo+(k+1)-1]?=some y:=hy;rw[ex]at X;rw[z]at I;cases X;cases I;exact e) (by lia)
 refine jw (C.at (st:=jN st ys) ex z B py S ?_);cases e:lt (ys[lo+(k+1)]'(by lia)) (ys[lo+k]'(by lia)) with
 |true =>
  have J:=H (C.asym _ _ B py e);dsimp only;rw[pQ rfl]
  by_cases cn:l>0
  .rw [pQ cn];refine jw (C7 (jC ?_));have Y:B3 (jx st) (mirror ys (lo+(k+1)-(l+1)) (lo+(k+1)) ((lo+(k+1)-(lo+(k+1)-(l+1))) / 2)) lo (lo+(k+1)):=G.trans (yU (by lia) (by lia) (ai _))
   exact⟨_,0,_,rfl,M,⟨Y.mono (by lia),AU (by lia) (by lia) (by lia) O J,C6 C (Y.mem R) (by lia),by lia⟩,.inr ⟨rfl,rfl⟩⟩
  .rw [qk cn];exact jC ⟨_,0,ys,rfl,M,⟨G.mono (by lia),J,C6 C n (by lia),by lia⟩,.inr ⟨rfl,rfl⟩⟩
 |false =>
  dsimp only;rw[qk (by decide)]
  refine jw (C.at (st:=jN st ys) z ex py B S ?_);cases e':lt (ys[lo+k]'(by lia)) (ys[lo+(k+1)]'(by lia)) with
  |true=>exact jC ⟨_,l,ys,rfl,bZ M,g,.inl rfl⟩
  |false =>
   refine jC ⟨_,l+1,ys,rfl,M,⟨G.mono (by lia),H e',?_,by lia⟩,.inr ⟨rfl,rfl⟩⟩
   intro p q x y h1 h2 h3 h4 L u;have qx:=n _ (aQq L);have qy:=n _ (aQq u)
   by_cases cp:p=lo+(k+1)
   .subst cp;rw[ex]at L;cases L
    by_cases Q:q=lo+(k+1)
    .subst Q;rw[ex]at u;cases u;exact C.refl B
    .exact C.trans _ _ _ qy py B (O (lo+(k+1)-1) q _ _ (by lia) (by lia) (by lia) (by lia) z u) e
   .by_cases Q:q=lo+(k+1)
    .subst Q;rw[ex]at u;cases u;exact C.trans _ _ _ B py qx e' (O p (lo+(k+1)-1) _ _ (by lia) (by lia) (by lia) (by lia) L z)
    .exact O p q x y (by lia) (by lia) (by lia) (by lia) L u
abbrev W0(lt:jq->jq->Bool) (st:SortSt) (lo l:Nat) (Q:Option Nat->SortSt->Prop):=∀n xs,1<=n->n<=l->B3 (jx st) xs lo (lo+n)->Dq lt xs lo (lo+n)->Q (some n) (jN st xs)
theorem Pq(C:B2 prog w A s κ P lt) {lo l m:Nat}{st:SortSt}{ys:Array jq}{Q:Option Nat->SortSt->Prop}(u:∀x,x∈jx st->P x) (y:kindOf st=κ) (z:lo+l<=(jx st).size) (h:W0 lt st lo l Q)
  (h1:1<=m) (h2:m<=l) (b:B3 (jx st) ys lo (lo+m)) (d:Ro lt ys lo (lo+m)):wpS (jm prog w) A E s (Y6 lo l m) Q (jN st ys):=by
 refine jw (C7 ?_);have B:=b.size;have G:=JV (by lia) d
 have n:=b.trans (yU (i:=lo) (j:=lo+m) (by lia) (ai _) (ai _))
 refine jw (kP (HK (st:=jN st _) C (n.mem u) y h1 h2 (bw z (fh n.size.symm)) G) ?_);rintro c He ⟨H,rfl,rfl,I,r,t,_⟩;exact jC (h H _ (by lia) r (n.mono (by lia)) t)
theorem Q3(C:B2 prog w A s κ P lt) {lo l n:Nat}{st:SortSt}{xs:Array jq}{Q:Option Nat->SortSt->Prop}(y:∀x,x∈jx st->P x) (z:kindOf st=κ) (B:lo+l<=(jx st).size) (h:W0 lt st lo l Q)
  (hn:n<l) (b:B3 (jx st) xs lo (lo+n)) (d:Ro lt xs lo (lo+(n+1))):wpS (jm prog w) A E s (Zo lo l n) Q (jN st xs):=by
 refine jw (IA (jw (kP (kz
  (I:=λi c He=>∃q t,c=(none,i,q)/\He=jN st t/\i<=l/\CR lt (jx st) lo i q t)
  (Q:=λc He=>∃m q t,c=(none,m,q)/\He=jN st t/\m<=l/\CR lt (jx st) lo m q t)
  ?_ ?_ ⟨0,xs,rfl,rfl,hn,b.mono (by lia),d,C6 C (b.mem y) (by lia),by lia⟩) ?_)))
 .rintro i c He _ J ⟨q,t,rfl,rfl,_,g⟩;obtain⟨k,rfl⟩:∃k,i=k+1:=⟨i-1,by have:=g.p;lia⟩
  refine kP (Wp C y z B J g) λr He hr=>?_
  obtain⟨m,q,G,rfl,u,H,rfl|⟨rfl,rfl⟩⟩:=hr
  .exact ⟨m,q,G,rfl,rfl,u,H⟩
  .exact ⟨q,G,rfl,rfl,u,H⟩
 .rintro c He ⟨q,t,rfl,rfl,u,g⟩;exact⟨_,q,t,rfl,rfl,u,g⟩
 .rintro c He ⟨m,q,t,rfl,rfl,u,g⟩;have L:=g.b.size;have M:=g.p;dsimp only
  by_cases cn:q>0
  .rw [pQ cn];exact jw (C7 (Pq (st:=st) (ys:=mirror t (lo+m-(q+1)) (lo+m) ((lo+m-(lo+m-(q+1))) / 2)) C y z B h (by lia) u (g.b.trans (yU (by lia) (by lia) (ai _))) (AU (by lia) (by lia) (ai _) g.e g.d)))
  .rw [qk cn];exact Pq C y z B h (by lia) u g.b g.d
theorem GE(C:B2 prog w A s κ P lt) {lo r:Nat}{st:SortSt}{Q:Option Nat->SortSt->Prop}(t:∀x,x∈jx st->P x) (M:kindOf st=κ) (h1:1<=r) (O:lo+r<=(jx st).size)
  (h:∀n xs,1<=n->n<=r->B3 (jx st) xs lo (lo+n)->Dq lt xs lo (lo+n)->Q (some n) (jN st xs)):wpS (jm prog w) A E s (countRun' lo r) Q st:=by
 rw[XU];refine jw (kP (HK C t M (ai 1) h1 O (Rt C t lo)) ?_);rintro c l ⟨n,rfl,rfl,n1,n2,B,R⟩;dsimp only;have z:Q (some n) l:=h n (jx l) n1 n2 (B3.refl _ _ _) B
 by_cases S:n=r
 .rw [pQ (by simp[S])]
  exact jC z
 rw[qk (by simpa using S)]
 obtain⟨xb,yb,I,u,eb⟩:=R.resolve_left S;obtain⟨m,rfl⟩:∃m,n=m+1:=⟨n-1,by lia⟩
 have U:=t _ (aQq I);have G:=t _ (aQq u);have go:Yh lt (jx l) lo (lo+(m+1))->Ro lt (jx l) lo (lo+(m+1+1)):=λe1 =>
  IX C t (λp q x y X g2 Y ex ey=>e1 p q x y X (by lia) (by lia) Y ex ey) (λx y hx hy=>by
   have J:(jx l)[lo+(m+1)-1]?=some y:=hy;rw[I]at hx;rw[u]at J;cases hx;cases J;exact C.asym _ _ U G eb) (by lia)
 by_cases c2:m+1>1
 .rw [pQ c2];have ex:(jx l)[lo]?=some ((jx l)[lo]'(by lia)):=br (by lia)
  have H:=t _ (aQq ex);refine jw (C.at ex u H G M ?_);cases e:lt ((jx l)[lo]'(by lia)) yb with
  |true=>exact jC z
  |false =>
   dsimp only;rw[qk (by decide)]
   have L:Yh lt (jx l) lo (lo+(m+1)):=by
    intro p q x y X g2 Y g4 gx gy;have px:=t _ (aQq gx);have py:=t _ (aQq gy);have q1:=B q (lo+(m+1)-1) _ _ Y (by lia) (by lia) gy u
    have q2:=B lo p _ _ (ai _) X g2 ex gx;exact C.trans _ _ _ py H px (C.trans _ _ _ py G H q1 e) q2
   exact jw (C7 (Q3 C t M O h (by lia) (yU (by lia) (ai _) (ai _)) (AU (by lia) (ai _) (by lia) L (go L))))
 .rw [qk c2];exact Q3 C t M O h (by lia) (B3.refl _ _ _) (go (C6 C t (by lia)))
end
section
variable {prog:jo}{w:jt}{A:Around}{E:Value->Shared->Prop}{s:Shared}{κ:jI}{P:jq->Prop}{lt:jq->jq->Bool}
theorem RU(C:B2 prog w A s κ P lt) {xs:Array jq}(H:∀x,x∈xs->P x) {lo k l:Nat}(O:lo+k<xs.size) (hl:l<=k) (G:Dq lt xs lo (lo+k)) {x:jq}(I:xs[lo+k]?=some x)
  (h1:∀j y,j<l->xs[lo+j]?=some y->lt x y=false) (h2:∀j y,l<=j->j<k->xs[lo+j]?=some y->lt x y=true):Dq lt (bubble xs (lo+k) (k-l)) lo (lo+(k+1)):=by
 have J:=H _ (aQq I);have g:∀p,(bubble xs (lo+k) (k-l))[p]?=if p=lo+l then some x else if lo+l<p/\p<=lo+k then xs[p-1]? else xs[p]?:=λp=>by
  rw[getElem?_bubble O (k-l) (by lia) p,show lo+k-(k-l)=lo+l by lia,I]
 intro p q u v L Q R r n;rw[g]at r n
 by_cases M:p=lo+l
 .rw [pQ M]at r;cases r
  by_cases t:q=lo+l
  .rw [pQ t]at n;cases n;exact C.refl J
  .rw [qk t,pQ ⟨by lia,by lia⟩]at n
   have pv:=H _ (aQq n);exact C.asym _ _ J pv (h2 (q-1-lo) v (by lia) (by lia) (by rw[show lo+(q-1-lo)=q-1 by lia];exact n))
 .rw [qk M]at r
  by_cases z:lo+l<p/\p<=lo+k
  .rw [pQ z]at r;rw[qk (by lia),pQ ⟨by lia,by lia⟩]at n
   exact G (p-1) (q-1) _ _ (by lia) (by lia) (by lia) r n
  .rw [qk z]at r
   by_cases t:q=lo+l
   .rw [pQ t]at n;cases n;exact h1 (p-lo) u (by lia) (by rw[show lo+(p-lo)=p by lia];exact r)
   .rw [qk t]at n
    by_cases B:lo+l<q/\q<=lo+k
    .rw [pQ B]at n;exact G p (q-1) _ _ L (by lia) (by lia) r n
    .rw [qk B]at n;exact G p q _ _ L Q (by lia) r n
theorem KG{xs:Array jq}{lo k l n:Nat}(r:lo+k<xs.size) (hl:l<=k) (hn:k<n):B3 xs (bubble xs (lo+k) (k-l)) lo (lo+n) :=
 ⟨bubble_perm _ _ _,λp t=>by rw[getElem?_bubble r (k-l) (by lia) p,qk (by lia),qk (by lia)]⟩
theorem Qn{l n:Nat}{st:SortSt}{Q:Unit->SortSt->Prop}(h:Q () (jN st (bubble (jx st) l (l-n)))):wpS (jm prog w) A E s (moveDown' l n) Q st:=by
 rw[moveDown'_eq];exact mK h
theorem KM(C:B2 prog w A s κ P lt) {lo n ok:Nat}{st:SortSt}{Q:Bool->SortSt->Prop}(hp:∀x,x∈jx st->P x) (hk:kindOf st=κ) (h1:1<=ok) (h2:ok<=n) (hz:lo+n<=(jx st).size) (hs:Dq lt (jx st) lo (lo+ok))
  (h:∀xs,B3 (jx st) xs lo (lo+n)->Dq lt xs lo (lo+n)->Q true (jN st xs)):wpS (jm prog w) A E s (binarySort' lo n ok) Q st:=by
 rw[binarySort'_eq];dsimp only;rw[Nat.max_eq_left h1];refine jw (kP (kz (I:=λk c u=>∃t,c=(none,())/\u=jN st t/\B3 (jx st) t lo (lo+n)/\Dq lt t lo (lo+k)/\k<=n)
  (Q:=λc u=>∃t,c=(none,())/\u=jN st t/\B3 (jx st) t lo (lo+n)/\Dq lt t lo (lo+n)) ?step ?fin ⟨jx st,rfl,rfl,B3.refl _ _ _,hs,h2⟩) ?post)
 case fin =>
  rintro c u ⟨t,rfl,rfl,b1,B,q⟩;have e:max ok n=n:=by lia
  rw[e]at B;exact⟨t,rfl,rfl,b1,B⟩
 case post =>
  rintro c u ⟨t,rfl,rfl,b1,B⟩;exact jC (h t b1 B)
 case step =>
  rintro k c u hk1 L ⟨t,rfl,rfl,b1,B,q⟩;have z:=b1.mem hp;have hsz:=b1.size;have ex:t[lo+k]?=some (t[lo+k]'(by lia)):=br (by lia)
  have R:=z _ (aQq ex);refine jw (kP (kz (I:=λi c u=>∃l r,c=(none,l,r)/\u=jN st t/\l<=r/\r<=k/\(∀j y,j<l->t[lo+j]?=some y->lt (t[lo+k]'(by lia)) y=false)/\(∀j y,r<=j->j<k->t[lo+j]?=some y->lt (t[lo+k]'(by lia)) y=true)/\(r-l)+i<=k)
   (Q:=λc u=>∃l r,c=(none,l,r)/\u=jN st t/\l=r/\r<=k/\(∀j y,j<l->t[lo+j]?=some y->lt (t[lo+k]'(by lia)) y=false)/\(∀j y,r<=j->j<k->t[lo+j]?=some y->lt (t[lo+k]'(by lia)) y=true))
   ?step1 ?fin1 ⟨0,k,rfl,rfl,ba _,ai _,λj y hj=>absurd hj (bK _),λj y U g2=>absurd g2 (by lia),by lia⟩) ?post1)
  case fin1 =>
   rintro c u ⟨l,r,rfl,rfl,a1,G,H,J,a5⟩;exact⟨l,r,rfl,rfl,by lia,G,H,J⟩
  case step1 =>
   rintro i c u _ hi ⟨l,r,rfl,rfl,a1,G,H,J,a5⟩;dsimp only
   by_cases X:l ≥ r
   .rw [pQ X];exact jC ⟨l,r,rfl,rfl,by lia,G,H,J⟩
   rw[qk X];have O:t[lo+(l+r) / 2]?=some (t[lo+(l+r) / 2]'(by lia)):=br (by lia)
   have pm:=z _ (aQq O);refine jw (C.at (st:=jN st t) ex O R pm hk ?_);cases e:lt (t[lo+k]'(by lia)) (t[lo+(l+r) / 2]'(by lia)) with
   |true =>
    dsimp only;rw[pQ rfl];refine jC ⟨l,_,rfl,rfl,by lia,by lia,H,λj y U g2 M=>?_,by lia⟩
    have py:=z _ (aQq M);cases e':lt (t[lo+k]'(by lia)) y with
    |true=>rfl
    |false =>
     have q1:=B (lo+(l+r) / 2) (lo+j) _ _ (by lia) (by lia) (by lia) O M
     have Y:=C.trans _ _ _ pm py R q1 e';rw[e]at Y;cases Y
   |false =>
    dsimp only;rw[qk (by decide)]
    refine jC ⟨_,r,rfl,rfl,by lia,G,λj y U M=>?_,J,by lia⟩
    have py:=z _ (aQq M);exact C.trans _ _ _ py pm R (B (lo+j) (lo+(l+r) / 2) _ _ (by lia) (by lia) (by lia) M O) e
  case post1 =>
   rintro c u ⟨l,r,rfl,rfl,rfl,G,H,J⟩;dsimp only;refine jw (Qn (jC ?_));have e:lo+k-(lo+l)=k-l:=by lia
   show ∃S,_/\jN st (bubble t (lo+k) (lo+k-(lo+l)))=jN st S/\_;rw[e];exact⟨_,rfl,rfl,b1.trans (KG (by lia) G L),RU C z (by lia) G B ex H J,L⟩
end
section
variable {prog:jo}{w:jt}{A:Around}{E:Value->Shared->Prop}{s:Shared}{κ:jI}{P:jq->Prop}{lt:jq->jq->Bool}
noncomputable abbrev BQ(κ:jI) (xs:Array jq) (p:Array (Nat×Nat×Nat)) (g:Nat):SortSt:=SortSt.mk' κ xs p g none
end
end MrS
namespace Xe
open PySem
noncomputable abbrev YG:List Value:=[.type "ValueError", .type "Exception", .type "BaseException", .type "object"]
end Xe
namespace Mr
abbrev St:=L2.St
open PySem PySem.Spec PyProof.Rows L2
section
variable {X:Cx}{nA:List (Addr×Obj)}{σ:List (Option V)}{H H':Hp}{s:Shared}{h':Heap}
theorem IG{t':Nat}{fp:List Addr}{T:Addr}{o:HO}(I:Inv X nA σ H s) (k:∀b u,b∉fp->s.heap.get? b=some u->h'.get? b=some u)
  (x:∀b∈fp,CT X nA H b) (y:s.heap.objs.size<=T) (new:qT X.prog X.w (qG H T o) h' T o):Inv X nA σ (qG H T o) { s with heap:=h',toks:=t' }:=by
 have hn:H T=none:=I.hok.fresh y;have B:∀b u,H b=some u->b∉fp:=λb u e z=>by rw[(x b z).1]at e;cases e
 refine I.step (g':=s.gens) (d':=s.drawn) (ch:=fp) (λb t=>?_) (λb u _ _ l e _=>k b u l e) (λb u _ _ l e _=>⟨u.slots,k b u l e⟩)
  (λb u _ e n=>by rw[oz (aq (aV (ae e) y))];exact n) (λb u l e=>⟨u,k b u l e⟩)
  (λb C e=>by rw[oz (ri e hn)];exact e) (λb u C e=>by rw[oz (ri e hn)];exact e) (λb R e=>⟨#[],by rw[oz (ri e hn),e];simp⟩) (λm E=>?_) (λb u e=>?_) I.bare
 .obtain ⟨_,G,_,J,L,M⟩:=x b t;exact⟨J,G,L,M⟩
 .obtain ⟨u,O,P,Q,r⟩:=E;exact⟨u,O,P,k _ u (λz=>(x _ z).2.1 rfl) Q,r⟩
 .by_cases t:b=T
  .subst t;rw[oC]at e;cases e;exact new
  .rw [oz t]at e;refine(I.hok b u e).stay (λc v l q=>k c v ?_ q) (λc q=>by rw[oz (ri q hn)];exact q) λc C q=>by rw[oz (ri q hn)];exact q
   rcases l with rfl|l
   .exact B _ u e
   .exact B c _ l
theorem LN{t':Nat}{fp:List Addr}(I:Inv X nA σ H s) (k:∀b u,b∉fp->s.heap.get? b=some u->h'.get? b=some u)
  (t:∀b∈fp,CT X nA H b):Inv X nA σ H { s with heap:=h',toks:=t' }:=by
 have x:∀b u,H b=some u->b∉fp:=λb u e z=>by rw[(t b z).1]at e;cases e
 refine I.step (g':=s.gens) (d':=s.drawn) (ch:=fp) (λb y=>?_) (λb u _ _ l e _=>k b u l e) (λb u _ _ l e _=>⟨u.slots,k b u l e⟩)
  (λ_ _ _ _ n=>n) (λb u l e=>⟨u,k b u l e⟩) (λ_ _ e=>e) (λ_ _ _ e=>e) (λb P e=>⟨#[],by rw[e];simp⟩) (λm B=>?_) (λb u e=>?_) I.bare
 .obtain ⟨_,C,_,E,G,J⟩:=t b y;exact⟨E,C,G,J⟩
 .obtain ⟨u,L,M,O,r⟩:=B;exact⟨u,L,M,k _ u (λz=>(t _ z).2.1 rfl) O,r⟩
 .refine (I.hok b u e).stay (λc v l q=>k c v ?_ q) (λ_ q=>q) λ_ _ q=>q
  rcases l with rfl|l
  .exact x _ u e
  .exact x c _ l
theorem FW{a b:Addr}{xs:List V}(I:Inv X nA σ H s) (h:qV X.K H a xs) (f:CT X nA H b):a≠b:=by
 intro e;subst e;obtain⟨l,_,_,t,_⟩:=f;rcases h with (h|⟨o,h⟩)|⟨o,u,n,x,_⟩
 .rw [l]at h;cases h
 .rw [l]at h;cases h
 .have r:=I.mod.kin a o x;rcases t with z|z
  .exact I.ok.noex a o r z
  .exact absurd (aV (ae (I.ok.bs a o r).1) z) (bV _)
end
def Xi(K:W.Frag) (a:Addr):It :=
  ⟨λi H=>∃xs x,qV K H a xs/\xs[i]?=some x,
   λi H v l=>∃T x,H T=none/\v = .ref T/\l=qG H T (.tup [.int i,x])/\∀xs,qV K H a xs->xs[i]?=some x,
   λi H=>∃xs,qV K H a xs/\xs.length<=i⟩
theorem NY{P:jo}{w:jt}{K:W.Frag}{C:List Expr}{k:Nat}{pos:Pos}(a e y:Addr) (G:e≠y) :
  J5 P w K (.Tuple C k pos) (Xi K a) [e,y] e (λi h=>(∃l,IsEnum h e y i l)/\h.IsListIter y a i) where
 mem:=by simp
 obj:=λi h st b n=>by
  obtain⟨⟨l,B⟩,o,ho,_,d⟩:=st;rcases ar.mp n with rfl|n
  .exact ⟨_,B,λv z=>by
    have z':Data.fields _=Data.cell v:=z;cases z'⟩
  .have e:b=y:=by simpa using n
   subst e;exact⟨o,ho,λv z=>by rw[d]at z;cases z⟩
 keep:=λi h h' st kp=>by
  obtain⟨⟨l,B⟩,r⟩:=st;exact⟨⟨l,kp e (by simp) _ B⟩,r.at λo q=>kp y (by simp) o q⟩
 item:=by
  intro X Q R S hc i nA s σ H E I M st U;subst Q R S;obtain⟨xs,x,O,Y⟩:=U;obtain⟨its,rv,p,hz⟩:=I.list O;obtain⟨u,hu,ru⟩:=rv.get Y;obtain⟨⟨l,B⟩,r⟩:=st;have hil:y<s.heap.objs.size:=by obtain⟨_,q,_⟩:=r;exact ae q
  have J:e<s.heap.objs.size:=ae B;refine wpAny_pyNext_enum_item B r p.isList (x:=u) (by simpa using hu) G λh1 he1 L ht1 hz1 hk1=>⟨_,rfl,?_⟩
  refine wpAny_letOwnedTupleGo_enum he1 λh2 he2 t=>?_
  replace t:fg e h1 h2:=t;have hn:H s.heap.objs.size=none:=I.hok.fresh (ai _);refine⟨.ref s.heap.objs.size,qG H s.heap.objs.size (.tup [.int i,x]),?_,rfl,⟨_,x,hn,rfl,rfl,λys hy=>by rw[I.list_inj hy O];exact Y⟩,⟨⟨_,by simpa using he2⟩,L.extBut t.extBut (Ne.symm G)⟩,λb n=>?_⟩
  .show L2.Inv X nA σ _ { s with heap:=h2,toks:=s.toks+1 }
   refine IG (s:=s) (fp:=[e,y]) I (λb o n q=>?_) M (ai _) ⟨by simp only[lCq,cg];rw[jy];decide,[.int i s.toks,u],.cons ⟨_,rfl⟩ (.cons ru .nil),_,t.extBut _ _ (aR J) ht1,rfl,_,rfl⟩
   have b1:b≠e:=λz=>n (by simp[z])
   exact t.extBut b o b1 (hk1 b o b1 (λz=>n (by simp[z])) q)
  .have hb2:b<s.heap.objs.size:=by
    rcases ar.mp n with rfl|n
    .exact J
    .have e:b=y:=by simpa using n
     subst e;exact hil
   rw[oz (aq hb2)];exact(M b n).1
 done:=by
  intro X Q R S hc i nA s σ H E I M st U;subst Q R S;obtain⟨xs,O,Y⟩:=U;obtain⟨its,rv,p,hz⟩:=I.list O;obtain⟨⟨l,B⟩,r⟩:=st;have hl:=rv.length;exact wpAny_pyNext_enum_end (I.ok.hd hc) B r p.isList (by simp;lia) λh1 eb=>⟨rfl,LN (t':=s.toks) (fp:=[e,y]) I (λb o n q=>eb b o (λz=>n (by simp[z])) q) M⟩
 self:=λ_ _ _ _ _ st h=>by
  obtain⟨⟨l,B⟩,_⟩:=st;exact wpAny_pyIter_enum B h
def XR(K:W.Frag) (a b:Addr):It :=
  ⟨λi H=>∃xs ys x y,qV K H a xs/\qV K H b ys/\xs[i]?=some x/\ys[i]?=some y,
   λi H v l=>∃T x y,H T=none/\v = .ref T/\l=qG H T (.tup [x,y])/\(∀xs,qV K H a xs->xs[i]?=some x)/\∀ys,qV K H b ys->ys[i]?=some y,
   λi H=>∃xs ys,qV K H a xs/\qV K H b ys/\(xs.length<=i∨ys.length<=i)⟩
structure Z5 (z TI TO i1 i2:Addr):Prop where
 a:TI≠z
 b:TO≠z
 c:i1≠z
 d:i2≠z
 e:TI≠TO
 f:TI≠i1
 g:TI≠i2
 h:TO≠i1
 i:TO≠i2
 j:i1≠i2
theorem Ug(n:Nat):Z5 (n+4) (n+2) (n+3) n (n+1) where
 a:=λ(q:n+2=n+4)=>by lia
 b:=λ(q:n+3=n+4)=>by lia
 c:=λ(q:n=n+4)=>by lia
 d:=λ(q:n+1=n+4)=>by lia
 e:=λ(q:n+2=n+3)=>by lia
 f:=λ(q:n+2=n)=>by lia
 g:=λ(q:n+2=n+1)=>by lia
 h:=λ(q:n+3=n)=>by lia
 i:=λ(q:n+3=n+1)=>by lia
 j:=λ(q:n=n+1)=>by lia
theorem QZ{P:jo}{w:jt}{K:W.Frag}{Y:List Expr}{k:Nat}{pos:Pos}(l1 l2 z TI TO r t:Addr) (d:Z5 z TI TO r t) :
  J5 P w K (.Tuple Y k pos) (XR K l1 l2) [z,TI,TO,r,t] z
   (λi h=>IsZip h z TI TO .none/\km h TI (.ref r) (.ref t)/\(∃a b,km h TO a b)/\h.IsListIter r l1 i/\h.IsListIter t l2 i) where
 mem:=by simp
 obj:=λi h st b l=>by
  obtain⟨M,n,⟨a,c,u⟩,⟨o1,q1,_,d1⟩,⟨o2,q2,_,d2⟩⟩:=st;simp only[ar,cK,or_false]at l;rcases l with rfl|rfl|rfl|rfl|rfl
  .exact ⟨_,M,λv x=>by
    have x':Data.fields _=Data.cell v:=x;cases x'⟩
  .exact ⟨_,n,λv x=>by
    have x':Data.seq _ _=Data.cell v:=x;cases x'⟩
  .exact ⟨_,u,λv x=>by
    have x':Data.seq _ _=Data.cell v:=x;cases x'⟩
  .exact ⟨o1,q1,λv x=>by rw[d1]at x;cases x⟩
  .exact ⟨o2,q2,λv x=>by rw[d2]at x;cases x⟩
 keep:=λi h h' st kp=>by
  obtain⟨M,n,⟨a,c,u⟩,h1,h2⟩:=st;exact⟨kp z (by simp) _ M,kp TI (by simp) _ n,⟨a,c,kp TO (by simp) _ u⟩,h1.at λo q=>kp r (by simp) o q,h2.at λo q=>kp t (by simp) o q⟩
 item:=by
  intro X hP Q hK hc i nA s σ H E I O st hg;subst hP Q hK;obtain⟨xs,ys,x,y,C,G,U,hy⟩:=hg;obtain⟨its1,R,p1,_⟩:=I.list C;obtain⟨its2,S,p2,_⟩:=I.list G;obtain⟨u1,hu1,ru1⟩:=R.get U;obtain⟨u2,hu2,ru2⟩:=S.get hy;obtain⟨M,n,⟨a,c,u⟩,h1,h2⟩:=st;have J:∀b∈[z,TI,TO,r,t],l1≠b:=λb l=>FW I C (O b l)
  have L:∀b∈[z,TI,TO,r,t],l2≠b:=λb l=>FW I G (O b l)
  have D:jY z TI TO r t l1 l2:=⟨d.a,d.b,d.c,d.d,d.e,d.f,d.g,d.h,d.i,d.j,J z (by simp),J TO (by simp),J r (by simp),J t (by simp),L z (by simp),L TO (by simp),L r (by simp),L t (by simp)⟩
  have hzl:z<s.heap.objs.size:=ae M;refine kR D M n u h1 h2 p1.isList p2.isList (x:=u1) (y:=u2) (by simpa using hu1) (by simpa using hu2) λg1 hz1 hTO1 g11 g12 hT1 hsz1 hk1=>⟨_,rfl,?_⟩
  refine wpAny_letOwnedTupleGo_zip hz1 λg2 hz2 B=>?_
  replace B:fg z g1 g2:=B;have hn:H s.heap.objs.size=none:=I.hok.fresh (ai _);refine⟨.ref s.heap.objs.size,qG H s.heap.objs.size (.tup [x,y]),?_,rfl,⟨_,x,y,hn,rfl,rfl,λws Q=>by rw[I.list_inj Q C];exact U,λws Q=>by rw[I.list_inj Q G];exact hy⟩,
   ⟨hz2,B.extBut _ _ d.a (hk1 _ _ d.a d.e d.f d.g n),⟨_,_,B.extBut _ _ d.b hTO1⟩,g11.extBut B.extBut d.c,g12.extBut B.extBut d.d⟩,λb l=>?_⟩
  .show L2.Inv X nA σ _ { s with heap:=g2,toks:=s.toks }
   refine IG (s:=s) (fp:=[z,TI,TO,r,t]) I (λb o l q=>?_) O (ai _) ⟨by simp only[lCq,cg];rw[jy];decide,[u1,u2],.cons ru1 (.cons ru2 .nil),_,B.extBut _ _ (aR hzl) hT1,rfl,_,rfl⟩
   have b1:b≠z:=λe=>l (by simp[e])
   exact B.extBut b o b1 (hk1 b o b1 (λe=>l (by simp[e])) (λe=>l (by simp[e])) (λe=>l (by simp[e])) q)
  .have hb2:b<s.heap.objs.size:=by
    have hb':=l;simp only[ar,cK,or_false]at hb';rcases hb' with rfl|rfl|rfl|rfl|rfl
    .exact hzl
    .exact ae n
    .exact ae u
    .obtain ⟨_,q,_⟩:=h1;exact ae q
    .obtain ⟨_,q,_⟩:=h2;exact ae q
   rw[oz (aq hb2)];exact(O b l).1
 done:=by
  intro X hP Q hK hc i nA s σ H E I O st hg;subst hP Q hK;obtain⟨xs,ys,C,G,U⟩:=hg;obtain⟨its1,R,p1,_⟩:=I.list C;obtain⟨its2,S,p2,_⟩:=I.list G;obtain⟨M,n,⟨a,c,u⟩,h1,h2⟩:=st;have J:∀b∈[z,TI,TO,r,t],l1≠b:=λb l=>FW I C (O b l)
  have L:∀b∈[z,TI,TO,r,t],l2≠b:=λb l=>FW I G (O b l)
  have D:jY z TI TO r t l1 l2:=⟨d.a,d.b,d.c,d.d,d.e,d.f,d.g,d.h,d.i,d.j,J z (by simp),J TO (by simp),J r (by simp),J t (by simp),L z (by simp),L TO (by simp),L r (by simp),L t (by simp)⟩
  have e1:=R.length;have e2:=S.length;refine mG (I.ok.hd hc) D M n u h1 h2 p1.isList p2.isList ?_ λg1 eb=>⟨rfl,LN (t':=s.toks) (fp:=[z,TI,TO,r,t]) I (λb o l q=>eb b o (λe=>l (by simp[e])) (λe=>l (by simp[e])) (λe=>l (by simp[e])) (λe=>l (by simp[e])) q) O⟩
  rcases U with U|U
  .exact .inl (by simp;lia)
  .exact .inr (by simp;lia)
 self:=λ_ _ _ _ _ st h=>kN st.1 h
section
variable {X:Cx}{elts:List Expr}{kk:Nat}{tpos:Pos}
def T9(K:W.Frag) (n:TA):TI:=λσ H R=>n σ H λvs l=>∃a,vs=[.ref a]/\(∃xs,qV K l a xs)/\R (Xi K a) l
theorem GZ{e:Expr}{y:TA}{p pos:Pos}(C:Gl X "enumerate") (E:X.mg "enumerate" = none) (G:PA X [e] y) (J:jv [e] X.env=[(false,eval e X.env)]:=by rfl) :
  PI X (.Tuple elts kk tpos) (.Call (.Name "enumerate" p) [e] [] pos) (T9 X.K y):=by
 intro L s σ H R I h;refine Call_ (vm I C E boot_enumerate (bo (sv (G pos L s σ H _ I h) λus l t=>?_) J rfl))
 obtain⟨vs,M,r,O,P⟩:=t;obtain⟨a,Q,⟨xs,S⟩,q⟩:=P;subst Q;obtain⟨u,rfl,U⟩:=wQ O;cases U;obtain⟨Y,rv,p1,hz⟩:=r.list S;refine call_enumerate_list p1.isList λg z x hsz hk=>wpAny_pyIter_enum z ?_
 refine⟨l.heap.objs.size+1,[l.heap.objs.size+1,l.heap.objs.size],_,_,M,rfl,r.kept (t':=l.toks) hk,NY a _ _ (Nat.succ_ne_self _),⟨⟨_,z⟩,x⟩,λb B=>?_,q⟩
 have n:l.heap.objs.size<=b:=by
  simp only[ar,cK,or_false]at B;rcases B with rfl|rfl
  .exact bR _
  .exact ai _
 exact r.fpOk n (r.hok.fresh n)
def XI(K:W.Frag) (n:TA):TI:=λσ H R=>n σ H λvs l=>∃a b,vs=[.ref a,.ref b]/\(∃xs,qV K l a xs)/\(∃ys,qV K l b ys)/\R (XR K a b) l
theorem Wx{e f:Expr}{C:TA}{p pos:Pos}(M:Gl X "zip") (O:X.mg "zip" = none) (P:PA X [e,f] C) (Q:jv [e,f] X.env=[(false,eval e X.env),(false,eval f X.env)]:=by rfl) (n:jv [f] X.env=[(false,eval f X.env)]:=by rfl) :
  PI X (.Tuple elts kk tpos) (.Call (.Name "zip" p) [e,f] [] pos) (XI X.K C):=by
 intro S s σ H R I h;refine Call_ (vm I M O boot_zip (bo (sv (P pos S s σ H _ I h) λus l ⟨vs,U,r,Y,q1⟩=>?_) (by rw[Q,n]) (by rw[n];rfl)))
 obtain⟨a,b,e1,⟨xs,x⟩,⟨ys,y⟩,q⟩:=q1;subst e1;obtain⟨u,v,rfl,ru,rv⟩:=LZ Y;cases ru;cases rv;obtain⟨E,_,p1,_⟩:=r.list x;obtain⟨G,_,p2,_⟩:=r.list y;refine call_zip_2 p1.isList p2.isList λg J z B h1 h2 hsz hk=>kN J ?_
 refine⟨l.heap.objs.size+4,[l.heap.objs.size+4,l.heap.objs.size+2,l.heap.objs.size+3,l.heap.objs.size,l.heap.objs.size+1],_,_,U,rfl,r.kept (t':=l.toks) hk,
  QZ a b _ _ _ _ _ (Ug l.heap.objs.size),⟨J,z,⟨_,_,B⟩,h1,h2⟩,λc L=>?_,q⟩
 have t:l.heap.objs.size<=c:=by
  simp only[ar,cK,or_false]at L;rcases L with rfl|rfl|rfl|rfl|rfl
  .exact dR _ _
  .exact dR _ _
  .exact dR _ _
  .exact ai _
  .exact dR _ _
 exact r.fpOk t (r.hok.fresh t)
end
theorem QV{K:W.Frag}{a:Addr}{xs:List V}{u z:Nat}{B:TS}{D:Av}{σ:St}{H:Hp}(l:Nat->St->Hp->Prop) (h0:l 0 σ H) (hl:∀i σ H,i<=xs.length->l i σ H->qV K H a xs)
  (E:∀i x σ H T,xs[i]?=some x->l i σ H->H T=none->B { D with nx:=l (i+1),ct:=l (i+1),bk:=D.nx } ((σ.set u (some (.int i))).set z (some x)) (qG H T (.tup [.int i,x]))) (hd:∀σ H,l xs.length σ H->D.nx σ H) :
  ∃W:Nat->Nat->St->Hp->Prop,(∃m,W 0 m σ H)/\∀i m σ H,W i m σ H ->
   ((Xi K a).stop i H/\D.nx σ H)∨((Xi K a).go i H/\∃N:St->Hp->Prop,(∀n r,N n r->∃C,C<m/\W (i+1) C n r)/\∀x r,(Xi K a).yld i H x r->Nk K 2 (zP (tm u) (zP (tm z) Ny)) x σ r λt G=>B { D with nx:=N,ct:=N,bk:=D.nx } t G):=by
 refine⟨λi m σ H=>m=xs.length-i/\i<=xs.length/\l i σ H,⟨xs.length,by simp,ba _,h0⟩,?_⟩
 rintro i m σ H ⟨rfl,I,p⟩;have q:=hl i σ H I p
 by_cases s:i<xs.length
 .refine .inr ⟨⟨xs,xs[i],q,by simp[s]⟩,l (i+1),λn r J=>⟨xs.length-(i+1),by lia,rfl,s,J⟩,λv r y=>?_⟩
  obtain⟨T,x,L,rfl,rfl,M⟩:=y;exact⟨T,_,rfl,EO.of oC,rfl,_,_,rfl,_,_,rfl,rfl,E i x σ H T (M xs q) p L⟩
 .have e:i=xs.length:=by lia
  subst e;exact .inl ⟨⟨xs,q,ai _⟩,hd σ H p⟩
theorem Tv{K:W.Frag}{a b:Addr}{xs ys:List V}{C E:Nat}{G:TS}{D:Av}{σ:St}{H:Hp}(l:Nat->St->Hp->Prop) (h0:l 0 σ H) (t:xs.length=ys.length)
  (hl:∀i σ H,i<=xs.length->l i σ H->qV K H a xs/\qV K H b ys)
  (J:∀i x y σ H T,xs[i]?=some x->ys[i]?=some y->l i σ H->H T=none->G { D with nx:=l (i+1),ct:=l (i+1),bk:=D.nx } ((σ.set C (some x)).set E (some y)) (qG H T (.tup [x,y]))) (hd:∀σ H,l xs.length σ H->D.nx σ H) :
  ∃W:Nat->Nat->St->Hp->Prop,(∃m,W 0 m σ H)/\∀i m σ H,W i m σ H ->
   ((XR K a b).stop i H/\D.nx σ H)∨((XR K a b).go i H/\∃N:St->Hp->Prop,(∀n r,N n r->∃I,I<m/\W (i+1) I n r)/\∀x r,(XR K a b).yld i H x r->Nk K 2 (zP (tm C) (zP (tm E) Ny)) x σ r λu L=>G { D with nx:=N,ct:=N,bk:=D.nx } u L):=by
 refine⟨λi m σ H=>m=xs.length-i/\i<=xs.length/\l i σ H,⟨xs.length,by simp,ba _,h0⟩,?_⟩
 rintro i m σ H ⟨rfl,M,p⟩;obtain⟨z,B⟩:=hl i σ H M p
 by_cases s:i<xs.length
 .refine .inr ⟨⟨xs,ys,xs[i],ys[i],z,B,by simp[s],by simp[t ▸ s]⟩,l (i+1),λn r O=>⟨xs.length-(i+1),by lia,rfl,s,O⟩,λv r y=>?_⟩
  obtain⟨T,x,y,P,rfl,rfl,Q,R⟩:=y;exact⟨T,_,rfl,EO.of oC,rfl,_,_,rfl,_,_,rfl,rfl,J i x y σ H T (Q xs z) (R ys B) p P⟩
 .have e:i=xs.length:=by lia
  subst e;exact .inl ⟨⟨xs,ys,z,B,.inl (ai _)⟩,hd σ H p⟩
section
variable {X:Cx}
theorem II{n:List (Addr×Obj)}{σ:St}{H:Hp}{s:Shared}{a:Addr}{ns:List Int}(I:Inv X n σ H s) (h:qV X.K H a (ns.map V.int)) :
  ∃vs:List Value,s.heap.IsList a vs.toArray/\jB vs ns/\ns.length<=jn:=by
 obtain⟨l,r,p,z⟩:=I.list h;rw[lMq]at z;exact⟨l,p.isList,xk r,z⟩
theorem FD(E:X.calm=true):xv X (.builtin "min") (λxs H Q=>∃(a:Addr) (ns:List Int),xs=[.ref a]/\qV X.K H a (ns.map V.int)/\0<ns.length/\∀M,M∈ns->(∀x,x∈ns->M<=x)->Q (.int M) H):=by
 intro R s σ H xs S Q I r h;obtain⟨a,ns,rfl,G,n,q⟩:=h;obtain⟨u,rfl,J⟩:=wQ r;cases J;obtain⟨U,hl,z,_⟩:=II I G;obtain⟨xs,e⟩:=z.allInts.items;have l:ns=xs.toList.map (·.1):=by
  rw[←z.numsOf,←nums_intItems,←e]
 have y:0<xs.size:=by
  have B:=n;rw[l,lMq,bI]at B;exact B
 rw[e]at hl;refine min_intList (I.ok.hd E) hl y λv Y tk L O=>?_
 obtain⟨t,rfl⟩:=intItems_at L;obtain⟨h1,h2⟩:=argBest_lt (numAt xs) (xs.size-1);refine⟨.int _,H,I.kept O,⟨t,rfl⟩,q _ ?_ λx C=>?_⟩
 .rw [l,numAt_eq];exact PySem.getD_mem (by rw[lMq,bI];lia)
 .rw [l]at C;obtain⟨j,P,rfl⟩:=PySem.mem_getD C;rw[lMq,bI]at P;rw[←numAt_eq];exact h2 j (by lia)
def P2(K:W.Frag):V->List V->Hp->VK->Prop:=λx vs H Q=>∃(a:Addr) (ns:List Int) (k:Int),x = .ref a/\vs=[.int k]/\qV K H a (ns.map V.int)/\k∈ns/\Q (.int (ns.idxOf k:Nat)) H
theorem DF:Yt X "list.index" (P2 X.K):=by
 intro nA s σ H x xs v us Q I R r h;obtain⟨a,C,k,rfl,rfl,S,U,q⟩:=h;cases R;obtain⟨u,rfl,t,rfl⟩:=wQ r;obtain⟨l,Y,⟨o,n,M,O,z,hd⟩,hz⟩:=I.list S;have E:=xk Y;obtain⟨cls,dd,P,sl⟩:=o;simp only at O z hd;subst O z hd;have B:=E.length;have G:C.idxOf k<C.length:=dN.mpr U;have hs:jn=16777216:=jy;rw[lMq]at hz;refine ki dW ⟨_,M,rfl⟩ PySem.F.entry_list_index (PySem.F.args_list_index_2 _ _)
  (SeqAt.list_indexAt a l.toArray n none sl (.int k t) (isInt k) (C.idxOf k) (by simpa [B] using G) (by lia) ?_ ?_) ⟨M,λy hy=>(eq_isInt k t E y (by simpa using hy)).at _ _,?_⟩
 .show isInt k l[C.idxOf k]=true;rw[isInt_at k E _ (by lia) G]
  simpa using fY G
 .intro j J L;show isInt k l[j]=false;rw[isInt_at k E j (by simpa using J) (by lia)]
  exact ne_of_lt_idxOf L _
 .exact ⟨.int _,H,I.tok _,⟨_,rfl⟩,q⟩
def X6(K:W.Frag) (x:V) (H:Hp) (T:String) (b:Bool):Prop :=
 match x with
 | .int _=>(T = "int" /\ b=true)∨(T = "bool" /\ b=false)
 | .bl _=>(T = "bool" /\ b=true)∨(T = "int" /\ b=true)
 | .str _=>T = "str" /\ b=true
 | .ref p=>(T = "list" /\ b=true/\∃xs,qV K H p xs)∨(T = "dict" /\ b=true/\∃kvs,H p=some (.dK kvs))∨(T = "tuple" /\ b=true/\∃xs,EO K H p xs)
 |_=>False
theorem zH:xv X (.builtin "isinstance") (λxs H Q=>∃x T b,xs=[x,.ty T]/\X6 X.K x H T b/\Q (.bl b) H):=by
 intro B s σ H xs P Q I r h;obtain⟨x,T,b,rfl,e,q⟩:=h;obtain⟨u,v,rfl,l,C⟩:=LZ r;cases C;cases x with
 |int i =>
  obtain⟨t,rfl⟩:=l;rcases e with ⟨rfl,rfl⟩|⟨rfl,rfl⟩
  .exact jO (jV (Tx := "int") F.isi_meta_int F.sub_int_int) ⟨(show s.TypeIs (.int i t) "int" from rfl),⟨.bl true,H,I,rfl,q⟩⟩
  .exact jO (isinstance_false_int (by decide +kernel) F.isi_meta_bool F.sub_int_bool) (show EP X B σ Q (.bool false) { s with toks:=s.toks+1 } from ⟨.bl false,H,I.tok _,rfl,q⟩)
 |bl i =>
  cases l;rcases e with ⟨rfl,rfl⟩|⟨rfl,rfl⟩
  .exact jO (jV (Tx := "bool") F.isi_meta_bool F.sub_bool_bool) ⟨(show s.TypeIs (.bool i) "bool" from rfl),⟨.bl true,H,I,rfl,q⟩⟩
  .exact jO (jV (Tx := "bool") F.isi_meta_int F.sub_bool_int) ⟨(show s.TypeIs (.bool i) "bool" from rfl),⟨.bl true,H,I,rfl,q⟩⟩
 |str i =>
  obtain⟨t,rfl⟩:=l;obtain⟨rfl,rfl⟩:=e;exact jO (jV (Tx := "str") F.isi_meta_str F.sub_str_str) ⟨(show s.TypeIs (.str i t) "str" from rfl),⟨.bl true,H,I,rfl,q⟩⟩
 |ref p =>
  cases l;rcases e with ⟨rfl,rfl,xs,n⟩|⟨rfl,rfl,y,E⟩|⟨rfl,rfl,xs,n⟩
  .obtain ⟨z,G,J,L⟩:=I.list n;exact jO (jV (Tx := "list") F.isi_meta_list (by rw[lx];kernel_rfl)) ⟨J.isList.typeIs,⟨.bl true,H,I,rfl,q⟩⟩
  .have ty:s.TypeIs (.ref p) "dict" := (Vv I (.inl ⟨y,.inl E⟩)).1;exact jO (jV (Tx := "dict") F.isi_meta_dict (by rw[lx];kernel_rfl)) ⟨ty,⟨.bl true,H,I,rfl,q⟩⟩
  .obtain ⟨z,G,⟨o,M,O,_⟩,L⟩:=I.tuple n;exact jO (jV (Tx := "tuple") F.isi_meta_tuple (by rw[lx];kernel_rfl)) ⟨⟨o,M,O⟩,⟨.bl true,H,I,rfl,q⟩⟩
 |_=>exact(show False from e).elim
end
end Mr
namespace Mr
open PySem L2
structure xJ (K:W.Frag) (mg:Str->Option Value) (x:Str) (st:Stmt) (ps:List Str) (f:Addr) (fd:jK):Prop where
 F:Up K x x st f fd
 m:mg x=some (.ref f)
 b:AI K fd ps []
theorem uS{H:Hp}{p:Addr}{o:HO}(h:H p=none):pJ H (qG H p o):=λb u e=>by
 rw[oz (ri e h)];exact e
variable {K:W.Frag}{h:Heap}{mg:Str->Option Value}{x z:Str}{st:Stmt}{f O:Addr}{fd:jK}
structure At (K:W.Frag) (x:Str) (st:Stmt) (f:Addr) (fd:jK):Prop where
 a:W.nsIn K jr x=some (some (.ref f))
 F:Up K x x st f fd
section
variable {oc kV doc pm tR ct:Value}{od an:Option Addr}{osl:Array (Option Value)}
theorem WZ(a:W.nsIn K jr x=some (some (.ref f))) (l:K.lookup f=some ⟨oc,od,.func (W.fnOf x x (wc st) (vz st) (nZ st) .none kV doc pm an tR ct),osl⟩)
  (c:W.codeIn K tR x=true) (k:W.keepIn K (.ref f)=true):At K x st f (W.fnOf x x (wc st) (vz st) (nZ st) .none kV doc pm an tR ct):=⟨a,JZ l c k⟩
end
abbrev BA(x q:Str) (st:Stmt) (ps:List Str) (us:List Value):Prop:=∀(kV l pm:Value) (n:Option Addr) (r ct:Value),bindArgs (W.fnOf x q (wc st) (vz st) (nZ st) .none kV l pm n r ct) ⟨us,[]⟩=pure (ps.zip us)
section
variable {q a b c d:Str}(F:Up K x q st f fd)
include F
theorem b1(h:∀u,BA x q st [a] [u]):AI K fd [a] []:=F.binds λ_ _ _ _ _ _ n hl=>by
 obtain - | ⟨u, - | ⟨v,l⟩⟩:=n <;> cases hl
 apply h
theorem b2(h:∀u v,BA x q st [a,b] [u,v]):AI K fd [a,b] []:=F.binds λ_ _ _ _ _ _ n hl=>by
 obtain - | ⟨u, - | ⟨v, - | ⟨w,l⟩⟩⟩:=n <;> cases hl
 apply h
theorem b3(h:∀u v w,BA x q st [a,b,c] [u,v,w]):AI K fd [a,b,c] []:=F.binds λ_ _ _ _ _ _ n hl=>by
 obtain - | ⟨u, - | ⟨v, - | ⟨w, - | ⟨y,l⟩⟩⟩⟩:=n <;> cases hl
 apply h
end
theorem yF{ps:List Str}(X:K.In h) (G:h.Ns jr mg) (a:At K x st f fd) (b:AI K fd ps []):xJ K mg x st ps f fd:=⟨a.F,W.mg_of X G a.a,b⟩
end Mr
namespace Mr
open PySem PySem.Spec PyProof.Rows L2
theorem Hj{prog:jo}{w:jt}{A:Around}{R:mE->Shared->Prop}{s:Shared}{J l iter:Expr}{L:List Expr}{scope:kF}{pos:Pos}{U M:Value}{env:Env}(I:Nat->Shared->Prop)
  (turn:∀n s,I n s->jj (jm prog w) A (kj U) (λr t=>match r with
   |none=>R (.ok .next) t
   |some v=>jj (jm prog w) A (kX l U v) (λ_ y=>jj (jm prog w) A (assign l env v) (λ_ B =>
     jj (jm prog w) A (forIn L true λc r=>if r=true then do let ok ←isTrue c env (eval c env);pure (ForInStep.yield ok) else pure (ForInStep.yield r)) (λok u =>
      if ok=true then jj (jm prog w) A (eval J env) (λx C =>
       jj (jm prog w) A (call (.builtin "list.append") [M,x]) (λ_ E=>∃m,m<n/\I m E) (λ_ _=>False) C) (λ_ _=>False) u
      else ∃m,m<n/\I m u) (λ_ _=>False) B) (λ_ _=>False) y) (λ_ _=>False) t) (λ_ _=>False) s)
  (n:Nat) (h:I n s):kr (jm prog w) A (.compLoop (.ListComp J [⟨l,iter,L,0⟩] scope pos) 0 U M env) R s:=by
 refine codeAny_loop rfl I (λn s X=>?_) n h
 show jj _ A ((compTurn (.ListComp J [⟨l,iter,L,0⟩] scope pos) 0 U M env).onRaise (λx=>do noteFrame x env;theTreesLotGoes x)) _ _ s
 refine wpAny_noted ?_;rw[compTurn_list];refine ji (wpAny_standAt (ji (jF (turn n s X) (λr t G=>?_) λ_ _ z=>z.elim)))
 cases r with
 |none=>exact jk G
 |some v =>
  refine ji (jF G (λ_ y O=>?_) λ_ _ z=>z.elim)
  refine ji (jF O (λ_ B P=>?_) λ_ _ z=>z.elim)
  refine ji (jF P (λok u H=>?_) λ_ _ z=>z.elim)
  cases ok with
  |false=>exact jk ⟨rfl,H⟩
  |true=>exact ji (ji (jF H (λx C Q=>ji (jF Q (λ_ E S=>jk (jk ⟨rfl,S⟩)) λ_ _ z=>z.elim)) λ_ _ z=>z.elim))
abbrev ua(X:Cx) (scope:kF) (cl:List (Str×Addr)) (N:List Str) (C:Addr) (s:Shared) (H:Hp) (fp:List Addr):Cx where
 prog:=X.prog
 w:=X.w
 K:=X.K
 mg:=X.mg
 base:=X.base
 A:=X.A
 N:=N
 s₀:=s
 H₀:=H
 env:=compEnvC scope cl C X.env
 outer:=X.stack
 stack:=X.stack
 ex:=fp
 fn:=λ_=>false
 calm:=X.calm
 pn:=[]
 xe:=λ_ _=>False
def PF(X:Cx) (l:List Expr) (t:TT):Prop :=
 ∀(n:List (Addr×Obj)) (s:Shared) (σ:St) (H:Hp) (Q:Bool->Hp->Prop),Inv X n σ H s->t σ H Q ->
  jj (jm X.prog X.w) X.A (forIn l true λc r=>if r=true then do let ok ←isTrue c X.env (eval c X.env);pure (ForInStep.yield ok) else pure (ForInStep.yield r)) (TP X n σ Q) X.xe s
def WS:TT:=λ_ H Q=>Q true H
theorem tK{X:Cx}:PF X [] WS:=λ_ _ _ H _ I h=>wpAny_tests_nil ⟨H,I,h⟩
theorem KN{X:Cx}{c:Expr}{t:TT}(h:PT X c t):PF X [c] t:=λl s σ H Q I q=>wpAny_tests_one (h l s σ H Q I q)
structure rV (X:Cx) (scope:kF) (cl:List (Str×Addr)) (x:Str) (N:List Str) (fr:List Nat):Prop where
 names:N.Nodup
 own:N[0]?=some x
 len:N.length=fr.length+1
 sub:∀y c,cl.lookup y=some c->X.env.cells.lookup y=some c
 has:∀y,((lA scope X.env).names.lookup y=some .cell∨(lA scope X.env).names.lookup y=some .free)->∃c,cl.lookup y=some c
 get:∀(k j:Nat) (y:Str),fr[k]?=some j->N[k+1]?=some y->X.N[j]?=some y/\X.env.scope.names.lookup y=some .cell/\(lA scope X.env).names.lookup y=some .cell
theorem rV.none{X:Cx}{scope:kF}{x:Str}(h:∀p∈scope.names,p.2 ≠ .cell/\p.2 ≠ .free):rV X scope [] x [x] [] where
 names:=by simp
 own:=rfl
 len:=rfl
 sub:=λy c e=>by cases e
 has:=λy e=>by
  exfalso;have key:∀p∈(lA scope X.env).names,p.2 ≠ .cell/\p.2 ≠ .free:=by
   intro p l;obtain⟨q,r,rfl⟩:=mMq.mp l;obtain⟨n,k⟩:=q;obtain⟨h1,h2⟩:=h _ r;have s:(k == NameKind.free)=false:=by simpa using h2
   simp only[s,iK];exact⟨h1,h2⟩
  rcases e with e|e
  .exact (key _ (PySem.mem_of_lookup e)).1 rfl
  .exact (key _ (PySem.mem_of_lookup e)).2 rfl
 get:=λk j y e _=>by cases e
def slots(σ:St) (fr:List Nat):St:=fr.map λj=>(σ[j]?).join
def LF(z:TI) (fr:List Nat) (tf:TT) (te:TE):TE:=λσ H Q=>z σ H λJ r=>∀l,r l=none->∃W:Nat->Nat->Hp->Prop,(∃m,W 0 m (qG r l (.lst [])))/\∀i m H,W i m H ->
 (J.stop i H/\Q (.ref l) H) ∨
 (J.go i H/\∃N:Hp->Prop,(∀n,N n->∃s,s<m/\W (i+1) s n)/\∀x n,J.yld i H x n->tf (some x::slots σ fr) n λb t =>
  if b=true then te (some x::slots σ fr) t λy u=>∃ys,u l=some (.lst ys)/\ys.length<jn/\N (qG u l (.lst (ys++[y]))) else N t)
section
variable {X:Cx}{scope:kF}{cl:List (Str×Addr)}{N:List Str}{fr:List Nat}{x:Str}{px pos:Pos}{elt iter:Expr}{ifs:List Expr}{tf:TT}{te:TE}
theorem Ec{nA:List (Addr×Obj)}{σ:St}{H:Hp}{s:Shared}{E:Value->Shared->Prop}{J:It}{fp:List Addr}{it:Addr}{tn:Nat->Heap->Prop}{RR:Value->Addr->mE->Shared->Prop}{Q:VK}
  (hc:X.calm=true) (hcell:∀y∈scope.names,y.2 ≠ .cell) (hkind:scope.kind = .function) (hx:scope.names.lookup x=some .local) (Y:rV X scope cl x N fr)
  (hf:∀C s H fp,PF (ua X scope cl N C s H fp) ifs tf) (he:∀C s H fp,PE (ua X scope cl N C s H fp) elt te)
  (I:Inv X nA σ H s) (T:J5 X.prog X.w X.K (.Name x px) J fp it tn) (st:tn 0 s.heap) (P:∀b∈fp,CT X nA H b)
  (h:∀M,H M=none->∃W:Nat->Nat->Hp->Prop,(∃m,W 0 m (qG H M (.lst [])))/\∀i m H,W i m H ->
   (J.stop i H/\Q (.ref M) H) ∨
   (J.go i H/\∃N:Hp->Prop,(∀S,N S->∃m',m'<m/\W (i+1) m' S)/\∀x S,J.yld i H x S->tf (some x::slots σ fr) S λb H2 =>
    if b=true then te (some x::slots σ fr) H2 λy H3=>∃ys,H3 M=some (.lst ys)/\ys.length<jn/\N (qG H3 M (.lst (ys++[y]))) else N H2))
  (fin:∀M C s' Hf m,Inv X nA σ Hf s'->s'.heap.Ns C m->CT X nA Hf C->Q (.ref M) Hf->RR (.ref M) C (.ok .next) s') :
  jj (jm X.prog X.w) X.A (newList []) (λM U=>jj (jm X.prog X.w) X.A (newFunctionEnv scope X.env.globals cl [] X.env.qual none .none (some X.env)) (λcenv s₄ =>
   kr (jm X.prog X.w) X.A (.compStart (.ListComp elt [⟨.Name x px,iter,ifs,0⟩] scope pos) 0 (.ref it) M { cenv with scope:=lA scope X.env }) (RR M cenv.locals) s₄) E U) E s:=by
 refine wpAny_newObj_type (wpAny_newFunctionEnv hcell (by intro y hy;simp at hy) (λO R L=>?_) hkind)
 dsimp only at R L ⊢;generalize hG:s.heap.push { cls:=.type "list", dict:=none,data:=.seq ([]:List Value).toArray }=G at R L ⊢;have hC:G.objs.size=s.heap.objs.size+1:=by rw[←hG,iN]
 have hCle:s.heap.objs.size<=G.objs.size:=by rw[hC];exact bR _
 have hDC:s.heap.objs.size≠G.objs.size:=by rw[hC];exact aq (fA _)
 have below:∀b,b<s.heap.objs.size->b≠G.objs.size:=λb t=>by rw[hC];exact aq (bX t)
 have old:∀b o,s.heap.get? b=some o->O.get? b=some o:=λb o e=>L.extBut b o (below b (ae e)) (aj _ (hG ▸ aj _ e))
 have hacc:O.get? s.heap.objs.size=some { cls:=.type "list", data:=.seq ([]:List Value).toArray }:=L.extBut _ _ hDC (aj _ (hG ▸ aL _ rfl));have hn:H s.heap.objs.size=none:=I.hok.fresh (ai _);have hnC:H G.objs.size=none:=I.hok.fresh hCle;have fpl:∀b∈fp,b<s.heap.objs.size:=λb t=>by
  obtain⟨o,q,_⟩:=T.obj 0 _ st b t;exact ae q
 obtain⟨W,⟨m0,w0⟩,turn⟩:=h _ hn;have ok':(ua X scope cl N G.objs.size s H fp).Ok:=by
  refine⟨I.ok.mod,by show (lA scope X.env).kind = .function;exact hkind,I.ok.glob,I.ok.blt,hCle,λy z c h1 h2=>I.ok.inj y z c (Y.sub y c h1) (Y.sub z c h2),Y.has,λ_ _ z _=>(by cases z),I.ok.hd,I.ok.frames,.inl rfl,
   λb t=>⟨below b (fpl b t),λy c e=>(P b t).2.2.2.2.1 y c (Y.sub y c e)⟩,λb o e=>⟨(I.bs b o e).1,(I.bs b o e).2⟩,bw I.ok.bsz I.sz,λb o e t=>?_,λb t z=>?_,I.stack,I.stkFree⟩
  .rcases (P b t).2.2.2.1 with q|q
   .exact I.ok.noex b o e q
   .exact absurd (aV (ae (I.ok.bs b o e).1) q) (bV _)
  .rcases ar.mp (I.stkSub b z) with q|q
   .exact (P b t).2.1 q
   .exact (P b t).2.2.1 q
 have I0:Inv (ua X scope cl N G.objs.size s H fp) [] (none::slots σ fr) (qG H s.heap.objs.size (.lst [])) { s with heap:=O,toks:=s.toks+([]:List (Str×Value)).length }:=by
  have hok1:Be X.prog X.w (qG H s.heap.objs.size (.lst [])) O:=I.hok.laid old (ai _) ⟨ba _,[],0,.nil,hacc⟩;refine⟨ok',rfl,I.bare,Un.laid old (ai _) hn,⟨_,R,λk y v e1 e2 e3=>?_⟩,λy c e=>?_,?_,λy c e=>?_,λp hp=>absurd (show p∈([]:List (Addr×Obj)) from hp) (by simp),hok1,?_⟩
  .cases k with
   |zero=>cases e2
   |succ k =>
    have e2':(slots σ fr)[k]?=some (some v):=e2;unfold slots at e2';rw[gMq]at e2';cases ej:fr[k]? with
    |none=>rw[ej]at e2';cases e2'
    |some j =>
     rw[ej]at e2';have e2j:(σ[j]?).join=some v:=aT.inj e2';have e2s:σ[j]?=some (some v):=by
      cases q:σ[j]? with
      |none=>rw[q]at e2j;cases e2j
      |some z=>rw[q]at e2j;exact congrArg some e2j
     obtain⟨g1,g2,g3⟩:=Y.get k j y ej e1;obtain⟨m,_,hl⟩:=I.loc;obtain⟨u,r,l⟩:=hl j y v g1 e2s (.inr (.inl g2));refine⟨u,r,.inr ⟨.inl g3,?_⟩⟩;obtain⟨c,e⟩:=Y.has y (.inl g3);have e':=Y.sub y c e;rcases l with ⟨l1,_⟩|⟨_,c',ec,hcell'⟩
     .have l1':X.env.scope.names.lookup y=some .local:=l1;rw[g2]at l1';cases l1'
     .rw [e']at ec;cases ec;obtain⟨o,ho,hd⟩:=hcell';exact⟨c,e,o,old c o ho,hd⟩
  .obtain ⟨v,o,ho,hd⟩:=I.cell y c (Y.sub y c e);exact⟨v,o,old c o ho,hd⟩
  .show qG H s.heap.objs.size (.lst []) G.objs.size=none;rw[oz (Ne.symm hDC)];exact hnC
  .obtain ⟨v,o,ho,hd⟩:=I.cell y c (Y.sub y c e);rw[oz (aq (ae ho))];exact I.freeC y c (Y.sub y c e)
  .show (none::slots σ fr).length=N.length;rw[Y.len,lCq];unfold slots;rw[lMq]
 have Yy:tn 0 O:=T.keep 0 _ _ st λb _ o e=>old b o e
 have nd:N.Nodup:=Y.names;have nf0:∀b∈fp,qG H s.heap.objs.size (.lst []) b=none:=λb t=>by
  rw[oz (aq (fpl b t))];exact(P b t).1
 have stat:∀{S:Hp},(∀b∈fp,S b=none)->∀b∈fp,CT (ua X scope cl N G.objs.size s H fp) [] S b:=λhn' b t =>
  ⟨hn' b t,below b (fpl b t),ok'.exfs b t,.inl t,λy c e=>(ok'.exf b t).2 y c e,λp hp=>absurd (show p∈([]:List (Addr×Obj)) from hp) (by simp)⟩
 have loop:∀U:Shared,U={ s with heap:=O,toks:=s.toks+([]:List (Str×Value)).length } ->
   kr (jm X.prog X.w) X.A (.compLoop (.ListComp elt [⟨.Name x px,iter,ifs,0⟩] scope pos) 0 (.ref it) (.ref s.heap.objs.size) (compEnvC scope cl G.objs.size X.env)) (RR (.ref s.heap.objs.size) G.objs.size) U:=by
  rintro U rfl;refine Hj (λn s'=>∃i v0 S,Inv (ua X scope cl N G.objs.size s H fp) [] (v0::slots σ fr) S s'/\tn i s'.heap/\(∀b∈fp,S b=none)/\W i n S) ?_ m0 ⟨0,none,_,I0,Yy,nf0,w0⟩
  rintro n s4 ⟨i,v0,H4,I4,Yu,nf4,w4⟩;rcases turn i n H4 w4 with ⟨stop,q⟩|⟨go,Nx,hNx,step⟩
  .refine sv (T.done (ua X scope cl N G.objs.size s H fp) rfl rfl rfl hc i [] s4 (v0::slots σ fr) H4 (λ_ _=>False) I4 (stat nf4) Yu stop) λr s5 B=>?_
   obtain⟨hr,I5⟩:=B;subst hr;obtain⟨m,hm,_⟩:=I5.loc;have I6:Inv X nA σ H4 s5:=I.call' (ch:=fp) I5.os I5.base I5.hok I5.bare λb t=>⟨(P b t).2.2.2.1,(P b t).2.1,(P b t).2.2.2.2.1,(P b t).2.2.2.2.2⟩
   exact fin _ _ s5 H4 m I6 hm (I.fpOk hCle I5.free) q
  .refine sv (T.item (ua X scope cl N G.objs.size s H fp) rfl rfl rfl hc i [] s4 (v0::slots σ fr) H4 (λ_ _=>False) I4 (stat nf4) Yu go) λr s5 B=>?_
   obtain⟨u,hr,h5⟩:=B;subst hr;refine sv h5 λ_ s6 B=>?_
   obtain⟨y,H6,I6,r6,y6,st6,nf6⟩:=B;have I6':=I6.pinned (stat nf6) (T.obj _ _ st6);have pg:PG (ua X scope cl N G.objs.size s H fp) (.Name x px) (tm 0):=oP nd Y.own (.inl (mI hx)) (.inr (mI hx));refine sv (pg _ s6 (v0::slots σ fr) H6 y u (λσ2 H2=>σ2=some y::slots σ fr/\H2=H6) I6' r6 ⟨rfl,rfl⟩) λ_ s7 B=>?_
   obtain⟨σ7,H7,I7,e7,e8⟩:=B;subst e7 e8;refine sv (hf _ _ _ _ _ s7 _ _ _ I7 (step y _ y6)) λb s8 B=>?_
   obtain⟨H8,I8,q8⟩:=B;have again:∀{s9:Shared}{H9:Hp},Inv (ua X scope cl N G.objs.size s H fp) ([]++D0 fp s6.heap) (some y::slots σ fr) H9 s9->Nx H9->∃m,m<n/\∃i v0 S,Inv (ua X scope cl N G.objs.size s H fp) [] (v0::slots σ fr) S s9/\tn i s9.heap/\(∀b∈fp,S b=none)/\W i m S:=λ{s9 H9} I9 n9=>by
    obtain⟨m',hm,w9⟩:=hNx H9 n9;refine⟨m',hm,i+1,some y,H9,I9.unpinned,T.keep _ _ _ st6 λb t o e=>(I9.pin (b,o) (aC _ (aC _ (yL t e)))).1,λb t=>?_,w9⟩
    obtain⟨o,e,d⟩:=T.obj _ _ st6 b t;exact(I9.pin (b,o) (aC _ (aC _ (yL t e)))).2.1
   cases b with
   |false=>exact again I8 q8
   |true =>
    refine sv (he _ _ _ _ _ s8 _ _ _ I8 q8) λz s9 B=>?_
    obtain⟨zv,H9,I9,r9,ys,a9,l9,n9⟩:=B;refine sv (pZ (X:=ua X scope cl N G.objs.size s H fp) _ s9 _ H9 (.ref s.heap.objs.size) [zv] (.ref s.heap.objs.size) [z] (λ_ S=>S=qG H9 s.heap.objs.size (.lst (ys++[zv]))) I9 rfl (.cons r9 .nil) ⟨_,ys,zv,rfl,rfl,a9,l9,rfl⟩) λ_ s10 B=>?_
    obtain⟨_,H10,I10,_,e10⟩:=B;subst e10;exact again I10 n9
 exact codeAny_compStart_list (loop _ rfl) (T.self X.A 0 _ _ _ Yy (loop _ rfl))
theorem rH{B:TI}(G:X.calm=true) (r:closureFor scope X.env=pure cl) (t:∀y∈scope.names,y.2 ≠ .cell) (l:scope.kind = .function) (n:∀y∈scope.names,y.2 = .local->scope.names.lookup y.1=some .local)
  (L:scope.names.lookup x=some .local) (M:rV X scope cl x N fr) (O:PI X (.Name x px) iter B) (P:∀C s H fp,PF (ua X scope cl N C s H fp) ifs tf) (R:∀C s H fp,PE (ua X scope cl N C s H fp) elt te)
  (S:∀x,lF iter X.env x=pure x:=by intro _;rfl):PE X (.ListComp elt [⟨.Name x px,iter,ifs,0⟩] scope pos) (LF B fr tf te):=by
 intro E s σ H Q I h;rw[eval_ListComp];refine lK (use:=none) rfl S r l n (sv (O E s σ H _ I h) λv s1 h1=>sv h1 λU s2 h2=>?_)
 obtain⟨it,fp,tn,J,H2,e,Y,T,He,f2,q2⟩:=h2;subst e;refine Ec (RR:=λu C=>compPost (jm X.prog X.w) X.A X.xe none (EP X E σ Q) u C) G t l L M P R Y T He f2 q2 ?_
 intro u C s' Hf m I' hm z q;refine⟨m,hm,λh' sb=>⟨.ref u,Hf,?_,rfl,q⟩⟩
 exact I'.turned (t':=s'.toks) (λb o hb e=>(sb.2 b hb).trans e) z.1 z.2.1 z.2.2.2.1 z.2.2.2.2.1 z.2.2.2.2.2
theorem FX{wi:TI}{y:Str}{i:Nat}{py B:Pos}(hc:X.calm=true) (hN:X.N.Nodup) (R:X.N[i]?=some y) (hy:WD X.env.scope y) (E:closureFor scope X.env=pure cl) (G:∀y∈scope.names,y.2 ≠ .cell) (l:scope.kind = .function)
  (n:∀y∈scope.names,y.2 = .local->scope.names.lookup y.1=some .local)
  (hx:scope.names.lookup x=some .local) (hF:rV X scope cl x N fr) (hi:PI X (.Name x px) iter wi) (hf:∀C s H fp,PF (ua X scope cl N C s H fp) ifs tf) (he:∀C s H fp,PE (ua X scope cl N C s H fp) elt te)
  (S:mR (.ListComp elt [⟨.Name x px,iter,ifs,0⟩] scope pos) (some (.Name y py)) B.line X.env=pure true:=by rfl) (hs:∀x,lF iter X.env x=pure x:=by intro _;rfl)
  (U:X.fn y=true∨X.env.scope.names.lookup y=some .local:=by trivial) :
  PS X (.Assign [.Name y py] (.ListComp elt [⟨.Name x px,iter,ifs,0⟩] scope pos) B) (Km (LF wi fr tf te) (tm i)):=by
 intro O s σ H D I h;rw[exec_Assign_Name_used _ _ _ _ S];refine ji (wpAny_standAt (ji ?_));show jj _ X.A (do let _ ←comprehension (.ListComp elt [⟨.Name x px,iter,ifs,0⟩] scope pos) scope X.env _ (newList []) false (eval iter X.env) (some (assign (.Name y py) X.env))) _ _ s
 refine ji (jF (lK (use:=some (assign (.Name y py) X.env)) (Q:=λ_ L=>SP X O D .next L) rfl hs E l n
  (sv (hi O s σ H _ I h) λv s1 h1=>sv h1 λitv s2 h2=>?_)) (λ_ L hq=>jk (jk hq)) λ_ _ e=>e)
 obtain⟨it,fp,tn,J,H2,e,P,T,He,f2,Y⟩:=h2;subst e;refine Ec (RR:=λt C=>compPost (jm X.prog X.w) X.A X.xe (some (assign (.Name y py) X.env)) (λ_ L=>SP X O D .next L) t C) (Q:=λv H'=>D.nx (σ.set i (some v)) H') hc G l hx hF hf he P T He f2 Y ?_
 intro t C L Hf m I' hm M q;obtain⟨o,es,ep,ho,hd,r⟩:=id hm;have I1:Inv X (O++[(C,o)]) σ Hf L:=I'.pins_of λp hp=>(mAq.mp hp).elim (λz=>I'.pin p (aC _ z)) λz=>by
  have e:p=(C,o):=by simpa using z
  subst e;exact⟨ho,M.1,M.2.1,M.2.2.1,λv z=>by rw[hd]at z;cases z⟩
 refine sv (oP (X:=X) (i:=i) (pos:=py) hN R hy U _ L σ Hf (.ref t) (.ref t) _ I1 rfl q) λ_ s2 hz1=>?_
 obtain⟨σ2,H2,P,Y⟩:=hz1;have pC:=P.pin (C,o) (aC _ (aC _ (by simp)))
 refine⟨m,⟨o,es,ep,pC.1,hd,r⟩,λh' sb=>⟨σ2,H2,?_,Y⟩⟩
 exact P.unpinned.turned (t':=s2.toks) (λb u hb e=>(sb.2 b hb).trans e) pC.2.1 M.2.1 M.2.2.2.1 M.2.2.2.2.1 M.2.2.2.2.2
end
end Mr
namespace MrS
open PySem PyProof.Rows
section
variable {prog:jo}{w:jt}{A:Around}{E:Value->Shared->Prop}{s:Shared}{Pk:jq->Prop}{lt:jq->jq->Bool}
noncomputable abbrev qX(h:Heap) (a:Addr) (vs:List Value):Heap:=((h.update a (Obj.mapSeq λ_=>#[])).push (ju "tuple" vs.toArray 0)).push (ju "list" #[] 0)
theorem C3{h:Heap}{a:Addr}{xs:Array Value}{n:Nat}(vs:List Value) (t:h.get? a=some (ju "list" xs n)):∃l,(qX h a vs).get? a=some (ju "list" #[] l):=by
 have u:a<h.objs.size:=ae t;obtain⟨l,r⟩:∃l,(h.update a (Obj.mapSeq λ_=>#[])).get? a=some (ju "list" #[] l):=⟨_,jW t (λ_=>#[])⟩
 refine⟨l,?_⟩;rw[dB _ _ _ (by rw[kZ,bL];exact aq (bX u)),dB _ _ _ (by rw[bL];exact aq u)]
 exact r
theorem Df{h:Heap}{a:Addr}{xs:Array Value}{n:Nat}(ys:Array Value) (l:h.get? a=some (ju "list" xs n)):∃r,(h.update a (Obj.mapSeq λ_=>ys)).get? a=some (ju "list" ys r):=⟨_,jW l (λ_=>ys)⟩
theorem uH{vs:List Value}{x:jq}(h:x∈jH vs):x.1∈vs/\x.2=x.1:=by
 obtain⟨i,n,e⟩:=Array.mem_iff_getElem.mp h;have l:i<vs.length:=by rw[jM]at n;exact n
 have:x=(vs[i],vs[i]):=by
  rw[←e];simp[jH]
 rw[this];exact⟨gRq l,rfl⟩
theorem xo{vs:List Value}{xs:Array jq}(r:xs.Perm (jH vs)) (u:Dq lt xs 0 (jH vs).size) :
  (xs.map (·.2)).toList.Perm vs/\(xs.map (·.2)).toList.Pairwise (λx y=>lt (y,y) (x,x)=false):=by
 constructor
 .have:=r.toList.map (·.2);have e:(jH vs).toList.map (·.2)=vs:=by
   have:(jH vs).toList=vs.zip vs:=by simp[jH]
   rw[this];apply iB
   .simp
   .intro i h1 h2;simp
  rw[e]at this;rw[Array.toList_map];exact this
 .rw [eV];intro i j B C t;have n:i<xs.size:=by simpa using B
  have l:j<xs.size:=by simpa using C
  have z:=u i j xs[i] xs[j] (ba _) (bZ t) (by rw[←r.size_eq];exact l) (by simp[n]) (by simp[l])
  have G:=uH (r.mem_iff.mp (iu n));have H:=uH (r.mem_iff.mp (iu l));have I:xs[i]=(xs[i].2,xs[i].2):=gI G.2.symm rfl;have J:xs[j]=(xs[j].2,xs[j].2):=gI H.2.symm rfl;rw[I,J]at z;simpa using z
end
end MrS
namespace HT
open PySem PyProof.Rows
section
open PySem.SeqAt
open PySem.AutoSeq1 (wpAny_loadPart')
open PySem.MeetsSeq PySem.MeetsSeq2 PySem.MeetsSeq3 PySem.SeqRoads2
theorem Ia{vs:List Value}{ns:List Int}(h:jB vs ns):∀{i:Nat}(l:i<vs.length),∃(z:Int) (t:Tok),vs[i] = .int z t/\ns.drop i=z::ns.drop (i+1):=by
 induction h with
 |nil=>intro i l;exact absurd l (bK _)
 |cons a t _ n =>
  intro i l;cases i with
  |zero=>exact⟨a,t,rfl,rfl⟩
  |succ i=>exact n (i:=i) (by simpa using l)
theorem Gz(l b:Addr) (items items2:Array Value) (n U:Nat) (dd H:Option Addr) (sl I:Array (Option Value)) (ns ms:List Int) (P:jB items.toList ns) (Q:jB items2.toList ms) (k:Nat) :
  ∀i:Nat,min items.size items2.size-i=k->i<=items.size->i<=items2.size->Meets (Builtin.«list.__eq__.loop» ⟨[.ref l,.ref b,mD i,mD 0],[]⟩)
   (λ_ R s=>s.heap.get? l=some { cls:=.type "list", dict:=dd,data:=.seq items n,slots:=sl }/\s.heap.get? b=some { cls:=.type "list", dict:=H,data:=.seq items2 U,slots:=I } /\
    R (.ok (.ret (.bool (qw (ns.drop i) (ms.drop i))))) s):=by
 have z1:ns.length=items.size:=by rw[←P.length];simp
 have z2:ms.length=items2.size:=by rw[←Q.length];simp
 induction k with
 |zero =>
  intro i X h1 h2 prog w A R s h;obtain⟨J,g,d,L,os⟩:=s;obtain⟨hl,E,h⟩:=h
  wp_walk using wpAny_loadPart' hl,wpAny_loadPart' E
  have M:qw (ns.drop i) (ms.drop i)=decide (items.size<items2.size):=by
   by_cases c:i=items.size
   .have Y:ns.drop i=[]:=bz (by lia)
    rw[Y]
    by_cases S:i<items2.size
    .rw [aX (by lia:i<ms.length),zU]
     exact(decide_eq_true (by lia)).symm
    .rw [bz (by lia:ms.length<=i),Ax]
     exact(decide_eq_false (by lia)).symm
   .have S:i=items2.size:=by lia
    rw[aX (by lia:i<ns.length),bz (by lia:ms.length<=i),zI]
    exact(decide_eq_false (by lia)).symm
  rw[M]at h
  by_cases c:i=items.size
  .have r:items[((i:Nat):Int).toNat]?=none:=by simp;lia
   rw[r]
   wp_walk using wpAny_loadPart' hl,wpAny_loadPart' E
   exact h
  .have S:i=items2.size:=by lia
   have r:items[((i:Nat):Int).toNat]?=some (items[i]'(by lia)):=by simp
   have z:items2[((i:Nat):Int).toNat]?=none:=by simp;lia
   rw[r,z]
   wp_walk using wpAny_loadPart' hl,wpAny_loadPart' E
   exact h
 |succ k ih =>
  intro i X h1 h2 prog w A R s h;obtain⟨J,g,d,L,os⟩:=s;obtain⟨hl,E,h⟩:=h
  wp_walk using wpAny_loadPart' hl,wpAny_loadPart' E
  have G:i<items.size:=by lia
  have B:i<items2.size:=by lia
  obtain⟨x,t,ex,dx⟩:=Ia P (i:=i) (by simpa using G)
  obtain⟨y,u,ey,dy⟩:=Ia Q (i:=i) (by simpa using B)
  have r:items[((i:Nat):Int).toNat]?=some (.int x t):=by
   rw[←ex];simp[G]
  have z:items2[((i:Nat):Int).toNat]?=some (.int y u):=by
   rw[←ey];simp[B]
  have hc:((i:Int)+1)=((i+1:Nat):Int):=by push_cast;rfl
  rw[dx,dy,uv]at h;rw[r,z];obtain⟨e,he,C⟩:=Ji A.in1 ⟨J,g,d,L,os⟩ x t y u;refine ji (he prog w _ _ ?_);cases e with
  |true =>
   rw[pQ (C.mp rfl)]at h
   wp_walk
   rw[hc];exact⟨jJ plain_eq_loop _,jz entry_eq_loop (by
    rw[Around.under_plainId plain_eq_loop _];exact ih (i+1) (by lia) (by lia) (by lia) prog w A R _ ⟨hl,E,h⟩)⟩
  |false =>
   rw[qk (λq=>absurd (C.mpr q) aW)]at h
   have O:=IQ A.in1 ⟨J,g,d,L,os⟩ x t y u prog w
   wp_walk using wpAny_loadPart' hl,wpAny_loadPart' E
   rw[r,z]
   wp_walk using O
   exact h
theorem Gd(l b:Addr) (items items2:Array Value) (n u:Nat) (dd r:Option Addr) (sl t:Array (Option Value)) (ns ms:List Int) (y:jB items.toList ns) (z:jB items2.toList ms) :
  Meets (Builtin.«list.__lt__» ⟨[.ref l,.ref b],[]⟩)
   (λ_ R s=>s.heap.get? l=some { cls:=.type "list", dict:=dd,data:=.seq items n,slots:=sl }/\s.heap.get? b=some { cls:=.type "list", dict:=r,data:=.seq items2 u,slots:=t } /\
    R (.ok (.ret (.bool (qw ns ms)))) s):=by
 intro prog w A R s h;obtain⟨B,g,d,C,os⟩:=s;obtain⟨hl,x,h⟩:=h;have E:=AutoSeq1.sub_list_list
 wp_walk using wpAny_loadPart' hl,wpAny_loadPart' x
 exact⟨jJ plain_eq_loop _,jz entry_eq_loop (by
  rw[Around.under_plainId plain_eq_loop _];exact Gz l b items items2 n u dd r sl t ns ms y z _ 0 rfl (ba _) (ba _) prog w A R _ ⟨hl,x,h⟩)⟩
end
end HT
namespace MrS
open PySem PyProof.Rows
section
variable {prog:jo}{w:jt}{A:Around}{E:Value->Shared->Prop}{s:Shared}{κ:jI}{P:jq->Prop}{lt:jq->jq->Bool}
theorem Lw(C:B2 prog w A s κ P lt) {arr:Array jq}{g:Nat}{Q:Unit->SortSt->Prop}(L:∀x,x∈arr->P x) (h2:2<=arr.size) (z:arr.size<64)
  (h:∀xs p g',xs.Perm arr->Dq lt xs 0 arr.size->Q () (BQ κ xs p g')):wpS (jm prog w) A E s sortRuns' Q (BQ κ arr #[] g):=by
 rw[sortRuns'_eq];refine jw (mv ?_);dsimp only;have B:minRun' arr.size arr.size 0=arr.size:=by
  obtain⟨f,R⟩:∃f,arr.size=f+1:=⟨arr.size-1,by lia⟩
  have:minRun' (f+1) arr.size 0=arr.size:=by rw[minRun'_succ,pQ z];rfl
  rwa [←R]at this
 have S:jx (BQ κ arr #[] g)=arr:=rfl;simp only[S,B];refine jw (kP (kz
  (I:=λx c r=>(x=0/\c=(none,0)/\r=BQ κ arr #[] g)∨(1<=x/\c=(none,arr.size)/\∃xs,r=BQ κ xs #[(0,arr.size,0)] g/\xs.Perm arr/\Dq lt xs 0 arr.size))
  (Q:=λc r=>c=(none,arr.size)/\∃xs,r=BQ κ xs #[(0,arr.size,0)] g/\xs.Perm arr/\Dq lt xs 0 arr.size) ?step ?fin (.inl ⟨rfl,rfl,rfl⟩)) ?post)
 case fin =>
  rintro c r (⟨hx,_,_⟩|⟨_,U,G⟩)
  .lia
  .exact ⟨U,G⟩
 case step =>
  rintro x c r _ H (⟨rfl,rfl,rfl⟩|⟨H,rfl,G⟩)
  .dsimp only;rw[qk (by lia)]
   simp only[fP,iY];refine jw (GE (st:=BQ κ arr #[] g) C L rfl (by lia) (by show 0+arr.size<=arr.size;lia) λn t X Y b1 J=>?_)
   dsimp only;have y:B3 arr t 0 (0+n):=b1;show wpS _ _ _ _ _ _ (BQ κ t #[] g)
   by_cases u:n<arr.size
   .rw [pQ u];refine jw (IA ?_);refine jw (KM (st:=BQ κ t #[] g) C (y.mem L) rfl X Y (by show 0+arr.size<=t.size;have:=y.size;lia) J λM b2 O=>?_)
    rw[qk (by decide)]
    refine jw (mv ?_);show wpS _ _ _ _ _ _ (BQ κ M #[] g);refine jw (mK (jC (.inr ⟨by lia,by rw[bh],M,?_,b2.pm.trans y.pm,?_⟩)))
    .rfl
    .rw [bh]at O;exact O
   .rw [qk u];have hm:n=arr.size:=by lia
    subst hm;refine jw (mv ?_);refine jw (mK (jC (.inr ⟨by lia,by rw[bh],t,?_,y.pm,?_⟩)))
    .rfl
    .rw [bh]at J;exact J
  .dsimp only;rw[pQ (ai _)];exact jC ⟨rfl,G⟩
 case post =>
  rintro c r ⟨rfl,xs,rfl,q1,q2⟩;dsimp only;refine jw (kP (kz (I:=λ_ c l=>l=BQ κ xs #[(0,arr.size,0)] g/\c=(none,())) (Q:=λc l=>l=BQ κ xs #[(0,arr.size,0)] g/\c=(none,())) ?_ (λ_ _ hh=>hh) ⟨rfl,rfl⟩) ?_)
  .rintro x c l _ _ ⟨rfl,rfl⟩;refine jw (mv ?_);rw[pQ (by show (1:Nat)<=1;exact ai 1)]
   exact jC ⟨rfl,rfl⟩
  .rintro c l ⟨rfl,rfl⟩;exact jC (h xs _ _ q1 q2)
end
section
variable {prog:jo}{w:jt}{A:Around}{E:Value->Shared->Prop}{s:Shared}{Pk:jq->Prop}{lt:jq->jq->Bool}
theorem AB{a:Addr}{vs:List Value}{n:Nat}{P:PySem.Fin->Shared->Prop}(z:s.heap.get? a=some (ju "list" vs.toArray n)) (hs:vs.length<64)
  (G:2<=vs.length->∀Q:jI->Shared->Prop,Q ko { s with heap:=qX s.heap a vs }->jj (jm prog w) A (kQ vs.toArray) Q E { s with heap:=qX s.heap a vs })
  (C:B2 prog w A { s with heap:=qX s.heap a vs } ko Pk lt) (J:∀x,x∈jH vs->Pk x)
  (h:∀xs:Array jq,xs.Perm (jH vs)->Dq lt xs 0 (jH vs).size->P (.done (.ret .none)) { s with heap:=kh s.heap a vs (xs.map (·.2)) }) :
  jj (jm prog w) A (Builtin.«list.sort» ⟨[.ref a],[]⟩) P E s:=by
 rw[list_sort_plain];have L:a<s.heap.objs.size:=ae z;refine ji (listItems_at z rfl ?_);refine ji (jP z rfl ?_ (hsz:=by rw[aA,jy];lia))
 obtain⟨H,r⟩:∃H,(s.heap.update a (Obj.mapSeq λ_=>#[])).get? a=some (ju "list" #[] H):=⟨_,jW z (λ_=>#[])⟩
 refine ji (kK r rfl ?_);refine ji (mn ?_);refine ji (jX ?_);refine jA ?_;have l:(qX s.heap a vs).get? a=some (ju "list" #[] H):=by
  rw[dB _ _ _ (by rw[kZ,bL];exact aq (bX L)),dB _ _ _ (by rw[bL];exact aq L)]
  exact r
 show jj (jm prog w) A _ P E { s with heap:=qX s.heap a vs }
 dsimp only;have O:vs.toArray.size=vs.length:=by simp
 have R:jn=16777216:=jy
 by_cases h2:vs.toArray.size<2
 .rw [pQ h2,pQ h2];refine ji (jk ?_);rw[StateT.run_pure];refine ji (jk ?_);dsimp only;refine ji (kK l rfl ?_);refine ji (jP l rfl ?_ (hsz2:=by rw[fX];show (jH vs).size<=_;rw[jM,jy];lia))
  simp only[bne_self_eq_false,cQ,if_false];refine jk (h _ (iJ.refl _) ?_);intro i j x y _ S U ex M;have:i=j:=by rw[jM]at U;lia
  subst this;rw[ex]at M;cases M;exact C.refl (J x (aQq ex))
 .rw [qk h2,qk h2];refine ji (G (by lia) _ ?_)
  refine ji (jF (Lw C (arr:=jH vs) (g:=7) (E:=E)
   (Q:=λ_ t=>∃xs p B,t=BQ ko xs p B/\xs.Perm (jH vs)/\Dq lt xs 0 (jH vs).size) J (by rw[jM];lia) (by rw[jM];lia) λxs p B X Y=>⟨xs,p,B,rfl,X,Y⟩) ?_ λ_ _ e=>e)
  rintro⟨⟨⟩,t⟩ s' ⟨rfl,xs,p,B,rfl,u,I⟩;dsimp only;refine ji (kK l rfl ?_);refine ji (jP l rfl ?_ (hsz2:=by refine bw (fh ((fX ..).trans (u.size_eq.trans (jM _)))) ?_;lia))
  simp only[bne_self_eq_false,cQ,if_false];exact jk (h xs u I)
theorem AO{l:Addr}{vs:List Value}{Q:Value->Shared->Prop}(hl:s.heap.IsList l vs.toArray) (C:vs.length<64)
  (H:∀t:Shared,(∀b o,s.heap.get? b=some o->t.heap.get? b=some o)->(2<=vs.length->∀Q:jI->Shared->Prop,Q ko t->jj (jm prog w) A.in1.in1 (kQ vs.toArray) Q E t)/\B2 prog w A.in1.in1 t ko Pk lt)
  (I:∀v∈vs,Pk (v,v))
  (h:∀(out:List Value) (h':Heap) (J:Nat),out.Perm vs->out.Pairwise (λx y=>lt (y,y) (x,x)=false)->(∀b o,s.heap.get? b=some o->h'.get? b=some o) ->
   h'.get? (s.heap.objs.size+1)=some (ju "list" out.toArray J)->Q (.ref (s.heap.objs.size+1)) { s with heap:=h' }) :
  jj (jm prog w) A (call (.builtin "sorted") [.ref l]) Q E s:=by
 refine Calls.call_function_entry mh lN lO (lR _) ?_;unfold Builtin.«sorted»;refine ji (m:=mM "sorted" 1 1 _) (jk ?_);refine ji (collect_list hl ?_ (by rw[jy];lia))
 refine ji (jX ?_ (by rw[jy];lia))
 have r:((s.heap.push (ju "list" #[] 0)).update s.heap.objs.size (Obj.mapSeq (· ++ vs.toArray))).objs.size=s.heap.objs.size+1:=by
  rw[bL,kZ]
 have n:(((s.heap.push (ju "list" #[] 0)).update s.heap.objs.size (Obj.mapSeq (· ++ vs.toArray))).push (ju "list" vs.toArray 0)).get? (s.heap.objs.size+1)=some (ju "list" vs.toArray 0):=by
  rw[←r];exact aL _ rfl
 show jj _ _ _ _ _ { s with heap:=((s.heap.push (ju "list" #[] 0)).update s.heap.objs.size (Obj.mapSeq (· ++ vs.toArray))).push (ju "list" vs.toArray 0) }
 rw[r];generalize L:((s.heap.push (ju "list" #[] 0)).update s.heap.objs.size (Obj.mapSeq (· ++ vs.toArray))).push (ju "list" vs.toArray 0)=G at n ⊢;have M:∀b o,s.heap.get? b=some o->G.get? b=some o:=λb o e=>by
  rw[←L];refine aj _ ?_;rw[bu _ _ _ _ (aq (ae e))];exact aj _ e
 have B:∀b o,s.heap.get? b=some o->(qX G (s.heap.objs.size+1) vs).get? b=some o:=λb o e=>by
  refine aj _ (aj _ ?_);rw[bu _ _ _ _ (aq (bX (ae e)))];exact M b o e
 obtain⟨O,P⟩:=H { s with heap:=qX G (s.heap.objs.size+1) vs } B
 refine ji (jA (jR lh ⟨_,n,rfl⟩ kY (AB (Pk:=Pk) (lt:=lt) n C O P (λx R=>?_) λu S U=>⟨_,rfl,?_⟩) (ly _)))
 .obtain ⟨X,Y⟩:=uH R;have:x=(x.1,x.1):=gI rfl Y;rw[this];exact I _ X
 .obtain ⟨v1,v2⟩:=xo S U;obtain⟨e1,z⟩:=C3 vs n;obtain⟨n1,g1⟩:=Df (u.map (·.2)) z;refine jk ⟨_,rfl,h _ (kh G (s.heap.objs.size+1) vs (u.map (·.2))) n1 v1 v2 (λb o e=>?_) ?_⟩
  .unfold kh;rw[bu _ _ _ _ (aq (bX (ae e)))];exact B b o e
  .rw [show (u.map (·.2)).toList.toArray=u.map (·.2) from eK]
   exact g1
end
end MrS
namespace Mr
open PySem PySem.Spec PyProof.Rows L2
section
open HT
theorem zz:∀xs ys:List Int,qw xs ys=true->qw ys xs=false
 | [],[],_=>rfl
 | [],_::_,_=>rfl
 |_::_,[],h=>by cases h
 |x::xs,y::ys,h=>by
  rw[uv]at h ⊢
  by_cases e:x=y
  .rw [pQ e]at h;rw[pQ e.symm];exact zz xs ys h
  .rw [qk e]at h;rw[qk (Ne.symm e)];have l:x<y:=of_decide_eq_true h;exact decide_eq_false (by lia)
theorem ye:∀xs ys l:List Int,qw ys xs=false->qw l ys=false->qw l xs=false
 | [],[],[],_,_=>rfl
 | [],[],_::_,_,h=>by exact h
 | [],_::_,[],_,h=>by cases h
 | [],_::_,_::_,_,_=>rfl
 |_::_,[],_,h,_=>by cases h
 |_::_,_::_,[],_,h=>by cases h
 |x::xs,y::ys,z::l,h1,h2=>by
  rw[uv]at h1 h2 ⊢
  by_cases r:y=x
  .rw [pQ r]at h1;subst r
   by_cases n:z=y
   .rw [pQ n]at h2 ⊢;exact ye xs ys l h1 h2
   .rw [qk n]at h2 ⊢;exact h2
  .rw [qk r]at h1;have s:¬ y<x:=of_decide_eq_false h1
   by_cases n:z=y
   .rw [qk (by lia)]
    exact decide_eq_false (by lia)
   .rw [qk n]at h2;have t:¬ z<y:=of_decide_eq_false h2;rw[qk (by lia)]
    exact decide_eq_false (by lia)
theorem Bv:∀xs ys:List Int,qw xs ys=false->qw ys xs=false->xs=ys
 | [],[],_,_=>rfl
 | [],_::_,h,_=>by cases h
 |_::_,[],_,h=>by cases h
 |x::xs,y::ys,h1,h2=>by
  rw[uv]at h1 h2
  by_cases e:x=y
  .rw [pQ e]at h1;rw[pQ e.symm]at h2;rw[e,Bv xs ys h1 h2]
  .rw [qk e]at h1;rw[qk (Ne.symm e)]at h2;have l:¬ x<y:=of_decide_eq_false h1;have n:¬ y<x:=of_decide_eq_false h2;lia
def Sd(x y:List Int):Bool:=!HT.qw y x
theorem NU(x y z:List Int) (h1:Sd x y=true) (h2:Sd y z=true):Sd x z=true:=by
 unfold Sd at *;simp only[gh]at *;exact ye x y z h1 h2
theorem NJ(x y:List Int):(Sd x y || Sd y x)=true:=by
 unfold Sd;cases h:HT.qw y x with
 |false=>rfl
 |true=>rw[zz y x h];rfl
def uf(rs:List (List Int)):List (List Int):=rs.mergeSort Sd
theorem qj(rs:List (List Int)):(uf rs).Perm rs:=fU _ _
theorem ur(rs:List (List Int)):(uf rs).Pairwise (λx y=>HT.qw y x=false):=by
 refine(fi NU NJ rs).imp λ{a b} h=>?_
 unfold Sd at h;simpa using h
theorem EB:∀{xs ys:List (List Int)},xs.Perm ys->xs.Pairwise (λx y=>HT.qw y x=false)->ys.Pairwise (λx y=>HT.qw y x=false)->xs=ys
 |xs,ys,l,h1,h2=>dU.eq_of_pairwise (λa b _ _ n r=>(Bv b a n r).symm) h1 h2 l
theorem yR{xs rs:List (List Int)}(l:xs.Perm rs) (h:xs.Pairwise (λx y=>HT.qw y x=false)):xs=uf rs :=
 EB (l.trans (qj rs).symm) h (ur rs)
theorem srt_congr{rs l:List (List Int)}(n:rs.Perm l):uf rs=uf l:=yR ((qj rs).trans n) (ur rs)
theorem DM(rs:List (List Int)):(uf rs).length=rs.length:=(qj rs).length_eq
noncomputable def qN(ns:List Int):List Int:=ns.mergeSort (λx y=>decide (x<=y))
theorem qF(ns:List Int):(qN ns).Perm ns:=fU _ _
theorem xw(ns:List Int):(qN ns).Pairwise (·<=·):=by
 refine(fi (le:=λx y=>decide (x<=y)) (λa b c h1 h2=>?_) (λa b=>?_) ns).imp λ{a b} h=>by simpa using h
 .simp only [decide_eq_true_eq]at *;lia
 .simp only [Bool.or_eq_true,decide_eq_true_eq];lia
theorem GS{xs ns:List Int}(l:xs.Perm ns) (h:xs.Pairwise (·<=·)):xs=qN ns :=
 dU.eq_of_pairwise (λa b _ _ n r=>Int.le_antisymm n r) h (xw ns) (l.trans (qF ns).symm)
end
def rZ(H:Hp) (ps:List Addr) (rs:List (List Int)):Prop:=ps.map H=rs.map (λr=>some (HO.lst (r.map V.int)))
theorem rZ.nil{H:Hp}:rZ H [] []:=rfl
theorem rZ.length{H:Hp}{ps:List Addr}{rs:List (List Int)}(h:rZ H ps rs):ps.length=rs.length:=by
 have:=congrArg bp h;simpa using this
theorem rZ.cons_iff{H:Hp}{ps:List Addr}{rs:List (List Int)}{p:Addr}{r:List Int}:rZ H (p::ps) (r::rs)↔H p=some (.lst (r.map V.int))/\rZ H ps rs:=by
 unfold rZ;rw[ax,ax,List.cons.injEq]
theorem rZ.get{H:Hp}{ps:List Addr}{rs:List (List Int)}(h:rZ H ps rs) {i:Nat}{p:Addr}(e:ps[i]?=some p):∃r,rs[i]?=some r/\H p=some (.lst (r.map V.int)):=by
 have:=congrArg (λl=>l[i]?) h
 simp only[gMq,e,cj]at this;cases n:rs[i]? with
 |none=>rw[n]at this;cases this
 |some r=>rw[n]at this;exact⟨r,rfl,aT.inj this⟩
theorem rZ.mem{H:Hp}{ps:List Addr}{rs:List (List Int)}(h:rZ H ps rs) {p:Addr}(l:p∈ps):∃r,r∈rs/\H p=some (.lst (r.map V.int)):=by
 obtain⟨i,n⟩:=List.getElem?_of_mem l;obtain⟨r,s,e⟩:=h.get n;exact⟨r,mGq s,e⟩
theorem rZ.keep{H l:Hp}{ps:List Addr}{rs:List (List Int)}(h:rZ H ps rs) (k:∀p∈ps,l p=H p):rZ l ps rs:=by
 unfold rZ at *;rw[←h];exact mCq k
theorem rZ.same{H l:Hp}{ps:List Addr}{rs:List (List Int)}(h:rZ H ps rs) (s:pJ H l):rZ l ps rs :=
 h.keep λp n=>by
  obtain⟨r,_,e⟩:=h.mem n;rw[s _ _ e,e]
noncomputable def Z2:V->Int
 | .int i=>i
 |_=>0
def AD(H:Hp) (p:Addr):List Int:=match H p with
 |some (.lst xs)=>xs.map Z2
 |_=>[]
theorem IU{H:Hp}{p:Addr}{r:List Int}(h:H p=some (.lst (r.map V.int))):AD H p=r:=by
 unfold AD;rw[h];simp only[mPq];exact List.map_id'' (λ_=>rfl) r
theorem rZ.fn{H:Hp}{ps:List Addr}{rs:List (List Int)}(h:rZ H ps rs):rs=ps.map (AD H):=by
 induction rs generalizing ps with
 |nil =>
  have:=h.length;have:ps=[]:=cE.mp this;rw[this];rfl
 |cons r rs l =>
  cases ps with
  |nil=>have:=h.length;simp at this
  |cons p ps =>
   obtain⟨h1,h2⟩:=rZ.cons_iff.mp h;rw[ax,←l h2,IU h1]
theorem rZ.fn_row{H:Hp}{ps:List Addr}{rs:List (List Int)}(h:rZ H ps rs) {p:Addr}(l:p∈ps):H p=some (.lst ((AD H p).map V.int)):=by
 obtain⟨r,_,e⟩:=h.mem l;rw[IU e];exact e
theorem rZ.of_fn{H:Hp}{ps:List Addr}(h:∀p∈ps,H p=some (.lst ((AD H p).map V.int))):rZ H ps (ps.map (AD H)):=by
 unfold rZ;rw[mPq];exact mCq h
theorem rZ.perm{H:Hp}{ps l:List Addr}{rs:List (List Int)}(h:rZ H ps rs) (r:l.Perm ps):∃n,rZ H l n/\n.Perm rs/\n=l.map (AD H) :=
 ⟨_,rZ.of_fn λp m=>h.fn_row (r.mem_iff.mp m),by rw[h.fn];exact r.map _,rfl⟩
theorem rZ.free{H l:Hp}{ps:List Addr}{rs:List (List Int)}(h:rZ l ps rs) {q:Addr}(n:l q=none):q∉ps:=λm=>by
 obtain⟨r,_,e⟩:=h.mem m;rw[n]at e;cases e
theorem wz:∀{ps:List Addr}{vs:List Value},oV (ps.map V.ref) vs->vs=ps.map aE
 | [],vs,r=>by cases r;rfl
 |p::ps,vs,r=>by
  rw[ax]at r;cases r with
  |cons h1 h2 =>
   have e:_=aE p:=h1;rw[e,wz h2];rfl
theorem xY:∀(ps:List Addr),oV (ps.map V.ref) (ps.map aE)
 | []=>.nil
 |p::ps=>.cons rfl (xY ps)
def qo:Value->Addr
 | .ref p=>p
 |_=>0
def intOf:Value->Int
 | .int i _=>i
 |_=>0
theorem FQ{vs:List Value}{ns:List Int}(h:jB vs ns):ns=vs.map intOf/\∀v∈vs,∃a t,v = .int a t:=by
 induction h with
 |nil=>exact⟨rfl,λv l=>by cases l⟩
 |cons a t _ n =>
  refine⟨by rw[ax,←n.1];rfl,λv l=>?_⟩
  rcases ar.mp l with rfl|l
  .exact ⟨a,t,rfl⟩
  .exact n.2 v l
theorem vals_ints:∀{vs:List Value},(∀v∈vs,∃a t,v = .int a t)->oV ((vs.map intOf).map V.int) vs
 | [],_=>.nil
 |v::vs,h=>by
  obtain⟨a,t,rfl⟩:=h _ (aw ..);exact .cons ⟨t,rfl⟩ (vals_ints λv l=>h v (mCo _ l))
theorem K5{M:Model}{A:Around}{E:Value->Shared->Prop}{s:Shared}{vs:List Value}{T:String}{Q:jI->Shared->Prop}(h2:2<=vs.length) (r:∀v∈vs,W.Looks M s.heap (typeOf v) (.type T)) (l:(eh T != eh "tuple")=true) (n:(eh T == eh T)=true) (h:Q ko s) :
  jj M A (kQ vs.toArray) Q E s:=W.kas_kind h2 r l n h
noncomputable def Y4(x y:jq):Bool:=match x.1,y.1 with
 | .int a _,.int b _=>decide (a<b)
 |_,_=>false
theorem Xh(prog:jo) (w:jt) (A:Around) (s:Shared):MrS.B2 prog w A s ko (λx=>∃a t,x.1 = .int a t) Y4 where
 ask:=by
  rintro⟨_,x⟩ ⟨_,y⟩ ⟨a,t,l⟩ ⟨b,u,n⟩ E Q q;dsimp only at l n;subst l n;rw[lq];exact oneLt_int q
 asym:=by
  rintro⟨_,x⟩ ⟨_,y⟩ ⟨a,t,l⟩ ⟨b,u,n⟩ h;dsimp only at l n;subst l n;have h':a<b:=of_decide_eq_true h;exact decide_eq_false (by lia)
 trans:=by
  rintro⟨_,x⟩ ⟨_,y⟩ ⟨_,z⟩ ⟨a,t,l⟩ ⟨b,u,n⟩ ⟨c,v,r⟩ h1 h2;dsimp only at l n r;subst l n r;have B:¬ b<a:=of_decide_eq_false h1;have C:¬ c<b:=of_decide_eq_false h2;exact decide_eq_false (by lia)
def ZX(r:Addr->List Int) (x y:jq):Bool:=match x.1,y.1 with
 | .ref p,.ref q=>HT.qw (r p) (r q)
 |_,_=>false
theorem YN{prog:jo}{w:jt}{A:Around}{s:Shared}{ps:List Addr}{r:Addr->List Int}(P:A.units<jD)
  (h:∀p∈ps,∃vs:List Value,mF s.heap p vs.toArray/\jB vs (r p)):MrS.B2 prog w A s ko (λx=>∃p,x.1 = .ref p/\p∈ps) (ZX r) where
 ask:=by
  rintro⟨_,x⟩ ⟨_,y⟩ ⟨p,l,R⟩ ⟨q,t,S⟩ E Q k;dsimp only at l t;subst l t;obtain⟨vs,⟨o,n,H,L,B,hd⟩,U⟩:=h p R;obtain⟨ws,⟨X,Y,I,C,u,G⟩,hj⟩:=h q S;obtain⟨cls,dd,data,sl⟩:=o;obtain⟨M,dd2,data2,J⟩:=X;simp only at L B hd C u G;subst L B hd C u G;rw[lq,oneLt'_eq];simp only[if_true];refine ji (wpAny_cRoomFor P ?_);refine ji (kT ⟨_,H,rfl⟩ F.slot_list_lt (ki F.slot_list_lt ⟨_,H,rfl⟩ F.entry_list_lt (F.args_list_lt_2 _ _)
   (HT.Gd p q vs.toArray ws.toArray n Y none none sl J (r p) (r q) (by simpa using U) (by simpa using hj)) ⟨H,I,?_⟩))
  exact jE k
 asym:=by
  rintro⟨_,x⟩ ⟨_,y⟩ ⟨a,l,_⟩ ⟨b,t,_⟩ h;dsimp only at l t;subst l t;exact zz _ _ h
 trans:=by
  rintro⟨_,x⟩ ⟨_,y⟩ ⟨_,z⟩ ⟨a,l,_⟩ ⟨b,t,_⟩ ⟨c,O,_⟩ h1 h2;dsimp only at l t O;subst l t O;exact ye _ _ _ h1 h2
section
variable {X:Cx}
theorem BZ:xv X (.builtin "sorted") (λxs H Q=>∃(a:Addr) (ns:List Int),xs=[.ref a]/\ns.length<64/\qV X.K H a (ns.map V.int)/\∀p,H p=none->Q (.ref p) (qG H p (.lst ((qN ns).map V.int)))):=by
 intro nA s σ H xs us Q I r h;obtain⟨a,ns,rfl,hf,G,q⟩:=h;obtain⟨u,rfl,J⟩:=wQ r;cases J;obtain⟨L,hl,l,M⟩:=II I G;obtain⟨O,z⟩:=FQ l;have B:=l.length;refine MrS.AO (Pk:=λx=>∃a t,x.1 = .int a t) (lt:=Y4) hl (by lia) (λs' _=>⟨λh2 Q q=>?_,Xh _ _ _ _⟩) (λv m=>z v m) λout C P E R S U=>?_
 .match L,l,h2 with
  | [],_,h2=>simp at h2
  | [_],_,h2=>simp at h2
  |v₁::v₂::oY,l,_ =>
   rw[keyKind_ints l];exact jk q
 .have n:∀v∈out,∃a t,v = .int a t:=λv m=>z v (E.mem_iff.mp m)
  have e:out.map intOf=qN ns:=by
   refine GS (by rw[O];exact E.map _) ?_
   rw[aF];refine R.imp_of_mem λ{x y} mx my h=>?_
   obtain⟨a,t,rfl⟩:=n x mx;obtain⟨b,u,rfl⟩:=n y my;have C:¬ b<a:=of_decide_eq_false h;show a<=b;lia
  have Y:H (s.heap.objs.size+1)=none:=I.hok.fresh (bR _);refine⟨.ref (s.heap.objs.size+1),_,I.laid (t':=s.toks) S (bR _) (show qT X.prog X.w _ C _ (.lst ((qN ns).map V.int)) from ⟨?_,out,P,?_,U⟩),rfl,q _ Y⟩
  .rw [lMq,(qF ns).length_eq];exact M
  .rw [←e];exact vals_ints n
theorem B0(hu:X.A.units+64<jD):xv X (.builtin "sorted") (λxs H Q=>∃(a:Addr) (ps:List Addr) (rs:List (List Int)),xs=[.ref a]/\ps.length<64/\qV X.K H a (ps.map V.ref)/\rZ H ps rs /\
  ∀p z,H p=none->z.Perm ps->rZ (qG H p (.lst (z.map V.ref))) z (uf rs)->Q (.ref p) (qG H p (.lst (z.map V.ref)))):=by
 intro nA s σ H xs us Q I r h;obtain⟨a,ps,rs,rfl,hf,hS,U,q⟩:=h;obtain⟨u,rfl,ru⟩:=wQ r;cases ru;obtain⟨G,O,hl,hz⟩:=I.list hS;have ei:=wz O;subst ei;have J:∀p∈ps,∃B:List Value,mF s.heap p B.toArray/\jB B (AD H p):=λp t=>by
  obtain⟨G,O,P,_⟩:=I.list (qV.of (U.fn_row t));exact⟨G,P,xk O⟩
 have y:∀(C:Shared),(∀b o,s.heap.get? b=some o->C.heap.get? b=some o)->∀p∈ps,∃B:List Value,mF C.heap p B.toArray/\jB B (AD H p):=λC k p t=>by
  obtain⟨B,⟨o,n,L,oY⟩,hi⟩:=J p t;exact⟨B,⟨o,n,k _ _ L,oY⟩,hi⟩
 refine MrS.AO (Pk:=λx=>∃p,x.1 = .ref p/\p∈ps) (lt:=ZX (AD H)) hl.isList (by simpa using hf) (λC k=>⟨λh2 Q q=>?_,YN (by show X.A.units+1+1<jD;lia) (y C k)⟩) (λv m=>?_) λout h' n' Y o2 o3 o4=>?_
 .refine K5 (T := "list") h2 (λv R=>?_) (by rfl) (by rfl) q
  obtain⟨p,t,rfl⟩:=mMq.mp R;obtain⟨B,P,_⟩:=y C k p t;intro A Q E s2 k2 q2;obtain⟨o,L,hc,_⟩:=P.isList;exact jL (T := "list") ⟨o,k2 _ _ L,hc⟩ q2
 .obtain ⟨p,t,rfl⟩:=mMq.mp m;exact⟨p,rfl,t⟩
 .have L:∀v∈out,∃p∈ps,v = .ref p:=λv m=>by
   obtain⟨p,t,rfl⟩:=mMq.mp (Y.mem_iff.mp m);exact⟨p,t,rfl⟩
  have S:out=(out.map qo).map aE:=by
   rw[mPq];have e:=mCq (l:=out) (f:=id) (g:=aE∘qo) λv R=>by
    obtain⟨p,_,rfl⟩:=L v R;rfl
   rw[←e,cW]
  have M:(out.map qo).Perm ps:=by
   have:=Y.map qo;rw[mPq,show qo∘aE=id from rfl,cW]at this
   exact this
  have t:H (s.heap.objs.size+1)=none:=I.hok.fresh (bR _);generalize out.map qo=z at S M;obtain⟨ts,e1,e2,e3⟩:=U.perm M;have es:ts=uf rs:=by
   refine yR e2 ?_;rw[e3,aF];rw[S,aF]at o2;exact o2
  refine⟨.ref (s.heap.objs.size+1),_,I.laid (t':=s.toks) o3 (bR _) (show qT X.prog X.w _ h' _ (.lst (z.map V.ref)) from ⟨?_,out,n',?_,o4⟩),rfl,q _ z t M (by rw[←es];exact e1.same (uS t))⟩
  .rw [lMq,M.length_eq];simpa using hz
  .rw [S];exact xY z
noncomputable def xE(r:List Int):PyData:=.list (r.map PyData.int)
def Bo(rs:List (List Int)):PyData:=.list (rs.map xE)
theorem CM:∀rs:List (List Int),PyData.canLayAll0 (rs.map xE)=true
 | []=>by simp[PyData.canLayAll0]
 |r::rs=>by simp[PyData.canLayAll0,xE,PyData.canLay0,W.canLayAll0_ints r,CM rs]
theorem DS:∀rs:List (List Int),PyData.depthAll (rs.map xE)<=3
 | []=>by simp[PyData.depthAll]
 |r::rs=>by
  have h1:=DS rs;have h2:=W.depthAll_ints r;simp only[ax,PyData.depthAll,xE,PyData.depth];lia
theorem CL(rs:List (List Int)):SeqAt.shaped (Bo rs)=true:=by
 have h1:=DS rs;have h2:PyData.depth (Bo rs)<=64:=by simp only[Bo,PyData.depth];lia
 show (PyData.canLay0 (Bo rs) && decide (PyData.depth (Bo rs)<=64))=true;rw[gv];exact⟨by simp only[Bo,PyData.canLay0];exact CM rs,decide_eq_true h2⟩
theorem Em:∀rs l:List (List Int),SeqAt.noMixAll (rs.map xE) (l.map xE)=true
 | [],[]=>by simp[SeqAt.noMixAll]
 | [],_::_=>by simp[SeqAt.noMixAll]
 |_::_,[]=>by simp[SeqAt.noMixAll]
 |r::rs,t::l=>by simp[SeqAt.noMixAll,xE,SeqAt.noMix,W.noMix_ints r t,Em rs l]
theorem Fb:∀rs l:List (List Int),PySem.Spec.sameAll (rs.map xE) (l.map xE)=decide (rs=l)
 | [],[]=>by simp[PySem.Spec.sameAll]
 | [],_::_=>by simp[PySem.Spec.sameAll]
 |_::_,[]=>by simp[PySem.Spec.sameAll]
 |r::rs,t::l=>by
  simp only[ax,PySem.Spec.sameAll,xE,PySem.Spec.same,W.same_ints r t];rw[Fb rs l]
  by_cases h:r=t <;> simp[h]
end
end Mr
namespace Mr
open PySem L2
structure Bt (mg:Str->Option Value):Prop where
 len:mg "len" = none
 min:mg "min" = none
 max:mg "max" = none
 abs:mg "abs" = none
 all:mg "all" = none
 sorted:mg "sorted" = none
 isi:mg "isinstance" = none
 list:mg "list" = none
 int:mg "int" = none
 bool:mg "bool" = none
 str:mg "str" = none
 dict:mg "dict" = none
 zip:mg "zip" = none
 enum:mg "enumerate" = none
 range:mg "range" = none
 reversed:mg "reversed" = none
structure Fn (P:jo) (w:jt) (K:W.Frag) (mg:Str->Option Value) (base:Heap) (k:Nat) (x:Str) (st:Stmt) (ps:List Str) (sp:Sp) (f:Addr) (fd:jK):Prop where
 D:xJ K mg x st ps f fd
 ok:CQ P w K mg base VH k f fd ps sp
theorem xI.units65{k:Nat}{A:Around}(r:xI k A):A.units+65<jD:=by have:=r.un;lia
section
variable {X:Cx}{k:Nat}{f:Addr}{fd:jK}{ps:List Str}{sp:Sp}{x:Str}{p pos:Pos}{e:Expr}{es:List Expr}{t:TA}{st:Stmt}
theorem oH(G:Fn X.prog X.w X.K X.mg X.base k x st ps sp f fd) (hr:xI k X.A) (r:PA X (e::es) t) (s:Gl X x:=by rfl) (l:(x == ("__debug__" : Str))=false:=by decide)
  (u:jv (e::es) X.env=(false,eval e X.env)::jv es X.env:=by rfl) (n:(kC pos (jv es X.env)).any (·.1)=false:=by rfl) :
  PE X (.Call (.Name x p) (e::es) [] pos) (Md sp [] E0 t):=Sk G.ok hr s G.D.m G.D.F.kp G.D.b .nil Xb r l u n
end
section
variable (K:W.Frag)
noncomputable def Lp:Sp:=λvs H Q _=>∃(a:Addr) (ns:List Int),vs=[.ref a]/\qV K H a (ns.map V.int)/\ns.length<=63/\∀l,Q (.bl true) l
end
theorem oW{α:Type}{l:List α}{i:Nat}{x:α}(h:l[i]?=some x):l.take (i+1)=l.take i++[x]:=by
 rw[eC,h];rfl
end Mr
namespace Xe
open PySem PySem.Spec PySem.W PyProof.Rows L2 Mr
noncomputable abbrev Z7(K:Frag) (C:Addr):Bool:=findIn K (.ref C) "__setattr__" == some (some (.builtin "object.__setattr__")) && findIn K (.ref C) "__getattribute__" == some (some (.builtin "BaseException.__getattribute__")) &&
 findIn K (.ref C) "__getattr__" == some none && findIn K (.ref C) "__class__" == some (some (.builtin "object.__class__"))
def UR(K:Frag) (c:Str) (C:Addr) (r:List Value):Bool:=match K.lookup C with
 |some ⟨.type "type", _,.cls l,sl⟩=>(match sl.toList with
  | [_,_,_,_,some (.builtin n),_]=>l.name == c && l.mro == .ref C::r && n == "ValueError.__new__" && !l.hasDel && l.hasDict && tailIn K YG r
  |_=>false)
 |_=>false
structure Y9 (K:Frag) (c:Str) (C M:Addr):Prop where
 nm:nsIn K jr c=some (some (.ref C))
 nmM:nsIn K jr "MapError" = some (some (.ref M))
 xc:UR K c C (.ref M::YG)=true
 xm:UR K "MapError" M YG=true
 lk:Z7 K C=true
def Z8(K:Frag) (c:Str) (C:Addr):Prop:=nsIn K jr c=some (some (.ref C))/\((∃M,Y9 K c C M)∨(c = "MapError" /\ UR K "MapError" C YG=true))
noncomputable def ZT(e C:Addr) (l:Option Addr):HO:=.ext λh=>∃o vs,h.get? e=some o/\o.cls = .ref C/\o.dict=l/\o.data = .fields vs
section
variable {X:Cx}
theorem Wl{kvs:List (oq×V)}{vs:List (oq×Value)}(r:KV kvs vs):∀{i:Nat}{p:oq×V},kvs[i]?=some p->∃u,vs[i]?=some (p.1,u)/\qc p.2 u:=by
 induction r with
 |nil=>intro i p h;simp at h
 | @cons a b _ _ r t l =>
  intro i p h;cases i with
  |zero=>simp at h;subst h;exact⟨b.2,by simp[r.1],r.2⟩
  |succ i=>obtain⟨u,n,g2⟩:=l (by simpa using h);exact⟨u,by simpa using n,g2⟩
end
end Xe
namespace Mr
open PySem PySem.Spec PyProof.Rows L2
section
variable {X:Cx}
theorem DU:∀{bs:List Bool}{us:List Value},oV (bs.map V.bl) us->us=bs.map dQ
 | [],us,r=>by cases r;rfl
 |b::bs,us,r=>by
  cases r with
  |cons l n=>rw[DU n];cases l;rfl
theorem Oq(B:X.calm=true):xv X (.builtin "all") (λxs H Q=>∃(a:Addr) (bs:List Bool),xs=[.ref a]/\qV X.K H a (bs.map V.bl)/\Q (.bl (bs.all id)) H):=by
 intro R s σ H xs S Q I r h;obtain⟨a,bs,rfl,C,q⟩:=h;obtain⟨u,rfl,E⟩:=wQ r;cases E;obtain⟨G,J,p,U⟩:=I.list C;obtain rfl:=DU J;have hl:=p.isList;have x:a<s.heap.objs.size:=by obtain⟨_,e,_⟩:=hl;exact ae e
 refine call_all_walk (kH hl ?_);refine⟨s.heap.objs.size,[s.heap.objs.size,a],[s.heap.objs.size],(bs.map dQ).toArray.size,_,_,λi=>(bs[i]?).getD true,rfl,Walks.list (A:=X.A.in1) (I.ok.hd B) _ a (aq x) _,⟨⟨_,aL _ rfl,rfl,rfl⟩,hl.push _⟩,λi v Y Q' E' L y=>?_,λh' M O=>?_⟩
 .have e:(bs.map dQ)[i]?=some v:=by simpa using L
  rw[gMq]at e;cases l:bs[i]? with
  |none=>rw[l]at e;cases e
  |some b =>
   rw[l]at e;cases e;simp only[l,cw]at y;exact jE y
 .have e:((aS (bs.map dQ).toArray.size).all λi=>(bs[i]?).getD true)=bs.all id:=by
   rw[aA,lMq,bx,gw,gw];constructor
   .intro z b l;obtain⟨i,t,rfl⟩:=gZ l;have:=z i (aN.mpr t);simpa [gEg t] using this
   .intro z i t;have n:=aN.mp t;have:=z bs[i] (gRq n);simpa [gEg n] using this
  rw[e];refine⟨.bl _,H,I.kept (t':=M) λb P z=>O b P (λm=>?_) (aj _ z),rfl,q⟩
  rw[mSq.mp m]at z;exact bV _ (ae z)
end
end Mr
namespace Mr
open PySem PyProof.Rows L2
section
variable {X:Cx}
def Qz(_ j:Int):Prop:=0<j/\j.natAbs.log2<9000
theorem Pa:EL X (kB .FloorDiv) (rI Qz λi j=>.int (i / j)):=X3 λi j _ _ _ _ _ l q=>by
 have h1:(0:Int)<j:=l.1;exact floordiv_int (by lia) (by rw[gc i (by lia)];exact q) (.inl (PyProof.noPylong_of_log2 l.2))
end
end Mr
namespace MrS
open PySem PySem.W PyProof.Rows
section
variable {prog:jo}{w:jt}{A:Around}{E:Value->Shared->Prop}{s:Shared}{Pk:jq->Prop}{lt:jq->jq->Bool}{T:String}{r d:Addr}{n:Nat}{P:Nat->Value->Prop}{OK:Heap->Prop}
theorem Jh{Q:List Value->Shared->Prop}(K:KdlSrc prog w T r d n P OK) (hh:A.handled=none) (hok:OK s.heap) (hn:n<=jn)
  (h:∀h' u (l:Array Value),(∀b o,s.heap.get? b=some o->h'.get? b=some o)->s.heap.objs.size<h'.objs.size->ItemsOf P l n->Q l.toList { s with heap:=h',toks:=u }) :
  jj (jm prog w) A (mB (.ref r)) Q E s:=by
 unfold mB;refine ji (wpAny_runValue (jz mJ ?_));show jj _ _ (do again (.builtin "list.__iadd__" ⟨[←newList [],.ref r],[]⟩)) _ _ s
 refine ji (jX (jk ⟨Code.quiet_builtin _ (by decide +kernel),jz entry_list_iadd' ?_⟩))
 show jj _ _ (Builtin.List.listExtendWith (.ref s.heap.objs.size) (.ref r) (.ref s.heap.objs.size)) _ _ { s with heap:=s.heap.push (ju "list" #[] 0) }
 have t:=K.there _ hok;have x:(s.heap.push (ju "list" #[] 0)).get? s.heap.objs.size=some (ju "list" #[] 0):=aL _ rfl;refine kdl_extend (A:=A) (R:=λr z=>match r with
   | .ok (.ret v)=>jj (jm prog w) A (match v with
    | .ref a=>do
     let o ←load a
     match o.data with
     | .seq y _=>pure y.toList
     |_=>lY "internal:collect"
    |_=>lY "internal:collect") Q E z
   | .ok _=>False
   | .error e=>E e z) (s:={ s with heap:=s.heap.push (ju "list" #[] 0) }) K hh (K.keep _ _ hok λb _ o e=>aj _ e) s.heap.objs.size (aR t.1) (aR t.2) (.ref s.heap.objs.size) 0 x (λh' u l c C B G=>?_) hn
 show jj (jm prog w) A (do
   let o ←load s.heap.objs.size
   match o.data with
   | .seq y _=>pure y.toList
   |_=>lY "internal:collect") Q E { s with heap:=h',toks:=u }
 refine ji (wpAny_load B ?_);exact jk (h h' u l (λb o e=>C b o (aq (ae e)) (aj _ e)) (ae B) G)
theorem HL{Q:Value->Shared->Prop}(K:KdlSrc prog w T r d n P OK) (hh:A.handled=none) (hok:OK s.heap) (hn:n<64)
  (U:∀(vs:List Value),vs.length=n->(∀j v,vs[j]?=some v->P j v)->∀J:Shared,(2<=vs.length->∀Q:jI->Shared->Prop,Q ko J->jj (jm prog w) A.in1.in1 (kQ vs.toArray) Q E J)/\B2 prog w A.in1.in1 J ko Pk lt/\∀v∈vs,Pk (v,v))
  (h:∀(vs out:List Value) (h':Heap) (p:Addr) (B X:Nat),vs.length=n->(∀j v,vs[j]?=some v->P j v)->out.Perm vs->out.Pairwise (λx y=>lt (y,y) (x,x)=false)->(∀b o,s.heap.get? b=some o->h'.get? b=some o)->s.heap.objs.size<=p ->
   h'.get? p=some (ju "list" out.toArray X)->Q (.ref p) { s with heap:=h',toks:=B }) :
  jj (jm prog w) A (call (.builtin "sorted") [.ref r]) Q E s:=by
 refine Calls.call_function_entry mh lN lO (lR _) ?_;unfold Builtin.«sorted»;refine ji (m:=mM "sorted" 1 1 _) (jk ?_);refine ji (Jh K hh hok (by rw[jy];lia) λh0 B t C u O=>?_)
 have hl:t.toList.length=n:=by rw[bI];exact O.1
 have L:∀j v,t.toList[j]?=some v->P j v:=λj v e=>O.2 j v (by rw[←dr];exact e)
 have R:t.toList.length<64:=by rw[hl];exact hn
 generalize t.toList=vs at hl L R;refine ji (jX ?_ (by rw[jy];lia))
 have l:(h0.push (ju "list" vs.toArray 0)).get? h0.objs.size=some (ju "list" vs.toArray 0):=aL _ rfl;show jj _ _ _ _ _ { s with heap:=h0.push (ju "list" vs.toArray 0),toks:=B }
 have H:s.heap.objs.size<=h0.objs.size:=bZ u;have S:∀b o,s.heap.get? b=some o->(h0.push (ju "list" vs.toArray 0)).get? b=some o:=λb o e=>aj _ (C b o e)
 have z:∀b o,s.heap.get? b=some o->b≠h0.objs.size:=λb o e=>aq (ae (C b o e))
 generalize h0.push (ju "list" vs.toArray 0)=G at l S ⊢
 clear u
 generalize h0.objs.size=p at l H z ⊢;have Y:∀b o,s.heap.get? b=some o->(qX G p vs).get? b=some o:=λb o e=>by
  refine aj _ (aj _ ?_);rw[bu _ _ _ _ (z b o e)];exact S b o e
 obtain⟨q1,q2,q3⟩:=U vs hl L { s with heap:=qX G p vs,toks:=B }
 refine ji (jA (jR lh ⟨_,l,rfl⟩ kY (AB (s:={ s with heap:=G,toks:=B }) (Pk:=Pk) (lt:=lt) l R q1 q2 (λx hx=>?_) λI a1 a2=>⟨_,rfl,?_⟩) (ly _)))
 .obtain ⟨m1,m2⟩:=uH hx;have:x=(x.1,x.1):=gI rfl m2;rw[this];exact q3 _ m1
 .obtain ⟨v1,v2⟩:=xo a1 a2;obtain⟨e1,M⟩:=C3 vs l;obtain⟨n1,g1⟩:=Df (I.map (·.2)) M;refine jk ⟨_,rfl,h vs _ (kh G p vs (I.map (·.2))) p B n1 hl L v1 v2 (λb o e=>?_) H ?_⟩
  .unfold kh;rw[bu _ _ _ _ (z b o e)];exact Y b o e
  .rw [show (I.map (·.2)).toList.toArray=I.map (·.2) from eK]
   exact g1
end
end MrS
namespace Mr
open PySem PySem.W PySem.Spec PyProof.Rows L2
section
variable {X:Cx}
theorem Lf:∀{us:List Value}{ns:List Int},us.length=ns.length->(∀(j:Nat) (v:Value) (n:Int),us[j]?=some v->ns[j]?=some n->∃t,v=gP n t)->jB us ns
 | [],[],_,_=>.nil
 | [],_::_,h,_=>by simp at h
 |_::_,[],h,_=>by simp at h
 |u::us,n::ns,h,g=>by
  obtain⟨t,rfl⟩:=g 0 u n rfl rfl;exact .cons n t (Lf (by simpa using h) λj v m l r=>g (j+1) v m (by simpa using l) (by simpa using r))
theorem Su:∀{kvs:List (oq×V)}{ws:List (oq×Value)},KV kvs ws->kvs.map (·.1)=ws.map (·.1):=λ{kvs ws} r=>by
 induction r with
 |nil=>rfl
 |cons a b l=>rw[ax,ax,l,a.1]
theorem yX(Y:X.calm=true):xv X (.builtin "sorted") (λxs H Q=>∃(a:Addr) (kvs:List (oq×V)) (ns:List Int),xs=[.ref a]/\ns.length<64/\H a=some (.dK kvs)/\kvs.map (·.1)=ns.map ao/\∀p,H p=none->Q (.ref p) (qG H p (.lst ((qN ns).map V.int)))):=by
 intro nA s σ H xs l Q I r h;obtain⟨a,kvs,ns,rfl,hf,ha,O,q⟩:=h;obtain⟨u,rfl,ru⟩:=wQ r;cases ru;obtain⟨hz,sa,B,kv,d⟩:=(show qT X.prog X.w H s.heap a (.dK kvs) from I.hok a _ ha)
 obtain⟨ep,da⟩:=d.dictAt;have hl:=Paired.length kv;have n:ns.length=B.length:=by
  have:=congrArg bp O;rw[lMq,lMq]at this;rw[←this,hl]
 have E:B.map (·.1)=ns.map ao:=by rw[←Su kv,O]
 have G:∀l:List Value,l.length=B.length->(∀(j:Nat) (v:Value),l[j]?=some v->∃k x,B[j]?=some (k,x)/\(qH X.prog X.w).is k v=true)->jB l ns:=λl h1 h2=>Lf (by rw[h1,n]) λj v m e1 e2=>by
  obtain⟨k,x,g1,g2⟩:=h2 j v e1;have P:(B.map (·.1))[j]?=some k:=by rw[gMq,g1];rfl
  rw[E,gMq,e2]at P;have e4:(ao m:oq)=k:=by simpa using P
  subst e4;rcases qL (k:=ao m) (v:=v) g2 with ⟨i,t,J,e6⟩|⟨z,t,J,_⟩
  .cases J;exact⟨t,e6⟩
  .cases J
 refine MrS.HL (kdl_dict (knd:=qH X.prog X.w) (d:=a) (kvs:=B) (ep:=ep) sa) (I.ok.hd Y) da (by lia) (Pk:=λx:jq=>∃a t,x.1=gP a t) (lt:=Y4) (λl h1 h2 s'=>⟨λC Q q=>?_,Xh _ _ _ _,λv m=>(FQ (G l h1 h2)).2 v m⟩) λl out R p tk n' h1 h2 S o2 o3 U o4=>?_
 .have L:=G l h1 h2
  match l,L,C with
  | [],_,C=>simp at C
  | [_],_,C=>simp at C
  |v₁::v₂::oY,L,_ =>
   rw[keyKind_ints L];exact jk q
 .obtain ⟨en,hv⟩:=FQ (G l h1 h2);have M:∀v∈out,∃a t,v = .int a t:=λv m=>hv v (S.mem_iff.mp m)
  have e:out.map intOf=qN ns:=by
   refine GS (by rw[en];exact S.map _) ?_
   rw[aF];refine o2.imp_of_mem λ{x y} mx my h=>?_
   obtain⟨a,t,rfl⟩:=M x mx;obtain⟨b,u,rfl⟩:=M y my;have R:¬ b<a:=of_decide_eq_false h;show a<=b;lia
  have hp:H p=none:=I.hok.fresh U;refine⟨.ref p,_,I.laid (t':=tk) o3 U (show qT X.prog X.w _ R _ (.lst ((qN ns).map V.int)) from ⟨?_,out,n',?_,o4⟩),rfl,q _ hp⟩
  .rw [lMq,(qF ns).length_eq,n,←hl];exact hz
  .rw [←e];exact vals_ints M
end
end Mr
namespace Z
open PySem L2 Mr
abbrev St:=L2.St
inductive D where
 |non|bl (b:Bool)|int (i:Int)|str (x:Str)|ty (n:String)|list (xs:List D)|tup (xs:List D)|dict (kvs:List (oq×D))|scr (ns:List Int)|exc (c:Str) (fs:List (Str×Int))|cls (c:Str)|fd (kvs:List (oq×D))|ins (c:Str) (fs:List (Str×D))
inductive rD (K:W.Frag) (H:Hp):D->V->Prop
 |non:rD K H .non .non
 |bl {b:Bool}:rD K H (.bl b) (.bl b)
 |int {i:Int}:rD K H (.int i) (.int i)
 |str {x:Str}:rD K H (.str x) (.str x)
 |ty {n:String}:rD K H (.ty n) (.ty n)
 |list {p:Addr}{vs:List V}{ds:List D}(h:H p=some (.lst vs)) (l:ds.length=vs.length) (e:∀(i:Nat) (d:D) (v:V),ds[i]?=some d->vs[i]?=some v->rD K H d v):rD K H (.list ds) (.ref p)
 |tup {p:Addr}{vs:List V}{ds:List D}(h:H p=some (.tup vs)) (l:ds.length=vs.length) (e:∀(i:Nat) (d:D) (v:V),ds[i]?=some d->vs[i]?=some v->rD K H d v):rD K H (.tup ds) (.ref p)
 |dict {p:Addr}{kvs:List (oq×V)}{ds:List (oq×D)}(h:H p=some (.dK kvs)) (l:ds.map (·.1)=kvs.map (·.1)) (e:∀(i:Nat) (d:oq×D) (v:oq×V),ds[i]?=some d->kvs[i]?=some v->rD K H d.2 v.2):rD K H (.dict ds) (.ref p)
 |scr {p:Addr}{ns:List Int}(h:qV K H p (ns.map V.int)):rD K H (.scr ns) (.ref p)
 |exc {c:Str}{fs:List (Str×Int)}{e C M dx:Addr}(rf:Xe.Y9 K c C M) (nf:∀p∈fs,W.findIn K (.ref C) p.1=some none) (h:H e=some (Xe.ZT e C (some dx))) (hx:H dx=some (.xd (fs.map λp=>(p.1,V.int p.2)))):rD K H (.exc c fs) (.ref e)
 |exc0 {c:Str}{e C M:Addr}(rf:Xe.Y9 K c C M) (h:H e=some (Xe.ZT e C none)):rD K H (.exc c []) (.ref e)
 |cls {c:Str}{C:Addr}(h:Xe.Z8 K c C):rD K H (.cls c) (.ref C)
 |fd {p:Addr}{o:Obj}{kvs:List (oq×V)}{ds:List (oq×D)}(h:H p=some (.frz o (.dK kvs))) (l:ds.map (·.1)=kvs.map (·.1)) (e:∀(i:Nat) (d:oq×D) (v:oq×V),ds[i]?=some d->kvs[i]?=some v->rD K H d.2 v.2):rD K H (.fd ds) (.ref p)
 |ins {c:Str}{a C dx:Addr}{gs:List (Str×V)}{fs:List (Str×D)}(rf:W.nsIn K jr c=some (some (.ref C))) (h:H a=some (.ins C dx gs)) (l:fs.map (·.1)=gs.map (·.1)) (e:∀(i:Nat) (d:Str×D) (v:Str×V),fs[i]?=some d->gs[i]?=some v->rD K H d.2 v.2):rD K H (.ins c fs) (.ref a)
def pK(K:W.Frag) (H:Hp) (ds:List D) (vs:List V):Prop:=ds.length=vs.length/\∀(i:Nat) (d:D) (v:V),ds[i]?=some d->vs[i]?=some v->rD K H d v
def uj(K:W.Frag) (H:Hp) (ds:List (oq×D)) (kvs:List (oq×V)):Prop:=ds.map (·.1)=kvs.map (·.1)/\∀(i:Nat) (d:oq×D) (v:oq×V),ds[i]?=some d->kvs[i]?=some v->rD K H d.2 v.2
section
variable {K:W.Frag}{H H':Hp}
theorem rD.mono{d:D}{v:V}(h:rD K H d v) (s:pJ H H'):rD K H' d v:=by
 induction h with
 |non=>exact .non
 |bl=>exact .bl
 |int=>exact .int
 |str=>exact .str
 |ty=>exact .ty
 |list h l _ n=>exact .list (s _ _ h) l n
 |tup h l _ n=>exact .tup (s _ _ h) l n
 |dict h l _ n=>exact .dict (s _ _ h) l n
 |scr h=>exact .scr (s.seq h)
 |exc r t h u=>exact .exc r t (s _ _ h) (s _ _ u)
 |exc0 r h=>exact .exc0 r (s _ _ h)
 |cls h=>exact .cls h
 |fd h l _ n=>exact .fd (s _ _ h) l n
 |ins r h l _ n=>exact .ins r (s _ _ h) l n
theorem pK.mono{ds:List D}{vs:List V}(h:pK K H ds vs) (s:pJ H H'):pK K H' ds vs:=⟨h.1,λi d v a b=>(h.2 i d v a b).mono s⟩
theorem uj.mono{ds:List (oq×D)}{vs:List (oq×V)}(h:uj K H ds vs) (s:pJ H H'):uj K H' ds vs:=⟨h.1,λi d v a b=>(h.2 i d v a b).mono s⟩
theorem pK.nil:pK K H [] []:=⟨rfl,λi d v a=>by simp at a⟩
theorem pK.cons{d:D}{v:V}{ds:List D}{vs:List V}(h:rD K H d v) (t:pK K H ds vs):pK K H (d::ds) (v::vs):=⟨by simp[t.1],λi e w a b=>by
 cases i with
 |zero =>
  simp at a b;subst a b;exact h
 |succ i=>exact t.2 i e w (by simpa using a) (by simpa using b)⟩
theorem pK.cons_iff{d:D}{v:V}{ds:List D}{vs:List V}:pK K H (d::ds) (v::vs)↔rD K H d v/\pK K H ds vs :=
 ⟨λh=>⟨h.2 0 d v rfl rfl,by have:=h.1;simpa using this,λi e w a b=>h.2 (i+1) e w (by simpa using a) (by simpa using b)⟩,λh=>.cons h.1 h.2⟩
theorem pK.nil_inv{vs:List V}(h:pK K H [] vs):vs=[]:=by
 have:=h.1;cases vs with
 |nil=>rfl
 |cons _ _=>simp at this
theorem pK.cons_inv{d:D}{ds:List D}{vs:List V}(h:pK K H (d::ds) vs):∃v ws,vs=v::ws/\rD K H d v/\pK K H ds ws:=by
 cases vs with
 |nil=>have:=h.1;simp at this
 |cons v ws=>exact⟨v,ws,rfl,pK.cons_iff.mp h⟩
theorem pK.append:∀{ds es:List D}{vs ws:List V},pK K H ds vs->pK K H es ws->pK K H (ds++es) (vs++ws)
 | [],es,vs,ws,h,g=>by rw[h.nil_inv];exact g
 |d::ds,es,vs,ws,h,g=>by
  obtain⟨v,l,rfl,h1,h2⟩:=h.cons_inv;exact .cons h1 (pK.append h2 g)
theorem pK.take{ds:List D}{vs:List V}(h:pK K H ds vs) (n:Nat):pK K H (ds.take n) (vs.take n):=⟨by rw[lTq,lTq,h.1],λi d v a b=>by
 rw[List.getElem?_take]at a b;split at a
 .rename_i l;rw[pQ l]at b;exact h.2 i d v a b
 .cases a⟩
theorem pK.drop{ds:List D}{vs:List V}(h:pK K H ds vs) (n:Nat):pK K H (ds.drop n) (vs.drop n):=⟨by rw[aO,aO,h.1],λi d v a b=>by
 rw[dY]at a b;exact h.2 _ d v a b⟩
theorem pK.get{ds:List D}{vs:List V}(h:pK K H ds vs) {i:Nat}{d:D}(e:ds[i]?=some d):∃v,vs[i]?=some v/\rD K H d v:=by
 have n:i<ds.length:=(gSq.mp e).1;have l:i<vs.length:=h.1 ▸ n;exact⟨vs[i],gEg l,h.2 i d _ e (gEg l)⟩
theorem pK.get'{ds:List D}{vs:List V}(h:pK K H ds vs) {i:Nat}{v:V}(e:vs[i]?=some v):∃d,ds[i]?=some d/\rD K H d v:=by
 have n:i<vs.length:=(gSq.mp e).1;have l:i<ds.length:=h.1.symm ▸ n;exact⟨ds[i],gEg l,h.2 i _ v (gEg l) e⟩
theorem pK.reverse:∀{ds:List D}{vs:List V},pK K H ds vs->pK K H ds.reverse vs.reverse
 | [],vs,h=>by rw[h.nil_inv];exact .nil
 |d::ds,vs,h=>by
  obtain⟨v,l,rfl,h1,h2⟩:=h.cons_inv;rw[ft,ft];exact h2.reverse.append (.cons h1 .nil)
theorem rD.list_inv{ds:List D}{v:V}(h:rD K H (.list ds) v):∃p vs,v = .ref p/\H p=some (.lst vs)/\pK K H ds vs:=by
 cases h with
 |list h l e=>exact⟨_,_,rfl,h,l,e⟩
theorem rD.tup_inv{ds:List D}{v:V}(h:rD K H (.tup ds) v):∃p vs,v = .ref p/\H p=some (.tup vs)/\pK K H ds vs:=by
 cases h with
 |tup h l e=>exact⟨_,_,rfl,h,l,e⟩
theorem rD.dict_inv{ds:List (oq×D)}{v:V}(h:rD K H (.dict ds) v):∃p kvs,v = .ref p/\H p=some (.dK kvs)/\uj K H ds kvs:=by
 cases h with
 |dict h l e=>exact⟨_,_,rfl,h,l,e⟩
theorem rD.mk_tup{ds:List D}{p:Addr}{vs:List V}(h:H p=some (.tup vs)) (r:pK K H ds vs):rD K H (.tup ds) (.ref p):=.tup h r.1 r.2
theorem rD.mk_dict{ds:List (oq×D)}{p:Addr}{vs:List (oq×V)}(h:H p=some (.dK vs)) (r:uj K H ds vs):rD K H (.dict ds) (.ref p):=.dict h r.1 r.2
end
noncomputable def D.scal:D->Bool
 | .non=>true
 | .bl _=>true
 | .int _=>true
 | .str _=>true
 | .ty _=>true
 |_=>false
theorem rD.scal{K:W.Frag}{H l:Hp}{d:D}{v:V}(h:rD K H d v) (s:d.scal=true):rD K l d v:=by
 cases h with
 |non=>exact .non
 |bl=>exact .bl
 |int=>exact .int
 |str=>exact .str
 |ty=>exact .ty
 |_=>cases s
inductive AV where
 |sh (d:D)|ow (avs:List AV)|owd (kvs:List (oq×D))|owl (kvs:List (oq×List Int))
mutual
def oa:AV->D
 | .sh d=>d
 | .ow l=>.list (DV l)
 | .owd kvs=>.dict kvs
 | .owl kvs=>.dict (kvs.map λx=>(x.1,.list (x.2.map .int)))
def DV:List AV->List D
 | []=>[]
 |a::as=>oa a::DV as
end
theorem E1:∀l:List AV,DV l=l.map oa
 | []=>by simp[DV]
 |a::as=>by simp[DV,E1 as]
@[simp] theorem tJ (d:D):oa (.sh d)=d:=by simp[oa]
@[simp] theorem tL (l:List AV):oa (.ow l) = .list (l.map oa):=by simp[oa,E1]
@[simp] theorem B7 (kvs:List (oq×D)):oa (.owd kvs) = .dict kvs:=by simp[oa]
theorem Fu(kvs:List (oq×List Int)):oa (.owl kvs) = .dict (kvs.map λx=>(x.1,.list (x.2.map .int))):=by simp[oa]
inductive oZ (K:W.Frag) (Hf H:Hp):AV->V->List Addr->Prop
 |sh {d:D}{v:V}(r:rD K Hf d v):oZ K Hf H (.sh d) v []
 |ow {p:Addr}{vs:List V}{avs:List AV}{Fs:List (List Addr)}(h:H p=some (.lst vs)) (n:Hf p=none) (l:avs.length=vs.length) (lf:avs.length=Fs.length)
   (e:∀(i:Nat) (a:AV) (v:V) (F:List Addr),avs[i]?=some a->vs[i]?=some v->Fs[i]?=some F->oZ K Hf H a v F):oZ K Hf H (.ow avs) (.ref p) (p::Fs.flatten)
 |owd {p:Addr}{kvs:List (oq×V)}{ds:List (oq×D)}(h:H p=some (.dK kvs)) (n:Hf p=none) (r:uj K Hf ds kvs):oZ K Hf H (.owd ds) (.ref p) [p]
 |owl {p:Addr}{kvs:List (oq×List Int)}{qs:List Addr}(h:H p=some (.dK (cc (λx q=>(x.1,V.ref q)) kvs qs))) (n:Hf p=none) (l:kvs.length=qs.length) (e:∀(i:Nat) (q:Addr) (x:oq×List Int),qs[i]?=some q->kvs[i]?=some x->H q=some (.lst (x.2.map V.int))/\Hf q=none):oZ K Hf H (.owl kvs) (.ref p) (p::qs)
theorem LC{K:W.Frag}{H:Hp}{p:Addr}{kvs:List (oq×List Int)}{r:List Addr}(h:H p=some (.dK (cc (λx q=>(x.1,V.ref q)) kvs r))) (l:kvs.length=r.length) (e:∀(i:Nat) (q:Addr) (x:oq×List Int),r[i]?=some q->kvs[i]?=some x->H q=some (.lst (x.2.map V.int))):rD K H (.dict (kvs.map λx=>(x.1,.list (x.2.map .int)))) (.ref p):=by
 refine .dict h ?_ λi d v h1 h2=>?_
 .refine dC λi=>?_
  rw[gMq,gMq,gMq,du]
  by_cases c:i<kvs.length
  .rw [gEg c,gEg (l ▸ c)];rfl
  .rw [bb (gq c)];rfl
 .rw [gMq]at h1;rw[du]at h2;cases s:kvs[i]? with
  |none=>rw[s]at h1;cases h1
  |some x =>
   cases t:r[i]? with
   |none=>rw[s,t]at h2;cases h2
   |some q =>
    rw[s]at h1 h2;rw[t]at h2;cases h1;cases h2;refine .list (e i q x t s) (by rw[lMq,lMq]) λj d v n u=>?_
    rw[gMq]at n u;cases y:x.2[j]? with
    |none=>rw[y]at n;cases n
    |some m =>
     rw[y]at n u;cases n;cases u;exact .int
theorem VM{kvs:List (oq×List Int)}{n:List Addr}(l:kvs.length=n.length) {q:Addr}(s:q∈n):∃(i:Nat) (x:oq×List Int),n[i]?=some q/\kvs[i]?=some x:=by
 obtain⟨i,r⟩:=ay.mp s;have hl:=(gSq.mp r).1;exact⟨i,_,r,gEg (l ▸ hl)⟩
section
variable {K:W.Frag}{Hf Hf' H H':Hp}{av:AV}{v:V}{F:List Addr}
theorem oZ.owned(h:oZ K Hf H av v F):∀q∈F,H q≠none/\Hf q=none:=by
 induction h with
 |sh _=>intro q s;cases s
 | @ow p u t y h n l lf e B =>
  intro q s;rcases ar.mp s with rfl|s
  .exact ⟨by rw[h];simp,n⟩
  .obtain ⟨F,C,s⟩:=mFq.mp s;obtain⟨i,I,rfl⟩:=cC.mp C;exact B i t[i] u[i] y[i] (by simp) (by simp) (by simp) q s
 |owd h n r =>
  intro q s;have:=mSq.mp s;subst this;exact⟨by rw[h];simp,n⟩
 |owl h n l e =>
  intro q s;rcases ar.mp s with z|z
  .rw [z];exact⟨by rw[h];simp,n⟩
  .obtain ⟨i,x,h1,h2⟩:=VM l z;obtain⟨E,G⟩:=e i q x h1 h2;exact⟨by rw[E];simp,G⟩
theorem oZ.keep(h:oZ K Hf H av v F) (s:pJ Hf Hf') (t:∀q∈F,H' q=H q) (hn:∀q∈F,Hf' q=none):oZ K Hf' H' av v F:=by
 induction h with
 |sh r=>exact .sh (r.mono s)
 | @ow p G z I h n l lf e B =>
  refine .ow (by rw[t p (by simp)];exact h) (hn p (by simp)) l lf λi a v F h1 h2 u=>B i a v F h1 h2 u (λq y=>t q ?_) λq y=>hn q ?_
  all_goals exact mCo _ (mFq.mpr ⟨F,mGq u,y⟩)
 |owd h n r=>exact .owd (by rw[t _ (by simp)];exact h) (hn _ (by simp)) (r.mono s)
 | @owl p C E h n l e =>
  refine .owl (by rw[t _ (aw ..)];exact h) (hn _ (aw ..)) l λi q x h1 h2=>?_
  have m:q∈p::E:=mCo _ (mGq h1);exact⟨by rw[t q m];exact(e i q x h1 h2).1,hn q m⟩
theorem oZ.rep(h:oZ K Hf H av v F) (s:pJ Hf H):rD K H (oa av) v:=by
 induction h with
 |sh r=>rw[tJ];exact r.mono s
 | @ow p C u y h n l lf e z =>
  rw[tL];refine .list h (by simp[l]) λi d v h1 h2=>?_
  rw[gMq]at h1;cases t:u[i]? with
  |none=>rw[t]at h1;cases h1
  |some a =>
   rw[t]at h1;cases h1;have B:i<y.length:=lf ▸ (gSq.mp t).1;exact z i a v y[i] t h2 (gEg B)
 |owd h n r=>rw[B7];exact .mk_dict h (r.mono s)
 |owl h n l e=>rw[Fu];exact LC h l λi q x h1 h2=>(e i q x h1 h2).1
noncomputable def frz(Hf H:Hp) (F:List Addr):Hp:=λb=>if b∈F then H b else Hf b
theorem Bd{b:Addr}(h:b∈F):frz Hf H F b=H b:=pQ h
theorem um{b:Addr}(h:b∉F):frz Hf H F b=Hf b:=qk h
theorem sS(h:∀q∈F,Hf q=none):pJ Hf (frz Hf H F):=λb o e=>by
 rw[um λm=>by rw[h b m]at e;cases e]
 exact e
theorem R5(s:pJ Hf H):pJ (frz Hf H F) H:=λb o e=>by
 by_cases m:b∈F
 .rw [Bd m]at e;exact e
 .rw [um m]at e;exact s b o e
theorem oZ.frozen(h:oZ K Hf H av v F) (s:pJ Hf Hf') (t:∀q∈F,Hf' q=H q):rD K Hf' (oa av) v:=by
 induction h with
 |sh r=>rw[tJ];exact r.mono s
 | @ow p G y z h n l lf e C =>
  rw[tL];refine .list (by rw[t p (by simp)];exact h) (by simp[l]) λi d v h1 h2=>?_
  rw[gMq]at h1;cases u:y[i]? with
  |none=>rw[u]at h1;cases h1
  |some a =>
   rw[u]at h1;cases h1;have B:i<z.length:=lf ▸ (gSq.mp u).1;exact C i a v z[i] u h2 (gEg B) λq E=>t q (mCo _ (mFq.mpr ⟨z[i],gRq B,E⟩))
 |owd h n r=>rw[B7];exact .mk_dict (by rw[t _ (by simp)];exact h) (r.mono s)
 |owl h n l e=>rw[Fu];exact LC (by rw[t _ (aw ..)];exact h) l λi q x h1 h2=>by rw[t q (mCo _ (mGq h1))];exact(e i q x h1 h2).1
end
abbrev AS:=List (Option AV)
structure pP (K:W.Frag) (H₀ Hf₀ Hf:Hp) (S:AS) (σ:St) (H:Hp) (Fs:List (List Addr)):Prop where
 len:S.length=σ.length
 lenF:Fs.length=S.length
 rep:∀(i:Nat) (av:AV),S[i]?=some (some av)->∃v F,σ[i]?=some (some v)/\Fs[i]?=some F/\oZ K Hf H av v F
 emp:∀i:Nat,S[i]?=some none->Fs[i]?=some []
 nd:Fs.flatten.Nodup
 fresh:∀p∈Fs.flatten,H₀ p=none
 sub:pJ Hf H
 fr:pJ H₀ H
 lim:∀b,Hf₀ b=none->H₀ b≠none->Hf b=none
 sf:pJ Hf₀ Hf
structure ze (Hf H:Hp) (Fs:List (List Addr)) (Hf' H':Hp) (Fs':List (List Addr)):Prop where
 sf:pJ Hf Hf'
 sh:pJ H H'
 own:∀p∈Fs'.flatten,p∈Fs.flatten
 gr:∀b,Hf b=none->Hf' b≠none->H b=none∨b∈Fs.flatten
theorem ze.refl{Hf H:Hp}{l:List (List Addr)}:ze Hf H l Hf H l:=⟨.refl _,.refl _,λ_ h=>h,λb h g=>absurd h g⟩
theorem TZ{H l:Hp}(s:pJ H l) {b:Addr}(h:H b≠none):l b≠none:=by
 cases e:H b with
 |none=>exact absurd e h
 |some o=>rw[s b o e];simp
theorem ze.trans{Hf H Hf1 n l r:Hp}{s Fs1 Fs2:List (List Addr)}(a:ze Hf H s Hf1 n Fs1) (b:ze Hf1 n Fs1 l r Fs2):ze Hf H s l r Fs2 :=
 ⟨a.sf.trans b.sf,a.sh.trans b.sh,λp h=>a.own p (b.own p h),λc h g=>by
  by_cases e:Hf1 c=none
  .rcases b.gr c e g with q|q
   .exact .inl (a.sh.free q)
   .exact .inr (a.own c q)
  .exact a.gr c h e⟩
section
variable {K:W.Frag}{H₀ Hf₀ Hf Hf' H H':Hp}{S:AS}{σ:St}{Fs Fs':List (List Addr)}
theorem Lv{b:Addr}(s:pJ H H') (h:H b≠none):H' b=H b:=by
 cases e:H b with
 |none=>exact absurd e h
 |some o=>exact s b o e
theorem pP.mem(R:pP K H₀ Hf₀ Hf S σ H Fs) {q:Addr}(h:q∈Fs.flatten):H q≠none/\Hf q=none:=by
 obtain⟨F,u,n⟩:=mFq.mp h;obtain⟨i,s,rfl⟩:=cC.mp u;have l:i<S.length:=R.lenF ▸ s;cases e:S[i] with
 |none =>
  have:=R.emp i (by rw[gEg l,e])
  rw[gEg s]at this;rw[aT.inj this]at n;cases n
 |some x =>
  obtain⟨v,F,_,t,r⟩:=R.rep i x (by rw[gEg l,e])
  rw[gEg s]at t;rw[aT.inj t]at n;exact r.owned q n
theorem pP.more(R:pP K H₀ Hf₀ Hf S σ H Fs) (s:pJ H H') (sf:pJ Hf Hf') (sub:pJ Hf' H') (hn:∀q∈Fs.flatten,Hf' q=none) (lim:∀b,Hf₀ b=none->H₀ b≠none->Hf' b=none):pP K H₀ Hf₀ Hf' S σ H' Fs where
 len:=R.len
 lenF:=R.lenF
 rep:=λi t e=>by
  obtain⟨v,F,u,n,r⟩:=R.rep i t e;refine⟨v,F,u,n,r.keep sf (λq l=>Lv s (r.owned q l).1) λq l=>hn q (mFq.mpr ⟨F,mGq n,l⟩)⟩
 emp:=R.emp
 nd:=R.nd
 fresh:=R.fresh
 sub:=sub
 fr:=R.fr.trans s
 lim:=lim
 sf:=R.sf.trans sf
theorem pP.laid(R:pP K H₀ Hf₀ Hf S σ H Fs) (s:pJ H H'):pP K H₀ Hf₀ Hf S σ H' Fs:=R.more s (.refl _) (R.sub.trans s) (λq h=>(R.mem h).2) R.lim
theorem sF{F:List Addr}{i:Nat}{p:Addr}(h:p∈(Fs.set i F).flatten):p∈F∨p∈Fs.flatten:=by
 obtain⟨G,n,l⟩:=mFq.mp h;rcases List.mem_or_eq_of_mem_set n with q|q
 .exact .inr (mFq.mpr ⟨G,q,l⟩)
 .subst q;exact .inl l
theorem se:∀{Fs:List (List Addr)}{F:List Addr}(i:Nat),Fs.flatten.Nodup->F.Nodup->(∀p∈F,p∉Fs.flatten)->(Fs.set i F).flatten.Nodup
 | [],F,i,h,_,_=>by simp
 |G::Gs,F,0,h,hF,hd=>by
  rw[fb,fCq,nAq];rw[fCq,nAq]at h;refine⟨hF,h.2.1,λa l b n e=>hd a l ?_⟩
  rw[fCq];exact aC _ (e ▸ n)
 |G::Gs,F,i+1,h,hF,hd=>by
  rw[fe,fCq,nAq];rw[fCq,nAq]at h;refine⟨h.1,se i h.2.1 hF λp r m=>hd p r (by rw[fCq];exact aC _ m),λa l b n e=>?_⟩
  rcases sF n with q|q
  .exact hd b q (by rw[fCq];exact bQ _ (e ▸ l))
  .exact h.2.2 a l b q e
theorem pP.set(R:pP K H₀ Hf₀ Hf S σ H Fs) {s:AV}{v:V}{F:List Addr}(i:Nat) (r:oZ K Hf H s v F) (nd:F.Nodup) (t:∀q∈F,H₀ q=none/\q∉Fs.flatten) :
  pP K H₀ Hf₀ Hf (S.set i (some s)) (σ.set i (some v)) H (Fs.set i F) where
 len:=by simp[R.len]
 lenF:=by simp[R.lenF]
 rep:=λj a e=>by
  rw[bG]at e
  by_cases l:i=j
  .subst l;rw[pQ rfl]at e;split at e
   .rename_i u;cases e;exact⟨v,F,by rw[aQ (R.len ▸ u)],by rw[aQ (R.lenF.symm ▸ u)],r⟩
   .cases e
  .rw [qk l]at e;obtain⟨w,G,x,y,q⟩:=R.rep j a e;exact⟨w,G,by rw[aG l];exact x,by rw[aG l];exact y,q⟩
 emp:=λj e=>by
  rw[bG]at e
  by_cases l:i=j
  .subst l;rw[pQ rfl]at e;split at e <;> cases e
  .rw [qk l]at e;rw[aG l];exact R.emp j e
 nd:=se i R.nd nd λp n=>(t p n).2
 fresh:=λp n=>by
  rcases sF n with q|q
  .exact (t p q).1
  .exact R.fresh p q
 sub:=R.sub
 fr:=R.fr
 lim:=R.lim
 sf:=R.sf
theorem qY{i:Nat}{p:Addr}(h:p∈(Fs.set i []).flatten):p∈Fs.flatten:=by
 rcases sF h with q|q
 .cases q
 .exact q
theorem uR:∀{Fs:List (List Addr)}{F:List Addr}{i:Nat}{p:Addr},Fs.flatten.Nodup->Fs[i]?=some F->p∈F->p∉(Fs.set i []).flatten
 | [],F,i,p,_,e,_,_=>by simp at e
 |G::Gs,F,0,p,h,e,l,m=>by
  simp at e;subst e;rw[fb,fCq,eY]at m;rw[fCq,nAq]at h;exact h.2.2 p l p m rfl
 |G::Gs,F,i+1,p,h,e,l,m=>by
  rw[fe,fCq]at m;rw[fCq,nAq]at h;have n:Gs[i]?=some F:=by simpa using e
  rcases mAq.mp m with q|q
  .exact h.2.2 p q p (mFq.mpr ⟨F,mGq n,l⟩) rfl
  .exact uR h.2.1 n l q
theorem pP.move(R:pP K H₀ Hf₀ Hf S σ H Fs) {i:Nat}{u:AV}(e:S[i]?=some (some u)):∃v F,σ[i]?=some (some v)/\Fs[i]?=some F/\oZ K Hf H u v F/\F.Nodup/\(∀q∈F,H₀ q=none/\q∉(Fs.set i []).flatten) /\
  pP K H₀ Hf₀ Hf (S.set i none) σ H (Fs.set i []):=by
 obtain⟨v,F,z,s,r⟩:=R.rep i u e;have x:∀q∈F,q∈Fs.flatten:=λq t=>mFq.mpr ⟨F,mGq s,t⟩
 refine⟨v,F,z,s,r,bj.sublist (aK (mGq s)) R.nd,λq t=>⟨R.fresh q (x q t),uR R.nd s t⟩,?_⟩
 refine⟨by simp[R.len],by simp[R.lenF],λj a n=>?_,λj n=>?_,se i R.nd aY (λp y=>by cases y),λp y=>R.fresh p (qY y),R.sub,R.fr,R.lim,R.sf⟩
 .rw [bG]at n
  by_cases l:i=j
  .subst l;rw[pQ rfl]at n;split at n <;> cases n
  .rw [qk l]at n;obtain⟨w,G,B,C,q⟩:=R.rep j a n;exact⟨w,G,B,by rw[aG l];exact C,q⟩
 .rw [bG]at n
  by_cases l:i=j
  .subst l;rw[pQ rfl]at n;split at n
   .rename_i E;rw[aQ (R.lenF.symm ▸ E)]
   .cases n
  .rw [qk l]at n;rw[aG l];exact R.emp j n
theorem pP.frz(R:pP K H₀ Hf₀ Hf S σ H Fs) {F:List Addr}(l:∀q∈F,H₀ q=none/\q∉Fs.flatten) (hn:∀q∈F,Hf q=none):pP K H₀ Hf₀ (frz Hf H F) S σ H Fs:=by
 refine R.more (.refl _) (sS hn) (R5 R.sub) (λq n=>?_) λb h1 h2=>?_
 .rw [um λm=>(l q m).2 n]
  exact(R.mem n).2
 .rw [um λm=>h2 (l b m).1]
  exact R.lim b h1 h2
end
abbrev ME:=AS->Option (D×AS)
abbrev MK:=AS->Option (AV×AS)
abbrev ML:=AS->Option (List D×AS)
abbrev MT:=AS->Option (Bool×AS)
abbrev MA:=AS->Option (List AV×AS)
def pb(K:W.Frag) (Hf H:Hp) (l:List AV) (vs:List V) (n:List (List Addr)):Prop :=
 l.length=vs.length/\l.length=n.length/\∀(i:Nat) (a:AV) (v:V) (F:List Addr),l[i]?=some a->vs[i]?=some v->n[i]?=some F->oZ K Hf H a v F
structure xN (H₀ H:Hp) (Fs Fs':List (List Addr)) (F:List Addr):Prop where
 nd:F.Nodup
 fr:∀q∈F,H₀ q=none
 out:∀q∈F,q∉Fs'.flatten
 new:∀q∈F,H q=none∨q∈Fs.flatten
theorem xN.nil{H₀ H:Hp}{n l:List (List Addr)}:xN H₀ H n l []:=⟨aY,λq h=>(by cases h),λq h=>(by cases h),λq h=>(by cases h)⟩
section
variable (K:W.Frag)
def SR(te:TE) (m:ME):Prop:=∀{H₀ l Hf:Hp}{S:AS}{σ:St}{H:Hp}{t:List (List Addr)}{d:D}{S':AS},pP K H₀ l Hf S σ H t->m S=some (d,S')->∀Q:VK,
 (∀n s r v,ze Hf H t n s r->pP K H₀ l n S' σ s r->rD K s d v->Q v s)->te σ H Q
def SK(te:TE) (m:MK):Prop:=∀{H₀ l Hf:Hp}{S:AS}{σ:St}{H:Hp}{t:List (List Addr)}{a:AV}{S':AS},pP K H₀ l Hf S σ H t->m S=some (a,S')->∀Q:VK,
 (∀n s r v F,ze Hf H t n s r->pP K H₀ l n S' σ s r->oZ K n s a v F->xN H₀ H t r F->Q v s)->te σ H Q
def SL(te:TE) (m:ML):Prop:=∀{H₀ l Hf:Hp}{S:AS}{σ:St}{H:Hp}{t:List (List Addr)}{ds:List D}{S':AS},pP K H₀ l Hf S σ H t->m S=some (ds,S')->∀Q:VK,
 (∀n s r p vs,ze Hf H t n s r->pP K H₀ l n S' σ s r->s p=some (.lst vs)->pK K n ds vs->Q (.ref p) s)->te σ H Q
def Hd(u:TT) (m:MT):Prop:=∀{H₀ l Hf:Hp}{S:AS}{σ:St}{H:Hp}{t:List (List Addr)}{b:Bool}{S':AS},pP K H₀ l Hf S σ H t->m S=some (b,S')->∀Q:Bool->Hp->Prop,
 (∀n s r,ze Hf H t n s r->pP K H₀ l n S' σ s r->Q b s)->u σ H Q
def SA(x:TA) (m:MA):Prop:=∀{H₀ l Hf:Hp}{S:AS}{σ:St}{H:Hp}{t:List (List Addr)}{as:List AV}{S':AS},pP K H₀ l Hf S σ H t->m S=some (as,S')->∀Q:List V->Hp->Prop,
 (∀n s r vs u,ze Hf H t n s r->pP K H₀ l n S' σ s r->pb K n s as vs u->xN H₀ H t r u.flatten->Q vs s)->x σ H Q
def Rm(u:TA) (m:ML):Prop:=∀{H₀ l Hf:Hp}{S:AS}{σ:St}{H:Hp}{t:List (List Addr)}{ds:List D}{S':AS},pP K H₀ l Hf S σ H t->m S=some (ds,S')->∀Q:List V->Hp->Prop,
 (∀n s r vs,ze Hf H t n s r->pP K H₀ l n S' σ s r->pK K s ds vs->Q vs s)->u σ H Q
end
section
variable {K:W.Frag}{H₀ Hf₀ Hf Hf' H H':Hp}{S S':AS}{σ:St}{Fs Fs':List (List Addr)}
theorem oZ.stp{n:AV}{v:V}{F:List Addr}(r:oZ K Hf H n v F) (s:∀q∈F,q∉Fs.flatten) (t:ze Hf H Fs Hf' H' Fs'):oZ K Hf' H' n v F :=
 r.keep t.sf (λq l=>Lv t.sh (r.owned q l).1) λq l=>by
  by_cases e:Hf' q=none
  .exact e
  .rcases t.gr q (r.owned q l).2 e with z|z
   .exact absurd z (r.owned q l).1
   .exact absurd z (s q l)
theorem pP.new(R:pP K H₀ Hf₀ Hf S σ H Fs) {p:Addr}{o:HO}(l:H p=none):ze Hf H Fs Hf (qG H p o) Fs/\pP K H₀ Hf₀ Hf S σ (qG H p o) Fs/\Hf p=none/\H₀ p=none/\p∉Fs.flatten :=
 ⟨⟨.refl _,uS l,λ_ h=>h,λb h g=>absurd h g⟩,R.laid (uS l),R.sub.free l,R.fr.free l,λm=>(R.mem m).1 l⟩
theorem uz(n:Nat):(bN n ([]:List Addr)).flatten=[]:=by
 induction n with
 |zero=>rfl
 |succ n l=>rw[hU,fCq,l];rfl
theorem oZ.new{p:Addr}{vs:List V}{ds:List D}(h:H p=some (.lst vs)) (n:Hf p=none) (r:pK K Hf ds vs):oZ K Hf H (.ow (ds.map .sh)) (.ref p) [p]:=by
 have e:[p]=p::(bN ds.length ([]:List Addr)).flatten:=by rw[uz]
 rw[e];refine .ow h n (by simp[r.1]) (by simp) λi a v F h1 h2 l=>?_
 rw[gMq]at h1;cases q:ds[i]? with
 |none=>rw[q]at h1;cases h1
 |some d =>
  rw[q]at h1;cases h1;have:F=[]:=dO (mGq l);subst this;exact .sh (r.2 i d v q h2)
theorem oZ.news{p:Addr}{vs:List V}{l:List AV}{s:List (List Addr)}(h:H p=some (.lst vs)) (n:Hf p=none) (r:pb K Hf H l vs s):oZ K Hf H (.ow l) (.ref p) (p::s.flatten):=.ow h n r.1 r.2.1 r.2.2
theorem oZ.ow_inv{r:List AV}{v:V}{F:List Addr}(h:oZ K Hf H (.ow r) v F):∃p vs s,v = .ref p/\F=p::s.flatten/\H p=some (.lst vs)/\Hf p=none/\pb K Hf H r vs s:=by
 cases h with
 |ow h n l lf e=>exact⟨_,_,_,rfl,rfl,h,n,l,lf,e⟩
theorem oZ.owd_inv{ds:List (oq×D)}{v:V}{F:List Addr}(h:oZ K Hf H (.owd ds) v F):∃p kvs,v = .ref p/\F=[p]/\H p=some (.dK kvs)/\Hf p=none/\uj K Hf ds kvs:=by
 cases h with
 |owd h n r=>exact⟨_,_,rfl,rfl,h,n,r⟩
theorem oZ.sh_inv{d:D}{v:V}{F:List Addr}(h:oZ K Hf H (.sh d) v F):F=[]/\rD K Hf d v:=by
 cases h with
 |sh r=>exact⟨rfl,r⟩
theorem pP.give{l:Hp}{Fs1:List (List Addr)}(R:pP K H₀ Hf₀ Hf' S σ l Fs1) (t:ze Hf H Fs Hf' l Fs1) {u:AV}{v:V}{F:List Addr}(r:oZ K Hf' l u v F) (o:xN H₀ H Fs Fs1 F) :
  pP K H₀ Hf₀ (Z.frz Hf' l F) S σ l Fs1/\rD K (Z.frz Hf' l F) (oa u) v/\ze Hf H Fs (Z.frz Hf' l F) l Fs1:=by
 have n:∀q∈F,Hf' q=none:=λq s=>(r.owned q s).2
 refine⟨R.frz (λq s=>⟨o.fr q s,o.out q s⟩) n,r.frozen (sS n) λq s=>Bd s,t.sf.trans (sS n),t.sh,t.own,λb h g=>?_⟩
 by_cases m:b∈F
 .exact o.new b m
 .rw [um m]at g;exact t.gr b h g
theorem pb.nil:pb K Hf H [] [] []:=⟨rfl,rfl,λi a v F h=>by simp at h⟩
theorem pb.cons{a:AV}{v:V}{F:List Addr}{as:List AV}{vs:List V}{n:List (List Addr)}(h:oZ K Hf H a v F) (t:pb K Hf H as vs n):pb K Hf H (a::as) (v::vs) (F::n) :=
 ⟨by simp[t.1],by simp[t.2.1],λi b w G h1 h2 l=>by
  cases i with
  |zero =>
   simp at h1 h2 l;subst h1 h2 l;exact h
  |succ i=>exact t.2.2 i b w G (by simpa using h1) (by simpa using h2) (by simpa using l)⟩
theorem pb.nil_inv{vs:List V}{l:List (List Addr)}(h:pb K Hf H [] vs l):vs=[]/\l=[]:=by
 obtain⟨a,b,_⟩:=h;exact⟨cE.mp a.symm,cE.mp b.symm⟩
theorem pb.cons_inv{a:AV}{as:List AV}{vs:List V}{n:List (List Addr)}(h:pb K Hf H (a::as) vs n):∃v ws F l,vs=v::ws/\n=F::l/\oZ K Hf H a v F/\pb K Hf H as ws l:=by
 obtain⟨h1,h2,r⟩:=h;cases vs with
 |nil=>simp at h1
 |cons v ws =>
  cases n with
  |nil=>simp at h2
  |cons F l=>exact⟨v,ws,F,l,rfl,rfl,r 0 a v F rfl rfl rfl,by simpa using h1,by simpa using h2,λi b w G s t u=>r (i+1) b w G (by simpa using s) (by simpa using t) (by simpa using u)⟩
theorem pb.frozen(h:pb K Hf H as vs Gs) (s:pJ Hf Hf') (r:∀q∈Gs.flatten,Hf' q=H q):pK K Hf' (as.map oa) vs :=
 ⟨by simp[h.1],λi d v h1 h2=>by
  rw[gMq]at h1;cases l:as[i]? with
  |none=>rw[l]at h1;cases h1
  |some a =>
   rw[l]at h1;cases h1;have n:i<Gs.length:=h.2.1 ▸ (gSq.mp l).1;exact(h.2.2 i a v Gs[i] l h2 (gEg n)).frozen s λq t=>r q (mFq.mpr ⟨Gs[i],gRq n,t⟩)⟩
theorem pb.owned(h:pb K Hf H as vs Gs):∀q∈Gs.flatten,H q≠none/\Hf q=none:=λq l=>by
 obtain⟨F,r,l⟩:=mFq.mp l;obtain⟨i,n,rfl⟩:=cC.mp r;have h1:i<as.length:=h.2.1.symm ▸ n;have h2:i<vs.length:=h.1 ▸ h1;exact(h.2.2 i as[i] vs[i] Gs[i] (gEg h1) (gEg h2) (gEg n)).owned q l
theorem pP.gives{l:Hp}{Fs1:List (List Addr)}(R:pP K H₀ Hf₀ Hf' S σ l Fs1) (t:ze Hf H Fs Hf' l Fs1) {as:List AV}{vs:List V}{s:List (List Addr)}(r:pb K Hf' l as vs s) (o:xN H₀ H Fs Fs1 s.flatten) :
  pP K H₀ Hf₀ (Z.frz Hf' l s.flatten) S σ l Fs1/\pK K (Z.frz Hf' l s.flatten) (as.map oa) vs/\ze Hf H Fs (Z.frz Hf' l s.flatten) l Fs1:=by
 have n:∀q∈s.flatten,Hf' q=none:=λq u=>(r.owned q u).2
 refine⟨R.frz (λq u=>⟨o.fr q u,o.out q u⟩) n,r.frozen (sS n) λq u=>Bd u,t.sf.trans (sS n),t.sh,t.own,λb h g=>?_⟩
 by_cases m:b∈s.flatten
 .exact o.new b m
 .rw [um m]at g;exact t.gr b h g
theorem xN.stp{Hf1 n l r:Hp}{Fs1 Fs2:List (List Addr)}{F:List Addr}(o:xN H₀ H Fs Fs1 F) (t:ze Hf1 n Fs1 l r Fs2):xN H₀ H Fs Fs2 F:=⟨o.nd,o.fr,λq h m=>o.out q h (t.own q m),o.new⟩
theorem xN.back{Hf1 l:Hp}{Fs1 Fs2:List (List Addr)}{F:List Addr}(t:ze Hf H Fs Hf1 l Fs1) (o:xN H₀ l Fs1 Fs2 F):xN H₀ H Fs Fs2 F:=⟨o.nd,o.fr,o.out,λq h=>(o.new q h).elim (λe=>.inl (t.sh.free e)) λm=>.inr (t.own q m)⟩
theorem xN.app{F G:List Addr}(a:xN H₀ H Fs Fs' F) (b:xN H₀ H Fs Fs' G) (d:∀q∈F,q∉G):xN H₀ H Fs Fs' (F++G) :=
 ⟨nAq.mpr ⟨a.nd,b.nd,λx l y n e=>d x l (e ▸ n)⟩,λq h=>(mAq.mp h).elim (a.fr q) (b.fr q),λq h=>(mAq.mp h).elim (a.out q) (b.out q),λq h=>(mAq.mp h).elim (a.new q) (b.new q)⟩
theorem xN.apart{Hf1 l:Hp}{Fs1 Fs2:List (List Addr)}{F G:List Addr}(a:xN H₀ H Fs Fs1 F) (n:∀q∈F,l q≠none) (b:xN H₀ l Fs1 Fs2 G):∀q∈F,q∉G:=λq h m=>by
 rcases b.new q m with e|e
 .exact n q h e
 .exact a.out q h e
theorem xN.one(R:pP K H₀ Hf₀ Hf S σ H Fs) {p:Addr}(l:H p=none):xN H₀ H Fs Fs [p] :=
 ⟨by simp,λq h=>by rw[mSq.mp h];exact R.fr.free l,λq h m=>by rw[mSq.mp h]at m;exact(R.mem m).1 l,λq h=>by rw[mSq.mp h];exact .inl l⟩
end
noncomputable def nC(i:Nat):ME:=λS=>(S[i]?.join).map λa=>(oa a,S)
noncomputable def og(i:Nat):MK:=λS=>(S[i]?.join).map λa=>(.sh (oa a),S.set i (some (.sh (oa a))))
noncomputable def zB(i:Nat):MK:=λS=>(S[i]?.join).map λa=>(a,S.set i none)
noncomputable def Jr(i:Nat):ML:=λS=>match S[i]?.join with
 |some (.sh (.list ds))=>some (ds,S)
 |some (.ow l)=>some (l.map oa,S.set i (some (.ow ((l.map oa).map .sh))))
 |_=>none
noncomputable def rOf(k:MK):ME:=λS=>(k S).map λx=>(oa x.1,x.2)
def kSc(m:ME):MK:=λS=>(m S).bind λx=>if x.1.scal then some (.sh x.1,x.2) else none
noncomputable def lOf(k:MK):ML:=λS=>(k S).bind λx=>match x.1 with
 | .sh (.list ds)=>some (ds,x.2)
 | .ow l=>some (l.map oa,x.2)
 |_=>none
noncomputable def vQ(k:MK):MK:=λS=>(k S).map λx=>(.sh (oa x.1),x.2)
def rC(d:D):ME:=λS=>if d.scal then some (d,S) else none
section
variable {K:W.Frag}
theorem pN{S:AS}{i:Nat}{a:AV}(h:S[i]?.join=some a):S[i]?=some (some a):=by
 cases e:S[i]? with
 |none=>rw[e]at h;cases h
 |some z=>rw[e]at h;exact congrArg some h
theorem nv(i:Nat):SR K (zo i) (nC i):=by
 intro H₀ l t S σ H u d x R e Q q;obtain⟨a,n,e⟩:=oMq.mp e;cases e;obtain⟨v,F,s,y,r⟩:=R.rep i a (pN n);exact⟨v,s,q _ _ _ v .refl R (r.rep R.sub)⟩
theorem uc(i:Nat):SK K (zo i) (zB i):=by
 intro H₀ n z S σ H B a C R e Q q;obtain⟨b,s,e⟩:=oMq.mp e;cases e;obtain⟨v,F,t,u,r,nd,o,x⟩:=R.move (pN s);exact⟨v,t,q _ _ _ v F ⟨.refl _,.refl _,λp y=>qY y,λb h g=>absurd h g⟩ x r ⟨nd,λq l=>(o q l).1,λq l=>(o q l).2,λq l=>.inr (mFq.mpr ⟨F,mGq u,l⟩)⟩⟩
theorem pP.again{H₀ l Hf H:Hp}{S:AS}{σ:St}{n:List (List Addr)}{i:Nat}{s:AV}{v:V}{F G:List Addr}(R:pP K H₀ l Hf (S.set i none) σ H (n.set i [])) (t:σ[i]?=some (some v)) (r:oZ K Hf H s v G) (nd:G.Nodup) (u:∀q∈G,H₀ q=none/\q∉(n.set i []).flatten) :
  pP K H₀ l Hf (S.set i (some s)) σ H (n.set i G):=by
 have R2:=R.set i r nd u;rw[fQ,fQ]at R2;have e:σ.set i (some v)=σ:=by
  obtain⟨x,y⟩:=gSq.mp t;rw[←y];exact fD x
 rw[e]at R2;exact R2
theorem nP(i:Nat):SK K (zo i) (og i):=by
 intro H₀ l x S σ H I a J R e Q q;obtain⟨b,y,e⟩:=oMq.mp e;cases e;obtain⟨v,F,t,z,r,nd,o,B⟩:=R.move (pN y);have n:∀q∈F,x q=none:=λq s=>(r.owned q s).2
 have R2:=B.frz o n;have u:=r.frozen (sS (H:=H) n) λq s=>Bd s
 have C:=R2.again (F:=F) (G:=[]) t (.sh u) aY λq h=>(by cases h)
 refine⟨v,t,q _ _ _ v [] ⟨sS n,.refl _,λp E=>qY E,λb h g=>?_⟩ C (.sh u) .nil⟩
 by_cases m:b∈F
 .exact .inr (mFq.mpr ⟨F,mGq z,m⟩)
 .rw [um m]at g;exact absurd h g
theorem Gx(i:Nat):SL K (zo i) (Jr i):=by
 intro H₀ u E S σ H Y ds S' R e Q q;unfold Jr at e;split at e
 .rename_i L x;cases e;obtain⟨v,F,t,y,r⟩:=R.rep i _ (pN x);obtain⟨p,B,rfl,h1,h2⟩:=r.sh_inv.2.list_inv;exact⟨_,t,q _ _ _ p B .refl R (R.sub _ _ h1) h2⟩
 .rename_i C x;cases e;obtain⟨v,F,t,y,r,nd,o,M⟩:=R.move (pN x);obtain⟨p,B,s,rfl,rfl,h1,h2,I⟩:=r.ow_inv;have n:∀q∈s.flatten,E q=none:=λq l=>(I.owned q l).2
  have R2:=M.frz (F:=s.flatten) (λq l=>o q (mCo _ l)) n
  have J:=I.frozen (sS (H:=H) n) λq l=>Bd l
  have O:p∉s.flatten:=(aB.mp nd).1;have P:oZ K (Z.frz E H s.flatten) H (.ow ((C.map oa).map .sh)) (.ref p) [p]:=oZ.new h1 (by rw[um O];exact h2) J
  have U:=R2.again (F:=p::s.flatten) (G:=[p]) t P (by simp) λq l=>by rw[mSq.mp l];exact o p (by simp)
  refine⟨_,t,q _ _ _ p B ⟨sS n,.refl _,λb X=>?_,λb h g=>?_⟩ U h1 J⟩
  .rcases sF X with z|z
   .rw [mSq.mp z];exact mFq.mpr ⟨_,mGq y,by simp⟩
   .exact z
  .by_cases m:b∈s.flatten
   .exact .inr (mFq.mpr ⟨_,mGq y,mCo _ m⟩)
   .rw [um m]at g;exact absurd h g
 .cases e
theorem SK.rOf{te:TE}{k:MK}(h:SK K te k):SR K te (rOf k):=by
 intro H₀ l z S σ H B d C R e Q q;obtain⟨x,s,e⟩:=oMq.mp e;cases e;exact h R (a:=x.1) (S':=x.2) s Q λu E y v F t n r o=>q _ _ _ v t n (r.rep n.sub)
theorem SR.kSc{te:TE}{m:ME}(h:SR K te m):SK K te (kSc m):=by
 intro H₀ l B S σ H C a E R e Q q;obtain⟨x,n,e⟩:=oBq.mp e;split at e
 .rename_i s;cases e;exact h R (d:=x.1) (S':=x.2) n Q λu G y v t z r=>q _ _ _ v [] t z (.sh (r.scal s)) .nil
 .cases e
theorem SK.frz{te:TE}{k:MK}(h:SK K te k):SK K te (vQ k):=by
 intro H₀ l C S σ H E a G R e Q q;obtain⟨x,n,e⟩:=oMq.mp e;cases e;refine h R (a:=x.1) (S':=x.2) n Q λs I u v F t y r o=>?_
 obtain⟨R2,z,B⟩:=y.give t r o;exact q _ _ _ v [] B R2 (.sh z) .nil
theorem SK.lOf{te:TE}{k:MK}(h:SK K te k):SL K te (lOf k):=by
 intro H₀ l J S σ H L M O R e Q q;obtain⟨x,z,e⟩:=oBq.mp e;refine h R (a:=x.1) (S':=x.2) z Q λB P C v F t n r o=>?_
 split at e
 .rename_i E s;cases e;rw[s]at r;obtain⟨p,u,rfl,h1,h2⟩:=r.sh_inv.2.list_inv;exact q _ _ _ p u t n (n.sub _ _ h1) h2
 .rename_i G s;cases e;obtain⟨R2,y,I⟩:=n.give t r o;rw[s,tL]at y;obtain⟨p,u,rfl,h1,h2⟩:=y.list_inv;exact q _ _ _ p u I R2 (R2.sub _ _ h1) h2
 .cases e
theorem VT{v:V}{d:D}(h:∀H,rD K H d v):SR K (tC v) (rC d):=by
 intro H₀ l n S σ H r s t R e Q q;unfold rC at e;split at e
 .cases e;exact q _ _ _ v .refl R (h _)
 .cases e
theorem nN{i:Int}:SR K (tC (.int i)) (rC (.int i)):=VT λ_=>.int
theorem tZ{i:Bool}:SR K (tC (.bl i)) (rC (.bl i)):=VT λ_=>.bl
theorem HZ{T:String}:SR K (tC (.ty T)) (rC (.ty T)):=VT λ_=>.ty
end
def uu{α:Type}(p:Prop) (x:Option α):Option α:=@ite (Option α) p (cX p) x none
theorem vZ{α:Type}{p:Prop}(h:p) (x:Option α):uu p x=x:=pQ h
theorem xZ{α:Type}(x:Option α):uu True x=x:=pQ trivial
theorem oT{α:Type}{p:Prop}{x y:Option α}(h:uu p x=y):(p/\x=y)∨none=y:=by
 by_cases c:p
 .rw [vZ c]at h;exact .inl ⟨c,h⟩
 .exact .inr ((@if_neg p (cX p) c _ x none).symm.trans h)
noncomputable def oN(f:D->D->Option D) (a b:ME):ME:=λS=>(a S).bind λx=>(b x.2).bind λy=>(f x.1 y.1).map λd=>(d,y.2)
noncomputable def Cs(f:D->Option D) (a:ME):ME:=λS=>(a S).bind λx=>(f x.1).map λd=>(d,x.2)
def Fv(K:W.Frag) (r:R2) (f:D->D->Option D):Prop:=∀{x y:V}{H:Hp}{Q:VK}{l n d:D},rD K H l x->rD K H n y->f l n=some d->(∀v,rD K H d v->Q v H)->r x y H Q
def Zz(K:W.Frag) (r:V->Hp->VK->Prop) (f:D->Option D):Prop:=∀{x:V}{H:Hp}{Q:VK}{l d:D},rD K H l x->f l=some d->(∀v,rD K H d v->Q v H)->r x H Q
section
variable {K:W.Frag}{r:R2}{f:D->D->Option D}{ta tb:TE}{a b:ME}
theorem nT(hr:Fv K r f) (s:SR K ta a) (t:SR K tb b):SR K (Sr r ta tb) (oN f a b):=by
 intro H₀ l P S σ H U d X R e Q q;obtain⟨x,u,e⟩:=oBq.mp e;obtain⟨y,B,e⟩:=oBq.mp e;obtain⟨z,C,e⟩:=oMq.mp e;cases e;refine s R (d:=x.1) (S':=x.2) u _ λE Y Fs1 v1 G I J=>t I (d:=y.1) (S':=y.2) B _ λL H2 Fs2 v2 n R2 M=>?_
 exact hr (J.mono n.sh) M C λv O=>q _ _ _ v (G.trans n) R2 O
theorem vE{r:V->Hp->VK->Prop}{f:D->Option D}(hr:Zz K r f) (n:SR K ta a):SR K (ZD r ta) (Cs f a):=by
 intro H₀ l G S σ H I d J R e Q q;obtain⟨x,s,e⟩:=oBq.mp e;obtain⟨z,t,e⟩:=oMq.mp e;cases e;exact n R (d:=x.1) (S':=x.2) s _ λu L Fs1 M y B C=>hr C t λv E=>q _ _ _ v y B E
end
def JP(c:Int->Int->Prop) (g:Int->Int->D):D->D->Option D
 | .int i,.int j=>uu (c i j) (some (g i j))
 |_,_=>none
noncomputable def ZU(g:Int->D):D->Option D
 | .int i=>some (g i)
 |_=>none
abbrev Ba:=JP (λ_ _=>True) λi j=>.int (i+j)
abbrev Dw:=JP (λ_ _=>True) λi j=>.int (i-j)
abbrev CS:=JP Pm λi j=>.int (i*j)
abbrev tS:=JP (λ_ j=>0<j) λi j=>.int (i % j)
abbrev zS:=JP Vb λi j=>.int (i / j)
abbrev HF:=JP Vz λi j=>.int (i ^ j.toNat)
abbrev Si:=JP (λ_ _=>True) λi j=>.bl (decide (i<j))
abbrev dLe:=JP (λ_ _=>True) λi j=>.bl (decide (i<=j))
abbrev Kh:=JP (λ_ _=>True) λi j=>.bl (decide (j<i))
abbrev dGe:=JP (λ_ _=>True) λi j=>.bl (decide (j<=i))
abbrev vA:=ZU λi=>.int (-i)
noncomputable def Oc(b:Bool):Option D:=some (.bl b)
def C0(x y:D):Option D:=match x with
 | .int i=>(match y with|.int j=>Oc (decide (i=j))|.non=>Oc false|.str _=>Oc false|_=>none)
 | .str i=>(match y with|.str j=>Oc (decide (i=j))|.non=>Oc false|.int _=>Oc false|_=>none)
 | .bl i=>(match y with|.bl j=>Oc (decide (i=j))|.non=>Oc false|_=>none)
 | .non=>(match y with|.non=>Oc true|.int _=>Oc false|.str _=>Oc false|.bl _=>Oc false|_=>none)
 |_=>none
noncomputable def NO:D->Option D
 | .bl b=>some (.bl (!b))
 |_=>none
def Jn(x y:D):Option D:=(C0 x y).bind NO
section
variable {K:W.Frag}
theorem Ih{C:Int->Int->Prop}{g:Int->Int->V}{g':Int->Int->D}(l:∀H i j,rD K H (g' i j) (g i j)):Fv K (rI C g) (JP C g'):=by
 intro x y H Q s t d n r e q;unfold JP at e;split at e
 .rename_i i j;cases n;cases r;rcases oT e with ⟨h,e⟩|e
  .cases e;exact⟨i,j,rfl,rfl,h,q _ (l H i j)⟩
  .cases e
 .cases e
theorem GX{g:Int->Int->V}{g':Int->Int->D}(l:∀H i j,rD K H (g' i j) (g i j)):Fv K (OJ g) (JP (λ_ _=>True) g'):=by
 intro x y H Q s t d n r e q;unfold JP at e;split at e
 .rename_i i j;cases n;cases r;rw[xZ]at e;cases e;exact⟨i,j,rfl,rfl,q _ (l H i j)⟩
 .cases e
theorem vT:Fv K (OJ λi j=>.int (i+j)) Ba:=GX λ_ _ _=>.int
theorem DX:Fv K (OJ λi j=>.int (i-j)) Dw:=GX λ_ _ _=>.int
theorem DR:Fv K (rI Pm λi j=>.int (i*j)) CS:=Ih λ_ _ _=>.int
theorem rq:Fv K (rI (λ_ j=>0<j) λi j=>.int (i % j)) tS:=Ih λ_ _ _=>.int
theorem xK:Fv K (rI Vb λi j=>.int (i / j)) zS:=Ih λ_ _ _=>.int
theorem FT:Fv K (rI Vz λi j=>.int (i ^ j.toNat)) HF:=Ih λ_ _ _=>.int
theorem OO:Fv K (OJ λi j=>.bl (decide (i<j))) Si:=GX λ_ _ _=>.bl
theorem Fq:Fv K (OJ λi j=>.bl (decide (j<i))) Kh:=GX λ_ _ _=>.bl
theorem tE:Zz K (rU λi=>.int (-i)) vA:=by
 intro x H Q n d l e q;cases l <;> simp only[ZU]at e
 all_goals first|(exfalso;simp at e;done)|skip
 rename_i i;cases e;exact⟨i,rfl,q _ .int⟩
theorem yq:Fv K ZV C0:=by
 intro x y H Q r s d l n e q;unfold C0 at e;cases l <;> first|(cases e;done)|(cases n <;> first|(cases e;done)|skip)
 all_goals (cases e;refine⟨rfl,q _ ?_⟩;simp only[reduceCtorEq,decide_false,decide_true,V.int.injEq,V.str.injEq,V.bl.injEq];exact .bl)
theorem DI:Fv K ZF Jn:=by
 intro x y H Q t u d l n e q;obtain⟨b,r,s⟩:=oBq.mp e;obtain⟨h1,h2⟩:=yq l n r (Q:=λv _=>rD K H b v) λv h=>h
 cases h2;cases s;exact⟨h1,q _ .bl⟩
end
noncomputable def Sy(a b:ME):ME:=λS=>(a S).bind λx=>match x.1 with
 | .bl true=>b x.2
 | .bl false=>some (.bl false,x.2)
 |_=>none
noncomputable def rOr(a b:ME):ME:=λS=>(a S).bind λx=>match x.1 with
 | .bl true=>some (.bl true,x.2)
 | .bl false=>b x.2
 |_=>none
def V8(a:ME):ME:=Cs NO a
noncomputable def rA(a:ME):MT:=λS=>(a S).bind λx=>match x.1 with
 | .bl b=>some (b,x.2)
 |_=>none
noncomputable def FE(a b:MT):MT:=λS=>(a S).bind λx=>if x.1=true then b x.2 else some (false,x.2)
noncomputable def Aq(a b:MT):MT:=λS=>(a S).bind λx=>if x.1=true then some (true,x.2) else b x.2
def xg(a:MT):MT:=λS=>(a S).map λx=>(!x.1,x.2)
noncomputable def rIf(c:MT) (a b:ME):ME:=λS=>(c S).bind λx=>if x.1=true then a x.2 else b x.2
noncomputable def kIf(c:MT) (a b:MK):MK:=λS=>(c S).bind λx=>if x.1=true then a x.2 else b x.2
section
variable {K:W.Frag}{ta tb:TE}{a b:ME}{ca cb:TT}{ma mb:MT}
theorem QW(u:SR K ta a) (y:SR K tb b):SR K (UE ta tb) (Sy a b):=by
 intro H₀ n J S σ H L d M R e Q q;obtain⟨x,z,e⟩:=oBq.mp e;refine u R (d:=x.1) (S':=x.2) z _ λB O Fs1 P s t l=>?_
 split at e
 .rename_i r;rw[r]at l;cases l;exact⟨true,rfl,Iy (y t e Q λC U Fs2 E G R2 I=>q _ _ _ E (s.trans G) R2 I)⟩
 .rename_i r;rw[r]at l;cases l;cases e;exact⟨false,rfl,Ip (q _ _ _ _ s t .bl)⟩
 .cases e
theorem Wu(s:SR K ta a):SR K (Uy ta) (V8 a):=by
 intro H₀ n E S σ H G d I R e Q q;obtain⟨x,t,e⟩:=oBq.mp e;obtain⟨z,l,e⟩:=oMq.mp e;cases e;refine s R (d:=x.1) (S':=x.2) t _ λu J Fs1 L y B r=>?_
 cases C:x.1 <;> rw[C]at l r <;> simp only[NO]at l
 all_goals first|(exfalso;simp at l;done)|skip
 cases r;cases l;exact⟨_,rfl,q _ _ _ _ y B .bl⟩
theorem vg(r:SR K ta a):Hd K (tB ta) (rA a):=by
 intro H₀ l B S σ H C d E R e Q q;obtain⟨x,s,e⟩:=oBq.mp e;refine r R (d:=x.1) (S':=x.2) s _ λt G Fs1 I u y n=>?_
 split at e
 .rename_i b z;rw[z]at n;cases n;cases e;exact⟨_,rfl,q _ _ _ u y⟩
 .cases e
theorem oQ(l:SR K ta a):Hd K (Uz ta) (rA a):=vg l
theorem PD(t:Hd K ca ma) (u:Hd K cb mb):Hd K (WO ca cb) (FE ma mb):=by
 intro H₀ n E S σ H G d I R e Q q;obtain⟨x,y,e⟩:=oBq.mp e;refine t R (b:=x.1) (S':=x.2) y _ λz J Fs1 r s=>?_
 split at e
 .rename_i l;rw[l];exact Iy (u s e Q λB L Fs2 C R2=>q _ _ _ (r.trans C) R2)
 .rename_i l;cases e;rw[dk]at l;rw[l];exact Ip (q _ _ _ r s)
theorem CC(t:Hd K ca ma) (u:Hd K cb mb):Hd K (ZR ca cb) (Aq ma mb):=by
 intro H₀ n E S σ H G d I R e Q q;obtain⟨x,y,e⟩:=oBq.mp e;refine t R (b:=x.1) (S':=x.2) y _ λz J Fs1 r s=>?_
 split at e
 .rename_i l;cases e;rw[l];exact Iy (q _ _ _ r s)
 .rename_i l;rw[dk]at l;rw[l];exact Ip (u s e Q λB L Fs2 C R2=>q _ _ _ (r.trans C) R2)
theorem AR(n:Hd K ca ma):Hd K (XT ca) (xg ma):=by
 intro H₀ l y S σ H z d B R e Q q;obtain⟨x,r,e⟩:=oMq.mp e;cases e;exact n R (b:=x.1) (S':=x.2) r _ λs C Fs1 t u=>q _ _ _ t u
end
abbrev qK:Nat:=16777216
theorem vp:jn=qK:=jy
def SQ(K:W.Frag) (te:TE) (m:ML):Prop:=∀{H₀ l Hf:Hp}{S:AS}{σ:St}{H:Hp}{t:List (List Addr)}{ds:List D}{S':AS},pP K H₀ l Hf S σ H t->m S=some (ds,S')->∀Q:VK,
 (∀n s r p vs,ze Hf H t n s r->pP K H₀ l n S' σ s r->qV K s p vs->pK K n ds vs->Q (.ref p) s)->te σ H Q
theorem SL.q{K:W.Frag}{te:TE}{m:ML}(h:SL K te m):SQ K te m:=by
 intro H₀ l z S σ H B C E R e Q q;exact h R e Q λn G s p u t x y r=>q _ _ _ p u t x (qV.of y) r
noncomputable def sZ(i:Nat):ML:=λS=>match S[i]?.join with
 |some (.sh (.scr ns))=>some (ns.map .int,S)
 |some (.sh (.list ds))=>some (ds,S)
 |some (.ow l)=>some (l.map oa,S.set i (some (.ow ((l.map oa).map .sh))))
 |_=>none
theorem uE{K:W.Frag}{H:Hp}:∀ns:List Int,pK K H (ns.map .int) (ns.map V.int)
 | []=>.nil
 |n::ns=>.cons .int (uE ns)
theorem qB{K:W.Frag}(i:Nat):SQ K (zo i) (sZ i):=by
 intro H₀ n M S σ H O B C R e Q q;unfold sZ at e;split at e
 .rename_i E l;cases e;obtain⟨v,F,G,P,r⟩:=R.rep i _ (pN l);cases r.sh_inv.2 with
  |scr h=>exact⟨_,G,q _ _ _ _ _ .refl R (R.sub.seq h) (uE E)⟩
 .rename_i I l;cases e;refine Gx i R (ds:=B) (S':=S) ?_ Q λs J u p x t y z r=>q _ _ _ p x t y (qV.of z) r
  unfold Jr;rw[l]
 .rename_i L l;refine Gx i R (ds:=B) (S':=C) ?_ Q λs J u p x t y z r=>q _ _ _ p x t y (qV.of z) r
  unfold Jr;rw[l];exact e
 .cases e
section
variable {K:W.Frag}{H₀ Hf₀ Hf Hf' H H':Hp}{S S':AS}{σ:St}{Fs Fs':List (List Addr)}
theorem pb.stp{as:List AV}{vs:List V}{l:List (List Addr)}(r:pb K Hf H as vs l) (s:∀q∈l.flatten,q∉Fs.flatten) (t:ze Hf H Fs Hf' H' Fs'):pb K Hf' H' as vs l :=
 ⟨r.1,r.2.1,λi a v F h1 h2 n=>(r.2.2 i a v F h1 h2 n).stp (λq u=>s q (mFq.mpr ⟨F,mGq n,u⟩)) t⟩
theorem pP.layF(R:pP K H₀ Hf₀ Hf S σ H Fs) {p:Addr}{o:HO}(l:H p=none):ze Hf H Fs (qG Hf p o) (qG H p o) Fs/\pP K H₀ Hf₀ (qG Hf p o) S σ (qG H p o) Fs:=by
 have n:Hf p=none:=R.sub.free l;refine⟨⟨uS n,uS l,λ_ h=>h,λb h g=>?_⟩,R.more (uS l) (uS n) (λb u e=>?_) (λq r=>?_) λb h1 h2=>?_⟩
 .by_cases m:b=p
  .subst m;exact .inl l
  .rw [oz m]at g;exact absurd h g
 .by_cases m:b=p
  .subst m;rw[oC]at e ⊢;exact e
  .rw [oz m]at e ⊢;exact R.sub b u e
 .rw [oz λe=>(R.mem r).1 (by rw[e];exact l)]
  exact(R.mem r).2
 .rw [oz λe=>h2 (by rw[e];exact R.fr.free l)]
  exact R.lim b h1 h2
end
def oB:MA:=λS=>some ([],S)
noncomputable def nQ(k:MK) (r:MA):MA:=λS=>(k S).bind λx=>(r x.2).map λy=>(x.1::y.1,y.2)
def nV:ML:=λS=>some ([],S)
noncomputable def nD(k:ME) (r:ML):ML:=λS=>(k S).bind λx=>(r x.2).map λy=>(x.1::y.1,y.2)
section
variable {K:W.Frag}{te ta tb:TE}{tr:TA}
theorem nX:SA K wM oB:=by
 intro H₀ l n S σ H r s t R e Q q;cases e;exact q _ _ _ [] [] .refl R .nil .nil
theorem nK{k:MK}{r:MA}(C:SK K te k) (hr:SA K tr r):SA K (tP te tr) (nQ k r):=by
 intro H₀ l U S σ H X Y S' R e Q q;obtain⟨x,E,e⟩:=oBq.mp e;obtain⟨y,G,e⟩:=oMq.mp e;cases e;refine C R (a:=x.1) (S':=x.2) E _ λn H1 Fs1 v F u I z s=>hr I (as:=y.1) (S':=y.2) G _ λJ H2 Fs2 L M t R2 O B=>?_
 refine q _ _ _ (v::L) (F::M) (u.trans t) R2 (.cons (z.stp s.out t) O) ?_;rw[fCq];exact(s.stp t).app (B.back u) (s.apart (Hf1:=n) (λq P=>(z.owned q P).1) B)
theorem nR:Rm K wM nV:=by
 intro H₀ l n S σ H r s t R e Q q;cases e;exact q _ _ _ [] .refl R .nil
theorem nF{k:ME}{r:ML}(s:SR K te k) (hr:Rm K tr r):Rm K (tP te tr) (nD k r):=by
 intro H₀ l L S σ H M O P R e Q q;obtain⟨x,t,e⟩:=oBq.mp e;obtain⟨y,u,e⟩:=oMq.mp e;cases e;refine s R (d:=x.1) (S':=x.2) t _ λz U Fs1 v B C E=>hr C (ds:=y.1) (S':=y.2) u _ λG X Fs2 I n R2 J=>?_
 exact q _ _ _ (v::I) (B.trans n) R2 (.cons (E.mono n.sh) J)
end
def sJ(a:MA):MK:=λS=>(a S).bind λx=>uu (x.1.length<=qK) (some (.ow x.1,x.2))
def ER(a:MA):MK:=λS=>(a S).bind λx=>uu (x.1.length<=qK) (some (.sh (.tup (x.1.map oa)),x.2))
section
variable {K:W.Frag}{ta:TA}{a:MA}
theorem pV(B:SA K ta a):SK K (XD ta) (sJ a):=by
 intro H₀ l M S σ H O P U R e Q q;obtain⟨x,C,e⟩:=oBq.mp e;rcases oT e with ⟨hl,e⟩|e
 .skip
  cases e;refine B R (as:=x.1) (S':=x.2) C _ λE X Fs1 G s t u n y=>⟨by rw[vp,←n.1];exact hl,λp r=>?_⟩
  obtain⟨z,R2,I,Y,n3⟩:=u.new (o:=.lst G) r;refine q _ _ _ (.ref p) (p::s.flatten) (t.trans z) R2 (oZ.news oC I (n.stp y.out z)) ?_;have J:=(xN.one u r).back t;refine(show xN _ _ _ _ ([p]++s.flatten) from J.app y λq L m=>?_)
  rw[mSq.mp L]at m;exact(n.owned p m).1 r
 .cases e
theorem FV(s:SA K ta a):SK K (Yg ta) (ER a):=by
 intro H₀ l L S σ H M O P R e Q q;obtain⟨x,t,e⟩:=oBq.mp e;rcases oT e with ⟨hl,e⟩|e
 .skip
  cases e;refine s R (as:=x.1) (S':=x.2) t _ λu U Fs1 y X z B n C=>⟨by rw[vp,←n.1];exact hl,λp E=>?_⟩
  obtain⟨R2,G,I⟩:=B.gives z n C;obtain⟨r,J⟩:=R2.layF (o:=.tup y) E;exact q _ _ _ (.ref p) [] (I.trans r) J (.sh (.mk_tup oC (G.mono r.sf))) .nil
 .cases e
end
def OM(a b:ML):MK:=λS=>(a S).bind λx=>(b x.2).bind λy=>uu (x.1.length+y.1.length<=qK) (some (.ow ((x.1++y.1).map .sh),y.2))
section
variable {K:W.Frag}{ta tb:TE}{a b:ML}
theorem Ga(C:SL K ta a) (E:SL K tb b):SK K (Sr X4 ta tb) (OM a b):=by
 intro H₀ s Hf S σ H Fs av S' R e Q q;obtain⟨x,G,e⟩:=oBq.mp e;obtain⟨y,I,e⟩:=oBq.mp e;rcases oT e with ⟨hl,e⟩|e
 .skip
  cases e;refine C R (ds:=x.1) (S':=x.2) G _ λJ H1 Fs1 L l t M h1 u=>E M (ds:=y.1) (S':=y.2) I _ λO H2 Fs2 P n r R2 h2 z=>?_
  refine⟨L,P,l,n,rfl,rfl,r.sh _ _ h1,h2,by rw[vp,←u.1,←z.1];exact hl,λp B=>?_⟩
  obtain⟨U,X,Y,n2,n3⟩:=R2.new (o:=.lst (l++n)) B;exact q _ _ _ (.ref p) [p] ((t.trans r).trans U) X (oZ.new oC Y ((u.mono r.sf).append z)) ((xN.one R2 B).back (t.trans r))
 .cases e
end
abbrev MO:=AS->Option (Option Int×AS)
def SO(K:W.Frag) (to:TO) (m:MO):Prop:=∀{H₀ l Hf:Hp}{S:AS}{σ:St}{H:Hp}{t:List (List Addr)}{o:Option Int}{S':AS},pP K H₀ l Hf S σ H t->m S=some (o,S')->∀Q:Option Int->Hp->Prop,
 (∀n s r,ze Hf H t n s r->pP K H₀ l n S' σ s r->Q o s)->to σ H Q
def Bz:MO:=λS=>some (none,S)
noncomputable def zu(m:ME):MO:=λS=>(m S).bind λx=>match x.1 with
 | .int i=>some (some i,x.2)
 |_=>none
def zY{α:Type}(xs:List α) (lo l:Option Int):List α:=(xs.drop (HT.EY xs.length 0 lo)).take (HT.EY xs.length xs.length l-HT.EY xs.length 0 lo)
def Rp(l:ML) (lo n:MO):MK:=λS=>(l S).bind λx=>(lo x.2).bind λy=>(n y.2).map λz=>(.ow ((zY x.1 y.1 z.1).map .sh),z.2)
section
variable {K:W.Frag}{te:TE}{tl th:TO}{l:ML}{lo hi:MO}{m:ME}
theorem wt:SO K Lq Bz:=by
 intro H₀ n r S σ H s o t R e Q q;cases e;exact q _ _ _ .refl R
theorem uO(h:SR K te m):SO K (Uw te) (zu m):=by
 intro H₀ n B S σ H C o E R e Q q;obtain⟨x,s,e⟩:=oBq.mp e;refine h R (d:=x.1) (S':=x.2) s _ λt G Fs1 v u y r=>?_
 split at e
 .rename_i i z;rw[z]at r;cases r;cases e;exact⟨i,rfl,q _ _ _ u y⟩
 .cases e
theorem pK.cut{H:Hp}{ds:List D}{vs:List V}(r:pK K H ds vs) (lo hi:Option Int):pK K H (zY ds lo hi) (KA vs lo hi):=by
 unfold zY KA;rw[r.1];exact(r.drop _).take _
theorem AE(hl:SQ K te l) (t:SO K tl lo) (u:SO K th hi):SK K (Zx (XH K) te tl th) (Rp l lo hi):=by
 intro H₀ B Hf S σ H Fs av S' R e Q q;obtain⟨x,I,e⟩:=oBq.mp e;obtain⟨y,J,e⟩:=oBq.mp e;obtain⟨z,L,e⟩:=oMq.mp e;cases e;refine hl R (ds:=x.1) (S':=x.2) I _ λM H1 Fs1 O n C P h1 U=>t P (o:=y.1) (S':=y.2) J _ λX H2 Fs2 r R2=>u R2 (o:=z.1) (S':=z.2) L _ λY H3 Fs3 s E=>?_
 refine⟨O,n,rfl,(r.sh.trans s.sh).seq h1,λp G=>?_⟩
 obtain⟨t4,R4,n1,n2,n3⟩:=E.new (o:=.lst (KA n y.1 z.1)) G;exact q _ _ _ (.ref p) [p] (((C.trans r).trans s).trans t4) R4 (oZ.new oC n1 ((U.mono (r.sf.trans s.sf)).cut _ _)) ((xN.one E G).back ((C.trans r).trans s))
end
def CV:D->D->Option D
 | .list ds,.int i=>atI ds i
 | .scr ns,.int i=>(atI ns i).map .int
 |_,_=>none
def wa:D->D->Option D
 | .tup ds,.int i=>atI ds i
 |_,_=>none
def FJ(l:ML) (b:ME):MK:=λS=>(l S).bind λx=>(b x.2).bind λy=>match y.1 with
 | .int i=>(atI x.1 i).map λd=>(.sh d,y.2)
 |_=>none
section
variable {K:W.Frag}{ta tb:TE}
theorem pK.atI{H:Hp}{ds:List D}{vs:List V}{i:Int}{d:D}(r:pK K H ds vs) (h:L2.atI ds i=some d):∃v,L2.atI vs i=some v/\rD K H d v:=by
 unfold L2.atI at h ⊢;rw[r.1]at h;obtain⟨j,h1,h2⟩:=oBq.mp h;rw[h1];exact r.get h2
theorem yu:Fv K (R9 K) CV:=by
 intro x y H Q J L d s t e q;unfold CV at e;split at e
 .rename_i B i;cases t;obtain⟨p,u,rfl,h,r⟩:=s.list_inv;obtain⟨l,C⟩:=r;obtain⟨v,h1,h2⟩:=pK.atI (K:=K) (H:=H) (ds:=B) (vs:=u) ⟨l,C⟩ e;exact⟨p,u,i,v,rfl,rfl,qV.of h,h1,q v h2⟩
 .rename_i z i;cases t;cases s;rename_i p h;obtain⟨n,h1,h2⟩:=oMq.mp e;subst h2;obtain⟨v,E,G⟩:=pK.atI (K:=K) (H:=H) (uE z) (i:=i) (d:=.int n) (by
   unfold L2.atI at h1 ⊢;rw[lMq];obtain⟨j,I,g2⟩:=oBq.mp h1;rw[I];show (z.map D.int)[j]?=_;rw[gMq,g2];rfl)
  exact⟨p,_,i,v,rfl,rfl,h,E,q v G⟩
 .cases e
theorem Cn:Fv K (XY K) wa:=by
 intro x y H Q u z d n s e q;unfold wa at e;split at e
 .rename_i t i;cases s;obtain⟨p,l,rfl,h,r⟩:=n.tup_inv;obtain⟨v,h1,h2⟩:=pK.atI (K:=K) (H:=H) (ds:=t) (vs:=l) r e;exact⟨p,l,i,v,rfl,rfl,EO.of h,h1,q v h2⟩
 .cases e
theorem zh{l:ML}{b:ME}(hl:SQ K ta l) (u:SR K tb b):SK K (Sr (R9 K) ta tb) (FJ l b):=by
 intro H₀ n U S σ H X Y S' R e Q q;obtain⟨x,z,e⟩:=oBq.mp e;obtain⟨y,B,e⟩:=oBq.mp e;refine hl R (ds:=x.1) (S':=x.2) z _ λC H1 Fs1 E r G I h1 J=>u I (d:=y.1) (S':=y.2) B _ λL H2 Fs2 v2 s R2 t=>?_
 split at e
 .rename_i i M;rw[M]at t;cases t;obtain⟨d,O,e⟩:=oMq.mp e;cases e;obtain⟨v,P,g2⟩:=(J.mono s.sf).atI O;exact⟨E,r,i,v,rfl,rfl,s.sh.seq h1,P,q _ _ _ v [] (G.trans s) R2 (.sh g2) .nil⟩
 .cases e
end
def WH(K:W.Frag) (r:List V->Hp->VK->Prop) (f:List D->Option D):Prop:=∀{vs:List V}{H:Hp}{Q:VK}{ds:List D}{d:D},pK K H ds vs->f ds=some d->(∀v,rD K H d v->Q v H)->r vs H Q
noncomputable def tX(f:List D->Option D) (a:ML):ME:=λS=>(a S).bind λx=>(f x.1).map λd=>(d,x.2)
theorem qf{K:W.Frag}{r:List V->Hp->VK->Prop}{f:List D->Option D}{n:TA}{a:ML}(hr:WH K r f) (s:Rm K n a):SR K (Hh r n) (tX f a):=by
 intro H₀ l I S σ H J d L R e Q q;obtain⟨x,t,e⟩:=oBq.mp e;obtain⟨z,u,e⟩:=oMq.mp e;cases e;exact s R (ds:=x.1) (S':=x.2) t _ λy M Fs1 O B C E=>hr E u λv G=>q _ _ _ v B C G
def qu:List D->Option D
 | [.list ds]=>some (.int ds.length)
 | [.tup ds]=>some (.int ds.length)
 | [.scr ns]=>some (.int ns.length)
 | [.str x]=>uu (x.length<=qK) (some (.int x.length))
 |_=>none
noncomputable def Z3:List D->Option D
 | [.int i]=>some (.int (if i<0 then -i else i))
 |_=>none
noncomputable def Zw:List D->Option D
 | [.int i,.int j]=>some (.int (if j>i then j else i))
 |_=>none
noncomputable def ZK:List D->Option D
 | [.int i,.int j]=>some (.int (if j<i then j else i))
 |_=>none
noncomputable def ZZ:List D->Option D
 | [.int i]=>some (.int i)
 | [.bl k]=>some (.int (if k then 1 else 0))
 |_=>none
noncomputable def Yp:D->String->Option D
 | .int _,T=>if T = "int" then some (.bl true) else if T = "bool" then some (.bl false) else none
 | .bl _,T=>if T = "bool" ∨ T = "int" then some (.bl true) else none
 | .str _,T=>if T = "str" then some (.bl true) else none
 | .list _,T=>if T = "list" then some (.bl true) else none
 | .tup _,T=>if T = "tuple" then some (.bl true) else none
 | .dict _,T=>if T = "dict" then some (.bl true) else none
 |_,_=>none
def zr:List D->Option D
 | [x,.ty T]=>Yp x T
 |_=>none
noncomputable def qC:List D->Option (List Int)
 | []=>some []
 | .int i::ds=>(qC ds).map (i :: ·)
 |_=>none
theorem sY:∀{ds:List D}{ns:List Int},qC ds=some ns->ds=ns.map .int
 | [],ns,h=>by cases h;rfl
 |d::ds,ns,h=>by
  cases d with
  |int i =>
   obtain⟨l,h1,h2⟩:=oMq.mp (show (qC ds).map (i :: ·)=some ns from h)
   subst h2;rw[sY h1];rfl
  |_=>cases h
@[simp] theorem qR (ns:List Int):qC (ns.map .int)=some ns:=by
 induction ns with
 |nil=>rfl
 |cons n ns l=>show (qC (ns.map .int)).map (n :: ·)=_;rw[l];rfl
theorem qJ{K:W.Frag}{H:Hp}:∀{ns:List Int}{vs:List V},pK K H (ns.map .int) vs->vs=ns.map V.int
 | [],vs,h=>h.nil_inv
 |n::ns,vs,h=>by
  obtain⟨v,l,rfl,h1,h2⟩:=pK.cons_inv (d:=.int n) (ds:=ns.map .int) h;cases h1;rw[qJ h2];rfl
noncomputable def KU:List Int->Option Int
 | []=>none
 |n::ns=>some (ns.foldl min n)
theorem vy:∀(ns:List Int) (n:Int),ns.foldl min n∈n::ns
 | [],n=>by simp
 |m::ns,n=>by
  have h:=vy ns (min n m);rw[bB];rcases ar.mp h with e|e
  .rw [e]
   by_cases c:n<=m
   .rw [Int.min_eq_left c];simp
   .rw [Int.min_eq_right (by lia)];simp
  .exact mCo _ (mCo _ e)
theorem vd:∀(ns:List Int) (n:Int),(ns.foldl min n<=n)/\∀x∈ns,ns.foldl min n<=x
 | [],n=>⟨fB _,λx h=>by cases h⟩
 |m::ns,n=>by
  obtain⟨h1,h2⟩:=vd ns (min n m);rw[bB];refine⟨by lia,λx l=>?_⟩
  rcases ar.mp l with e|e
  .subst e;lia
  .exact h2 x e
def RA:List D->Option D
 | [.list ds]=>(qC ds).bind λns=>(KU ns).map .int
 |_=>none
section
variable {K:W.Frag}
theorem pW:WH K (λxs H Q=>∃x n,xs=[x]/\Xa K x H n/\Q (.int n) H) qu:=by
 intro y H Q z d r e q;unfold qu at e;split at e
 .obtain ⟨v,l,rfl,h1,h2⟩:=r.cons_inv;rw[h2.nil_inv];obtain⟨p,s,rfl,t,u⟩:=h1.list_inv;cases e;exact⟨_,_,rfl,.inl ⟨s,qV.of t,u.1⟩,q _ .int⟩
 .obtain ⟨v,l,rfl,h1,h2⟩:=r.cons_inv;rw[h2.nil_inv];obtain⟨p,s,rfl,t,u⟩:=h1.tup_inv;cases e;exact⟨_,_,rfl,.inr ⟨s,EO.of t,u.1⟩,q _ .int⟩
 .obtain ⟨v,l,rfl,h1,h2⟩:=r.cons_inv;rw[h2.nil_inv];cases e;cases h1 with
  |scr h=>exact⟨_,_,rfl,.inl ⟨_,h,(lMq _).symm⟩,q _ .int⟩
 .rcases oT e with ⟨hl,e⟩|e
  .skip
   obtain⟨v,l,rfl,h1,h2⟩:=r.cons_inv;rw[h2.nil_inv];cases e;cases h1;exact⟨_,_,rfl,⟨by rw[vp];exact hl,rfl⟩,q _ .int⟩
  .cases e
 .cases e
theorem P7:WH K (λxs H Q=>∃(a:Addr) (ns:List Int),xs=[.ref a]/\qV K H a (ns.map V.int)/\0<ns.length/\∀M,M∈ns->(∀x,x∈ns->M<=x)->Q (.int M) H) RA:=by
 intro G H Q I d r e q;unfold RA at e;split at e
 .obtain ⟨v,J,rfl,h1,h2⟩:=r.cons_inv;rw[h2.nil_inv];obtain⟨ns,u,e⟩:=oBq.mp e;obtain⟨m,l,e⟩:=oMq.mp e;cases e;rw[sY u]at h1;obtain⟨p,L,rfl,s,y⟩:=h1.list_inv;rw[qJ y]at s;cases ns with
  |nil=>cases l
  |cons n ns =>
   cases l;refine⟨p,_,rfl,qV.of s,by simp,λM B C=>?_⟩
   have E:M=ns.foldl min n:=by
    have O:=C _ (vy ns n);have t:=vd ns n;have P:ns.foldl min n<=M:=by
     rcases ar.mp B with z|z
     .subst z;exact t.1
     .exact t.2 M z
    lia
   rw[E];exact q _ .int
 .cases e
theorem D3:WH K (λxs H Q=>∃x T b,xs=[x,.ty T]/\X6 K x H T b/\Q (.bl b) H) zr:=by
 intro B H Q C d r e q;unfold zr at e;split at e
 rotate_left
 .cases e
 rename_i x T;obtain⟨v,E,rfl,h1,h2⟩:=r.cons_inv;obtain⟨u,G,rfl,y,z⟩:=h2.cons_inv;rw[z.nil_inv];cases y;unfold Yp at e;cases x <;> first|(cases e;done)|dsimp only at e
 case int =>
  cases h1;split at e
  .rename_i l;cases e;exact⟨_,_,_,rfl,.inl ⟨l,rfl⟩,q _ .bl⟩
  .split at e
   .rename_i l;cases e;exact⟨_,_,_,rfl,.inr ⟨l,rfl⟩,q _ .bl⟩
   .cases e
 case bl =>
  cases h1;split at e
  .rename_i l;cases e;rcases l with l|l
   .exact ⟨_,_,_,rfl,.inl ⟨l,rfl⟩,q _ .bl⟩
   .exact ⟨_,_,_,rfl,.inr ⟨l,rfl⟩,q _ .bl⟩
  .cases e
 case str =>
  cases h1;split at e
  .rename_i l;cases e;exact⟨_,_,_,rfl,⟨l,rfl⟩,q _ .bl⟩
  .cases e
 case list =>
  obtain⟨p,n,rfl,s,t⟩:=h1.list_inv;split at e
  .rename_i l;cases e;exact⟨_,_,_,rfl,.inl ⟨l,rfl,n,qV.of s⟩,q _ .bl⟩
  .cases e
 case tup =>
  obtain⟨p,n,rfl,s,t⟩:=h1.tup_inv;split at e
  .rename_i l;cases e;exact⟨_,_,_,rfl,.inr (.inr ⟨l,rfl,n,EO.of s⟩),q _ .bl⟩
  .cases e
 case dict =>
  obtain⟨p,n,rfl,s,t⟩:=h1.dict_inv;split at e
  .rename_i l;cases e;exact⟨_,_,_,rfl,.inr (.inl ⟨l,rfl,n,s⟩),q _ .bl⟩
  .cases e
end
abbrev MF:=List D->Option AV
noncomputable def oK(K:W.Frag) (f:MF):Sp:=λvs H Q _=>∃(Hf:Hp) (ds:List D) (a:AV),pJ Hf H/\pK K Hf ds vs/\f ds=some a /\
 ∀l n v F,pJ Hf l->pJ H n->pJ l n->(∀b,Hf b=none->H b≠none->l b=none)->oZ K l n a v F->F.Nodup->(∀q∈F,H q=none)->Q v n
noncomputable def oJ(f:MF) (a:MA):MK:=λS=>(a S).bind λx=>(f (x.1.map oa)).map λr=>(r,x.2)
theorem ou{K:W.Frag}{f:MF}{B:TA}{a:MA}(J:SA K B a):SK K (Md (oK K f) [] E0 B) (oJ f a):=by
 intro H₀ s Hf S σ H Fs L S' R e Q q;obtain⟨x,M,e⟩:=oBq.mp e;obtain⟨z,O,e⟩:=oMq.mp e;cases e;refine J R (as:=x.1) (S':=x.2) M _ λu y Fs1 vs P C U X Y=>?_
 obtain⟨R2,r2,t2⟩:=U.gives C X Y;rw[aNq];refine⟨_,_,L,R2.sub,r2,O,λt E v F G I s3 l r nd fr=>?_⟩
 have t3:ze (Z.frz u y P.flatten) y Fs1 t E Fs1:=⟨G,I,λ_ h=>h,λb h g=>.inl (by
  by_cases e:y b=none
  .exact e
  .exact absurd (l b h e) g)⟩
 have hn:∀q∈Fs1.flatten,t q=none:=λq n=>l q (R2.mem n).2 (R2.mem n).1
 have R3:pP K H₀ s t x.2 σ E Fs1:=R2.more I G s3 hn λb h1 h2=>l b (R2.lim b h1 h2) (TZ R2.fr h2)
 refine q _ _ _ v F (t2.trans t3) R3 r ⟨nd,λq n=>R2.fr.free (fr q n),λq n m=>(R2.mem m).1 (fr q n),λq n=>.inl (C.sh.free (fr q n))⟩
inductive Lk where
 |nx (S:AS)|rt (a:AV)|bk (S:AS)|ct (S:AS)
abbrev MS:=AS->Option Lk
def E2(K:W.Frag) (H₀ n Hf:Hp) (D:Av):Lk->Prop
 | .nx S=>∀l r s t,pJ Hf l->pP K H₀ n l S r s t->D.nx r s
 | .bk S=>∀l r s t,pJ Hf l->pP K H₀ n l S r s t->D.bk r s
 | .ct S=>∀l r s t,pJ Hf l->pP K H₀ n l S r s t->D.ct r s
 | .rt a=>∀l s v F,pJ n l->pJ H₀ s->pJ l s->(∀b,n b=none->H₀ b≠none->l b=none)->oZ K l s a v F->F.Nodup->(∀q∈F,H₀ q=none)->D.rt v s
def SS(K:W.Frag) (t:TS) (m:MS):Prop:=∀{H₀ l Hf:Hp}{S:AS}{σ:St}{H:Hp}{n:List (List Addr)}{o:Lk},pP K H₀ l Hf S σ H n->m S=some o->∀D:Av,E2 K H₀ l Hf D o->t D σ H
theorem E2.mono{K:W.Frag}{H₀ l Hf u:Hp}{D:Av}{o:Lk}(s:pJ Hf u) (h:E2 K H₀ l Hf D o):E2 K H₀ l u D o:=by
 cases o with
 |nx S=>exact λn r x t y R=>h n r x t (s.trans y) R
 |bk S=>exact λn r x t y R=>h n r x t (s.trans y) R
 |ct S=>exact λn r x t y R=>h n r x t (s.trans y) R
 |rt a=>exact h
def qa:MS:=λS=>some (.nx S)
def Zq:MS:=λS=>some (.bk S)
def ZP:MS:=λS=>some (.ct S)
def Gf:MS:=λ_=>none
def nW(a b:MS):MS:=λS=>(a S).bind λo=>match o with
 | .nx S'=>b S'
 |o=>some o
def oD(i:Nat) (k:MK):MS:=λS=>(k S).map λx=>.nx (x.2.set i (some x.1))
def QX(k:MK):MS:=λS=>(k S).map λx=>.nx x.2
def qh(k:MK):MS:=λS=>(k S).map λx=>.rt x.1
noncomputable def xH(c:MT) (a b:MS):MS:=λS=>(c S).bind λx=>if x.1=true then a x.2 else b x.2
section
variable {K:W.Frag}{t u:TS}{a b:MS}{te:TE}{k:MK}
theorem pD:SS K Uk qa:=by
 intro H₀ l n S σ H r o R e D h;cases e;exact h _ _ _ _ (.refl _) R
theorem IR:SS K Rf Gf:=by
 intro H₀ l n S σ H r o R e D h;cases e
theorem nH(n:SS K t a) (r:SS K u b):SS K (PQ t u) (nW a b):=by
 intro H₀ l G S σ H I o R e D h;obtain⟨x,y,e⟩:=oBq.mp e;refine n R y _ ?_;cases x with
 |nx J=>exact λz B L C s E=>r E e D (h.mono s)
 |rt a=>cases e;exact h
 |bk a=>cases e;exact h
 |ct a=>cases e;exact h
theorem nU{i:Nat}(s:SK K te k):SS K (Km te (tm i)) (oD i k):=by
 intro H₀ l G S σ H I o R e D h;obtain⟨x,y,e⟩:=oMq.mp e;cases e;refine s R (a:=x.1) (S':=x.2) y _ λz J Fs1 v F B C E n=>?_
 exact h _ _ _ _ B.sf (C.set i E n.nd λq r=>⟨n.fr q r,n.out q r⟩)
theorem Ss(n:SK K te k):SS K (Aw te) (QX k):=by
 intro H₀ l B S σ H C o R e D h;obtain⟨x,r,e⟩:=oMq.mp e;cases e;exact n R (a:=x.1) (S':=x.2) r _ λs E Fs1 v F y z G I=>h _ _ _ _ y.sf z
theorem ox(s:SK K te k):SS K (XZ te) (qh k):=by
 intro H₀ n C S σ H E o R e D h;obtain⟨x,y,e⟩:=oMq.mp e;cases e;exact s R (a:=x.1) (S':=x.2) y _ λz G Fs1 v F I l B r=>h _ _ v F l.sf l.fr l.sub l.lim B r.nd r.fr
theorem rK{c:TT}{m:MT}(y:Hd K c m) (z:SS K t a) (B:SS K u b):SS K (RM c t u) (xH m a b):=by
 intro H₀ n G S σ H I o R e D h;obtain⟨x,C,e⟩:=oBq.mp e;refine y R (b:=x.1) (S':=x.2) C _ λE J Fs1 r s=>?_
 split at e
 .rename_i l;rw[l];exact Iy (z s e D (h.mono r.sf))
 .rename_i l;rw[dk]at l;rw[l];exact Ip (B s e D (h.mono r.sf))
end
noncomputable def rh(S:AS) (i:Nat):Option (List AV):=match S[i]?.join with
 |some (.ow l)=>some l
 |_=>none
noncomputable def xx(S:AS) (i:Nat):Option (List (oq×D)):=match S[i]?.join with
 |some (.owd kvs)=>some kvs
 |_=>none
def yQ(i:Nat) (k:MK):MS:=λS=>(rh S i).bind λ_=>(k S).bind λx=>(rh x.2 i).bind λl =>
 uu (l.length<qK) (some (.nx (x.2.set i (some (.ow (l++[x.1]))))))
def Kd(i:Nat) (l:ML):MS:=λS=>(rh S i).bind λ_=>(l S).bind λx=>(rh x.2 i).bind λn =>
 uu (n.length+x.1.length<=qK) (some (.nx (x.2.set i (some (.ow (n++x.1.map .sh))))))
noncomputable def intOf:D->Option Int
 | .int i=>some i
 |_=>none
def aar(i:Nat) (b:ME) (k:MK):MS:=λS=>(vQ k S).bind λx=>(rh x.2 i).bind λ_=>(b x.2).bind λy=>(rh y.2 i).bind λl=>(intOf y.1).bind λj=>(Hc l.length j).map λn =>
 .nx (y.2.set i (some (.ow (((l.map oa).set n (oa x.1)).map .sh))))
noncomputable def vX:D->Option oq
 | .int i=>some (.inl i)
 | .str x=>some (.inr x)
 |_=>none
noncomputable def vH(kvs:List (oq×D)) (k:oq) (d:D):List (oq×D):=if kvs.any (λkv=>decide (kv.1=k)) then kvs.map (λkv=>if kv.1=k then (kv.1,d) else kv) else kvs++[(k,d)]
noncomputable def getD(kvs:List (oq×D)) (k:oq):Option D:=(kvs.find? λkv=>decide (kv.1=k)).map (·.2)
def vf(i:Nat) (b:ME) (k:MK):MS:=λS=>(vQ k S).bind λx=>(xx x.2 i).bind λ_=>(b x.2).bind λy=>(xx y.2 i).bind λkvs=>(vX y.1).bind λkey =>
 uu (kvs.length<qK) (some (.nx (y.2.set i (some (.owd (vH kvs key (oa x.1)))))))
section
variable {K:W.Frag}{H₀ Hf₀ Hf H:Hp}{S:AS}{σ:St}{Fs:List (List Addr)}
theorem pP.turn(R:pP K H₀ Hf₀ Hf S σ H Fs) {i:Nat}{y:AV}{p:Addr}{o:HO}{F F':List Addr}(E:σ[i]?=some (some (.ref p))) (B:Fs[i]?=some F) (s:p∈F) (r:oZ K Hf (qG H p o) y (.ref p) F') (nd:F'.Nodup)
  (I:∀q∈F',H₀ q=none/\q∉(Fs.set i []).flatten):pP K H₀ Hf₀ Hf (S.set i (some y)) σ (qG H p o) (Fs.set i F'):=by
 have t:p∈Fs.flatten:=mFq.mpr ⟨F,mGq B,s⟩;have pn:Hf p=none:=(R.mem t).2;have J:H₀ p=none:=R.fresh p t;have out:=uR R.nd B s;have L:pP K H₀ Hf₀ Hf (S.set i none) σ (qG H p o) (Fs.set i []):=by
  refine⟨by simp[R.len],by simp[R.lenF],λj a n=>?_,λj n=>?_,se i R.nd aY (λp s=>by cases s),λp s=>R.fresh p (qY s),λb u e=>?_,λb u e=>?_,R.lim,R.sf⟩
  .rw [bG]at n
   by_cases l:i=j
   .subst l;rw[pQ rfl]at n;split at n <;> cases n
   .rw [qk l]at n;obtain⟨w,G,M,C,q⟩:=R.rep j a n;refine⟨w,G,M,by rw[aG l];exact C,q.keep (.refl _) (λc x=>oz λe=>out ?_) λc x=>(q.owned c x).2⟩
    subst e;exact mFq.mpr ⟨G,mGq (i:=j) (by rw[aG l];exact C),x⟩
  .rw [bG]at n
   by_cases l:i=j
   .subst l;rw[pQ rfl]at n;split at n
    .rename_i O;rw[aQ (R.lenF.symm ▸ O)]
    .cases n
   .rw [qk l]at n;rw[aG l];exact R.emp j n
  .rw [oz λz=>by rw[z,pn]at e;cases e]
   exact R.sub b u e
  .rw [oz λz=>by rw[z,J]at e;cases e]
   exact R.fr b u e
 exact L.again (F:=F) E r nd I
theorem qi{i:Nat}{F:List Addr}{q:Addr}(l:Fs[i]?=some F) (h:q∈F):q∈Fs.flatten:=mFq.mpr ⟨F,mGq l,h⟩
theorem pb.snoc{as:List AV}{vs:List V}{y:List (List Addr)}{a:AV}{v:V}{F:List Addr}(r:pb K Hf H as vs y) (s:oZ K Hf H a v F):pb K Hf H (as++[a]) (vs++[v]) (y++[F]):=by
 obtain⟨h1,h2,z⟩:=r;refine⟨by simp[h1],by simp[h2],λi b w G l n t=>?_⟩
 by_cases u:i<as.length
 .rw [gZq u]at l;rw[gZq (h1 ▸ u)]at n;rw[gZq (h2 ▸ u)]at t;exact z i b w G l n t
 .have x:i=as.length:=by
   have:=(gSq.mp l).1;rw[lAq,lSq]at this;lia
  subst x;rw[gYq (ai _),dX]at l;rw[h1,gYq (ai _),dX]at n;rw[h2,gYq (ai _),dX]at t;cases l;cases n;cases t;exact s
theorem pb.keepUpd{as:List AV}{vs:List V}{l:List (List Addr)}{p:Addr}{o:HO}(r:pb K Hf H as vs l) (t:p∉l.flatten):pb K Hf (qG H p o) as vs l :=
 ⟨r.1,r.2.1,λi a v F h1 h2 s=>by
  have q:=r.2.2 i a v F h1 h2 s;refine q.keep (.refl _) (λc n=>oz λe=>t ?_) λc n=>(q.owned c n).2
  subst e;exact mFq.mpr ⟨F,mGq s,n⟩⟩
theorem oZ.keepUpd{a:AV}{v:V}{F:List Addr}{p:Addr}{o:HO}(q:oZ K Hf H a v F) (n:p∉F):oZ K Hf (qG H p o) a v F :=
 q.keep (.refl _) (λc l=>oz λe=>n (e ▸ l)) λc l=>(q.owned c l).2
theorem L1{ds:List D}{vs:List V}(r:pK K Hf ds vs):pb K Hf H (ds.map .sh) vs (bN ds.length []) :=
 ⟨by simp[r.1],by simp,λi a v F h1 h2 l=>by
  rw[gMq]at h1;cases q:ds[i]? with
  |none=>rw[q]at h1;cases h1
  |some d =>
   rw[q]at h1;cases h1;have:F=[]:=dO (mGq l);subst this;exact .sh (r.2 i d v q h2)⟩
theorem pb.append{as bs:List AV}{vs ws:List V}{x y:List (List Addr)}(r:pb K Hf H as vs x) (s:pb K Hf H bs ws y):pb K Hf H (as++bs) (vs++ws) (x++y):=by
 obtain⟨h1,h2,z⟩:=r;refine⟨by simp[h1,s.1],by simp[h2,s.2.1],λi b w G l n t=>?_⟩
 by_cases u:i<as.length
 .rw [gZq u]at l;rw[gZq (h1 ▸ u)]at n;rw[gZq (h2 ▸ u)]at t;exact z i b w G l n t
 .rw [gYq (by lia)]at l
  rw[gYq (by lia),←h1]at n
  rw[gYq (by lia),←h2]at t
  exact s.2.2 _ b w G l n t
end
section
variable {K:W.Frag}{te ta tb:TE}{k:MK}{b:ME}{l:ML}
theorem pE{S:AS}{i:Nat}{n:List AV}(h:rh S i=some n):S[i]?=some (some (.ow n)):=by
 unfold rh at h;split at h
 .rename_i z e;cases h;exact pN e
 .cases h
theorem AX{S:AS}{i:Nat}{kvs:List (oq×D)}(h:xx S i=some kvs):S[i]?=some (some (.owd kvs)):=by
 unfold xx at h;split at h
 .rename_i z e;cases h;exact pN e
 .cases h
theorem pP.ow{H₀ n Hf H:Hp}{S:AS}{σ:St}{u:List (List Addr)}(R:pP K H₀ n Hf S σ H u) {i:Nat}{t:List AV}(h:S[i]?=some (some (.ow t))):∃p vs s,σ[i]?=some (some (.ref p))/\u[i]?=some (p::s.flatten)/\H p=some (.lst vs)/\Hf p=none/\pb K Hf H t vs s /\
  p∉s.flatten/\s.flatten.Nodup/\∀q∈p::s.flatten,H₀ q=none/\q∉(u.set i []).flatten:=by
 obtain⟨v,F,x,y,r,nd,o,_⟩:=R.move h;obtain⟨p,vs,s,rfl,rfl,h1,h2,z⟩:=r.ow_inv;exact⟨p,vs,s,x,y,h1,h2,z,(aB.mp nd).1,(aB.mp nd).2,o⟩
theorem vk{i:Nat}(Q:SK K te k):SS K (Aw (Ov K "list" Al (zo i) (tP te wM))) (yQ i k):=by
 intro H₀ B Hf S σ H Fs o R e D h;obtain⟨a0,U,e⟩:=oBq.mp e;obtain⟨x,X,e⟩:=oBq.mp e;obtain⟨Y,e2,e⟩:=oBq.mp e;rcases oT e with ⟨hl,e⟩|e
 .skip
  cases e;obtain⟨p,vs,Gs,C,_,h1,_⟩:=R.ow (pE U);refine⟨.ref p,C,.inl ⟨rfl,vs,qV.of h1⟩,Q R (a:=x.1) (S':=x.2) X _ λHf1 H1 Fs1 v F t1 M r1 r=>?_⟩
  obtain⟨p',E,G,s,n,I,J,t,u,L,y⟩:=M.ow (pE e2);rw[C]at s;cases s;have O:p∉F:=λm=>r.out p m (qi n (by simp))
  refine⟨p,E,v,rfl,rfl,I,by rw[vp,←t.1];exact hl,h _ _ _ _ t1.sf (M.turn C n (by simp) (F':=p::(G++[F]).flatten) (oZ.news oC J ((t.keepUpd u).snoc (r1.keepUpd O))) ?_ λq P=>?_)⟩
  .rw [fAq,aU];refine aB.mpr ⟨λm=>(mAq.mp m).elim u O,nAq.mpr ⟨L,r.nd,λa ha b hb e=>r.out b hb (qi n (mCo _ (e ▸ ha)))⟩⟩
  .rw [fAq,aU]at P;rcases ar.mp P with z|z
   .exact y q (by rw[z];simp)
   .rcases mAq.mp z with z|z
    .exact y q (mCo _ z)
    .exact ⟨r.fr q z,λm=>r.out q z (qY m)⟩
 .cases e
theorem Ed{i:Nat}(hl:SL K te l):SS K (Aw (Ov K "list" GI (zo i) (tP te wM))) (Kd i l):=by
 intro H₀ t Hf S σ H Fs o R e D h;obtain⟨a0,P,e⟩:=oBq.mp e;obtain⟨x,Q,e⟩:=oBq.mp e;obtain⟨U,X,e⟩:=oBq.mp e;rcases oT e with ⟨u,e⟩|e
 .skip
  cases e;obtain⟨p,Y,Gs,y,_,h1,_⟩:=R.ow (pE P);refine⟨.ref p,y,.inl ⟨rfl,Y,qV.of h1⟩,hl R (ds:=x.1) (S':=x.2) Q _ λHf1 H1 Fs1 b ws t1 L hb M=>?_⟩
  obtain⟨p',z,B,n,C,E,G,r,s,I,J⟩:=L.ow (pE X);rw[y]at n;cases n;refine⟨p,b,z,ws,rfl,rfl,E,hb,by rw[vp,←r.1,←M.1];exact u,h _ _ _ _ t1.sf (L.turn y C (by simp) (F':=p::(B++bN x.1.length []).flatten) (oZ.news oC G ((r.keepUpd s).append (L1 M))) ?_ λq O=>?_)⟩
  .rw [fAq,uz,aNq];exact aB.mpr ⟨s,I⟩
  .rw [fAq,uz,aNq]at O;exact J q O
 .cases e
theorem BB{H:Hp}:∀{ds:List (oq×D)}{kvs:List (oq×V)}{key:oq},uj K H ds kvs->match getD ds key with
  |some d=>∃v,Bs kvs key=some v/\rD K H d v
  |none=>Bs kvs key=none
 | [],kvs,key,h=>by
  have:kvs=[]:=by
   have:=congrArg bp h.1;simpa using this.symm
  subst this;rfl
 |d::ds,[],key,h=>by
  have:=congrArg bp h.1;simp at this
 |d::ds,v::kvs,key,h=>by
  have h1:d.1=v.1/\ds.map (·.1)=kvs.map (·.1):=by
   have:=h.1;simpa using this
  have h2:rD K H d.2 v.2:=h.2 0 d v rfl rfl;have ht:uj K H ds kvs:=⟨h1.2,λi a b n r=>h.2 (i+1) a b (by simpa using n) (by simpa using r)⟩
  unfold getD Bs
  by_cases c:d.1=key
  .rw [bT (by simp[c]),bT (by simp[←h1.1,c])]
   exact⟨v.2,rfl,h2⟩
  .rw [cG (by simp[c]),cG (by simp[←h1.1,c])]
   exact BB ht
theorem xU{H:Hp}{d:D}{v:V}{key:oq}(h:vX d=some key) (r:rD K H d v):v=kV key:=by
 cases r <;> simp only[vX]at h
 all_goals first|(exfalso;simp at h;done)|skip
 all_goals (cases h;rfl)
theorem uj.key{H:Hp}{ds:List (oq×D)}{kvs:List (oq×V)}(h:uj K H ds kvs) {i:Nat}{d:oq×D}{v:oq×V}(n:ds[i]?=some d) (r:kvs[i]?=some v):d.1=v.1:=by
 have:=congrArg (λl=>l[i]?) h.1
 simp only[gMq,n,r,cj]at this;exact aT.inj this
theorem uj.len{H:Hp}{ds:List (oq×D)}{kvs:List (oq×V)}(h:uj K H ds kvs):ds.length=kvs.length:=by
 have:=congrArg bp h.1;simpa using this
theorem Jc{H:Hp}{ds:List (oq×D)}{kvs:List (oq×V)}{key:oq}{d:D}{v:V}(h:uj K H ds kvs) (r:rD K H d v):uj K H (vH ds key d) (xn kvs key v):=by
 have C:(ds.any λkv=>decide (kv.1=key))=kvs.any λkv=>decide (kv.1=key):=by
  have n:(ds.any λkv=>decide (kv.1=key))=(ds.map (·.1)).any λk=>decide (k=key):=by rw[ie];rfl
  have s:(kvs.any λkv=>decide (kv.1=key))=(kvs.map (·.1)).any λk=>decide (k=key):=by rw[ie];rfl
  rw[n,s,h.1]
 unfold vH xn;rw[C];split
 .refine ⟨?_,λi a b n s=>?_⟩
  .rw [mPq,mPq];have n:((λkv:oq×D=>kv.1)∘λkv:oq×D=>if kv.1=key then (kv.1,d) else kv)=λkv=>kv.1:=by
    funext kv;show (if kv.1=key then (kv.1,d) else kv).1=kv.1
    split <;> rfl
   have s:((λkv:oq×V=>kv.1)∘λkv:oq×V=>if kv.1=key then (kv.1,v) else kv)=λkv=>kv.1:=by
    funext kv;show (if kv.1=key then (kv.1,v) else kv).1=kv.1
    split <;> rfl
   rw[n,s];exact h.1
  .rw [gMq]at n s;obtain⟨u,x,rfl⟩:=oMq.mp n;obtain⟨E,y,rfl⟩:=oMq.mp s;have z:=h.key x y
   by_cases c:u.1=key
   .rw [pQ c,pQ (z ▸ c)];exact r
   .rw [qk c,qk (z ▸ c)];exact h.2 i u E x y
 .refine ⟨by rw[mBq,mBq,h.1];rfl,λi a b n s=>?_⟩
  by_cases B:i<ds.length
  .rw [gZq B]at n;rw[gZq (h.len ▸ B)]at s;exact h.2 i a b n s
  .have t:i=ds.length:=by
    have:=(gSq.mp n).1;rw[lAq,lSq]at this;lia
   subst t;rw[gYq (ai _),dX]at n;rw[h.len,gYq (ai _),dX]at s;cases n;cases s;exact r
def ym:MK:=λS=>some (.owd [],S)
theorem uT:SK K PV ym:=by
 intro H₀ n u S σ H x y z R e Q q;cases e;intro p r;obtain⟨t,R2,s,B,C⟩:=R.new (o:=.dK []) r;exact q _ _ _ (.ref p) [p] t R2 (.owd oC s ⟨rfl,λi d v h=>by simp at h⟩) (xN.one R r)
theorem pP.owd{H₀ n Hf H:Hp}{S:AS}{σ:St}{s:List (List Addr)}(R:pP K H₀ n Hf S σ H s) {i:Nat}{ds:List (oq×D)}(h:S[i]?=some (some (.owd ds))):∃p kvs,σ[i]?=some (some (.ref p))/\s[i]?=some [p]/\H p=some (.dK kvs)/\Hf p=none/\uj K Hf ds kvs /\
  H₀ p=none/\p∉(s.set i []).flatten:=by
 obtain⟨v,F,t,u,r,nd,o,_⟩:=R.move h;obtain⟨p,kvs,rfl,rfl,h1,h2,x⟩:=r.owd_inv;exact⟨p,kvs,t,u,h1,h2,x,(o p (by simp)).1,(o p (by simp)).2⟩
theorem sH{i:Nat}(Q:SK K te k) (U:SR K tb b):SS K (UH (zo i) tb te) (vf i b k):=by
 intro H₀ t Hf S σ H Fs o R e D h;obtain⟨x,J,e⟩:=oBq.mp e;obtain⟨a0,X,e⟩:=oBq.mp e;obtain⟨y,Y,e⟩:=oBq.mp e;obtain⟨kvs,e3,e⟩:=oBq.mp e;obtain⟨key,e4,e⟩:=oBq.mp e;rcases oT e with ⟨hl,e⟩|e
 .skip
  cases e;have u:SK K te (vQ k):=SK.frz Q;refine u R (a:=x.1) (S':=x.2) J _ λHf1 H1 Fs1 v F t1 L M o1=>?_
  obtain⟨O,_,z,_⟩:=L.owd (AX X);refine⟨_,z,U L (d:=y.1) (S':=y.2) Y _ λHf2 H2 Fs2 w P R2 r2=>?_⟩
  obtain⟨q',kv,n,B,C,E,r,G,I⟩:=R2.owd (AX e3);rw[z]at n;cases n;obtain⟨x1,s⟩:∃d,x.1 = .sh d:=by
   obtain⟨w,_,e⟩:=oMq.mp J;rw[←e];exact⟨_,rfl⟩
  rw[s]at M;have rv:=(M.sh_inv.2).mono P.sf;have hw:=xU e4 r2;subst hw;refine⟨O,_,rfl,QE.k C (by rw[vp,←r.len];exact hl),h _ _ _ _ (t1.sf.trans P.sf) (R2.turn z B (by simp) (F':=[O]) (.owd oC E ?_) (by simp) λq hq=>by rw[mSq.mp hq];exact⟨G,I⟩)⟩
  rw[s,tJ];exact Jc r rv
 .cases e
def aat(a b:ME):ME:=λS=>(a S).bind λx=>(b x.2).bind λy=>match y.1 with
 | .dict kvs=>(vX x.1).map λkey=>(.bl (getD kvs key).isSome,y.2)
 |_=>none
def uK(a b:ME):ME:=λS=>(a S).bind λx=>(b x.2).bind λy=>match y.1 with
 | .dict kvs=>(vX x.1).map λkey=>(.bl (!(getD kvs key).isSome),y.2)
 |_=>none
def ro(a b:ME):ME:=λS=>(a S).bind λx=>(b x.2).bind λy=>match x.1 with
 | .dict kvs=>(vX y.1).bind λkey=>(getD kvs key).map λd=>(d,y.2)
 |_=>none
theorem MM{H:Hp}{kvs:List (oq×D)}{x:V}{key:oq}{d:D}(r:rD K H (.dict kvs) x) (e:getD kvs key=some d):∃a v,x = .ref a/\Dz H a (kV key) (some v)/\rD K H d v:=by
 obtain⟨p,s,rfl,h1,h2⟩:=r.dict_inv;have g:=BB (key:=key) h2;rw[e]at g;obtain⟨v,n,g2⟩:=g;exact⟨p,v,rfl,by rw[←n];exact Dz.k h1,g2⟩
theorem Qv{H:Hp}{kvs:List (oq×D)}{x:V}{key:oq}(r:rD K H (.dict kvs) x):∃a o,x = .ref a/\Dz H a (kV key) o/\o.isSome=(getD kvs key).isSome:=by
 obtain⟨p,s,rfl,h1,h2⟩:=r.dict_inv;have g:=BB (key:=key) h2;refine⟨p,_,rfl,Dz.k h1,?_⟩;cases e:getD kvs key with
 |none=>rw[e]at g;rw[g];rfl
 |some d=>rw[e]at g;obtain⟨v,n,_⟩:=g;rw[n];rfl
theorem uA{a:ME}(s:SR K ta a) (t:SR K tb b):SR K (Lg ta tb) (uK a b):=by
 intro H₀ n U S σ H X d Y R e Q q;obtain⟨x,u,e⟩:=oBq.mp e;obtain⟨y,z,e⟩:=oBq.mp e;refine s R (d:=x.1) (S':=x.2) u _ λB H1 Fs1 v1 C E G=>t E (d:=y.1) (S':=y.2) z _ λI H2 Fs2 v2 J R2 r=>?_
 split at e
 .rename_i L M;rw[M]at r;obtain⟨key,O,e⟩:=oMq.mp e;cases e;obtain⟨p,o,rfl,P,g2⟩:=Qv (key:=key) r;refine⟨p,o,rfl,by rw[xU O G];exact P,?_⟩
  rw[g2];exact q _ _ _ _ (C.trans J) R2 .bl
 .cases e
theorem qP{a:ME}(t:SR K ta a) (u:SR K tb b):SR K (OU ta tb) (ro a b):=by
 intro H₀ n X S σ H Y d S' R e Q q;obtain⟨x,z,e⟩:=oBq.mp e;obtain⟨y,B,e⟩:=oBq.mp e;refine t R (d:=x.1) (S':=x.2) z _ λC H1 Fs1 v1 E G r=>u G (d:=y.1) (S':=y.2) B _ λI H2 Fs2 v2 s R2 J=>?_
 split at e
 .rename_i L M;rw[M]at r;obtain⟨key,O,e⟩:=oBq.mp e;obtain⟨d',P,e⟩:=oMq.mp e;cases e;obtain⟨p,v,rfl,U,g2⟩:=MM (r.mono s.sh) P;exact⟨p,v,rfl,by rw[xU O J];exact U,q _ _ _ _ (E.trans s) R2 g2⟩
 .cases e
end
def sk(x:Nat) (body:MS):List D->AS->Option Lk
 | [],S=>some (.nx S)
 |d::ds,S=>(body (S.set x (some (.sh d)))).bind λo=>match o with
  | .nx S'=>sk x body ds S'
  | .ct S'=>sk x body ds S'
  | .bk S'=>some (.nx S')
  | .rt a=>some (.rt a)
noncomputable def uo:D->Option (List D)
 | .list ds=>some ds
 | .scr ns=>some (ns.map .int)
 |_=>none
def zm(x:Nat) (k:MK) (body:MS):MS:=λS=>(vQ k S).bind λy=>(uo (oa y.1)).bind λds=>sk x body ds y.2
noncomputable def pR(lo:Int) (n:Nat):List D:=(aS n).map λi:Nat=>.int (lo+i)
def Cp:List D->Option (List D)
 | [.int j]=>uu (-(2 ^ 62)<=j/\j<2 ^ 62) (some (pR 0 j.toNat))
 |_=>none
def YR:List D->Option (List D)
 | [.int i,.int j]=>uu (-(2 ^ 62)<=i/\i<2 ^ 62/\-(2 ^ 62)<=j/\j<2 ^ 62) (some (pR i (j-i).toNat))
 |_=>none
def zb(x:Nat) (a:ML) (body:MS):MS:=λS=>(a S).bind λy=>(Cp y.1).bind λds=>sk x body ds y.2
def Y3(x:Nat) (a:ML) (body:MS):MS:=λS=>(a S).bind λy=>(YR y.1).bind λds=>sk x body ds y.2
def Bb(x y:Nat) (body:MS):Nat->List D->AS->Option Lk
 |_,[],S=>some (.nx S)
 |i,d::ds,S=>(body ((S.set x (some (.sh (.int i)))).set y (some (.sh d)))).bind λo=>match o with
  | .nx S'=>Bb x y body (i+1) ds S'
  | .ct S'=>Bb x y body (i+1) ds S'
  | .bk S'=>some (.nx S')
  | .rt a=>some (.rt a)
def Ig(x y:Nat) (k:MK) (body:MS):MS:=λS=>(vQ k S).bind λz=>(uo (oa z.1)).bind λds=>Bb x y body 0 ds z.2
def A4(x y:Nat) (body:MS):List D->List D->AS->Option Lk
 |d::ds,e::es,S=>(body ((S.set x (some (.sh d))).set y (some (.sh e)))).bind λo=>match o with
  | .nx S'=>A4 x y body ds es S'
  | .ct S'=>A4 x y body ds es S'
  | .bk S'=>some (.nx S')
  | .rt a=>some (.rt a)
 |_,_,S=>some (.nx S)
def Pf(x y:Nat) (k l:MK) (body:MS):MS:=λS=>(vQ k S).bind λz=>(vQ l z.2).bind λw=>(uo (oa z.1)).bind λds=>(uo (oa w.1)).bind λes =>
 if ds.length=es.length then A4 x y body ds es w.2 else none
def sj(c:MT) (body:MS):Nat->MS
 |0,_=>none
 |n+1,S=>(c S).bind λx=>if x.1=true then (body x.2).bind λo=>match o with
   | .nx S'=>sj c body n S'
   | .ct S'=>sj c body n S'
   | .bk S'=>some (.nx S')
   | .rt a=>some (.rt a)
  else some (.nx x.2)
section
variable {K:W.Frag}{te tf:TE}{k l:MK}{tb:TS}{body:MS}{x y:Nat}
theorem yh{H:Hp}{d:D}{ds:List D}{v:V}(e:uo d=some ds) (r:rD K H d v):∃a vs,v = .ref a/\qV K H a vs/\pK K H ds vs:=by
 cases d with
 |list s =>
  cases e;obtain⟨p,vs,rfl,h1,h2⟩:=r.list_inv;exact⟨p,vs,rfl,qV.of h1,h2⟩
 |scr n =>
  cases e;cases r with
  |scr h=>exact⟨_,_,rfl,h,uE n⟩
 |_=>cases e
theorem zN{te:TE}{S:AS}{z:AV×AS}(e:vQ k S=some z):∃d,z.1 = .sh d:=by
 obtain⟨w,_,e⟩:=oMq.mp e;rw[←e];exact⟨_,rfl⟩
theorem pP.setD{H₀ n Hf H:Hp}{S:AS}{σ:St}{s:List (List Addr)}{d:D}{v:V}(R:pP K H₀ n Hf S σ H s) (i:Nat) (r:rD K Hf d v):pP K H₀ n Hf (S.set i (some (.sh d))) (σ.set i (some v)) H (s.set i []) :=
 R.set i (.sh r) aY λq h=>(by cases h)
theorem ub(hk:SK K te k) (hb:SS K tb body):SS K (Mv (OA K te) (tm x) tb) (zm x k body):=by
 intro H₀ B Hf S σ H Fs o R e D h;obtain⟨z,e1,e⟩:=oBq.mp e;obtain⟨X,e2,e⟩:=oBq.mp e;have Y:SK K te (vQ k):=SK.frz hk;refine Y R (a:=z.1) (S':=z.2) e1 _ λE H1 Fs1 v F t1 R1 r1 o1=>?_
 obtain⟨d,hd⟩:=zN (te:=te) e1;rw[hd]at r1;rw[hd,tJ]at e2;obtain⟨a,vs,rfl,g1,g2⟩:=yh e2 r1.sh_inv.2;refine⟨a,rfl,⟨vs,R1.sub.seq g1⟩,PM (xs:=vs) (λi r P=>∃n G s,pP K H₀ B n G r P s/\pJ E n/\sk x body (X.drop i) G=some o) ⟨E,z.2,Fs1,R1,.refl _,e⟩
  (λi r P _ ⟨n,G,s,I,u,_⟩=>I.sub.seq (u.seq g1)) ?_ ?_⟩
 .rintro i w r P hw ⟨n,G,s,I,u,C⟩;obtain⟨di,J,Az⟩:=g2.get' hw;have hlt:i<X.length:=(gSq.mp J).1;rw[aX hlt]at C;have L:X[i]=di:=(gSq.mp J).2;rw[L]at C;obtain⟨ob,e3,Q⟩:=oBq.mp C;refine hb (I.setD x (Az.mono u)) e3 _ ?_;cases ob with
  |nx U=>exact λt M H2 Fs2 O R2=>⟨t,U,Fs2,R2,u.trans O,Q⟩
  |ct U=>exact λt M H2 Fs2 O R2=>⟨t,U,Fs2,R2,u.trans O,Q⟩
  |bk U=>cases Q;exact λt M H2 Fs2 O R2=>h _ _ _ _ ((t1.sf.trans u).trans O) R2
  |rt a=>cases Q;exact h
 .rintro r P ⟨n,G,s,I,u,C⟩;rw[←g2.1,eQ]at C;cases C;exact h _ _ _ _ (t1.sf.trans u) I
theorem Nv{H₀ r Hf1 U:Hp}{P:AS}{σ:St}{Fs1:List (List Addr)}{o:Lk}{D:Av}{lo:Int}{n:Nat}(Y:SS K tb body) (R1:pP K H₀ r Hf1 P σ U Fs1) (e:sk x body (pR lo n) P=some o) (h:E2 K H₀ r Hf1 D o) :
  ∃W:Nat->Nat->St->Hp->Prop,(∃m,W 0 m σ U)/\∀i m σ H,W i m σ H ->
   ((R8 lo n).stop i H/\D.nx σ H)∨((R8 lo n).go i H/\∃N:St->Hp->Prop,(∀s t,N s t->∃X,X<m/\W (i+1) X s t)/\∀v t,(R8 lo n).yld i H v t->tm x v σ t λu J=>tb { D with nx:=N,ct:=N,bk:=D.nx } u J):=by
 refine NA (λi s t=>∃z L C,pP K H₀ r z L s t C/\pJ Hf1 z/\sk x body ((pR lo n).drop i) L=some o) ⟨Hf1,P,Fs1,R1,.refl _,e⟩ ?_ ?_
 .rintro i s t hi ⟨z,L,C,Q,G,E⟩;have R:i<(pR lo n).length:=by unfold pR;rw[lMq,aD];exact hi
  rw[aX R]at E;have S:(pR lo n)[i] = .int (lo+i):=by simp[pR]
  rw[S]at E;obtain⟨ob,e3,M⟩:=oBq.mp E;refine Y (Q.setD x .int) e3 _ ?_;cases ob with
  |nx O=>exact λB u J Fs2 I R2=>⟨B,O,Fs2,R2,G.trans I,M⟩
  |ct O=>exact λB u J Fs2 I R2=>⟨B,O,Fs2,R2,G.trans I,M⟩
  |bk O=>cases M;exact λB u J Fs2 I R2=>h _ _ _ _ (G.trans I) R2
  |rt a=>cases M;exact h
 .rintro s t ⟨z,L,C,Q,G,E⟩;have hl:(pR lo n).length=n:=by unfold pR;rw[lMq,aD]
  rw[bz (fh hl)]at E;cases E;exact h _ _ _ _ G Q
theorem wV{s:TA}{a:ML}(B:Rm K s a) (C:SS K tb body):SS K (Mv (Rk s) (tm x) tb) (zb x a body):=by
 intro H₀ r M S σ H O o R e D h;obtain⟨z,E,e⟩:=oBq.mp e;obtain⟨P,n,e⟩:=oBq.mp e;refine B R (ds:=z.1) (S':=z.2) E _ λG Q Fs1 U I J t=>?_
 unfold Cp at n;split at n
 .rename_i j L;rcases oT n with ⟨u,n⟩|n
  .skip
   cases n;rw[L]at t;obtain⟨v,X,rfl,h1,h2⟩:=t.cons_inv;rw[h2.nil_inv];cases h1;exact⟨j,rfl,u.1,u.2,Nv C J e (h.mono I.sf)⟩
  .cases n
 .cases n
theorem FS(hk:SK K te k) (hb:SS K tb body):SS K (Mv (T9 K (tP te wM)) (Nk K 2 (zP (tm x) (zP (tm y) Ny))) tb) (Ig x y k body):=by
 intro H₀ B Hf S σ H Fs o R e D h;obtain⟨z,e1,e⟩:=oBq.mp e;obtain⟨X,e2,e⟩:=oBq.mp e;have Y:SK K te (vQ k):=SK.frz hk;refine Y R (a:=z.1) (S':=z.2) e1 _ λE H1 Fs1 v F t1 R1 r1 o1=>?_
 obtain⟨d,hd⟩:=zN (te:=te) e1;rw[hd]at r1;rw[hd,tJ]at e2;obtain⟨a,vs,rfl,g1,g2⟩:=yh e2 r1.sh_inv.2;refine⟨a,rfl,⟨vs,R1.sub.seq g1⟩,QV (xs:=vs) (λi r P=>∃n G s,pP K H₀ B n G r P s/\pJ E n/\Bb x y body i (X.drop i) G=some o) ⟨E,z.2,Fs1,R1,.refl _,e⟩
  (λi r P _ ⟨n,G,s,I,u,_⟩=>I.sub.seq (u.seq g1)) ?_ ?_⟩
 .rintro i w r P T hw ⟨n,G,s,I,u,C⟩ hT;obtain⟨di,J,Az⟩:=g2.get' hw;have hlt:i<X.length:=(gSq.mp J).1;rw[aX hlt]at C;have L:X[i]=di:=(gSq.mp J).2;rw[L]at C;obtain⟨ob,e3,Q⟩:=oBq.mp C;have R2:=(I.new (o:=.tup [.int i,w]) hT).2.1;refine hb ((R2.setD x .int).setD y (Az.mono u)) e3 _ ?_;cases ob with
  |nx U=>exact λt M H2 Fs2 O R2=>⟨t,U,Fs2,R2,u.trans O,Q⟩
  |ct U=>exact λt M H2 Fs2 O R2=>⟨t,U,Fs2,R2,u.trans O,Q⟩
  |bk U=>cases Q;exact λt M H2 Fs2 O R2=>h _ _ _ _ ((t1.sf.trans u).trans O) R2
  |rt a=>cases Q;exact h
 .rintro r P ⟨n,G,s,I,u,C⟩;rw[←g2.1,eQ]at C;cases C;exact h _ _ _ _ (t1.sf.trans u) I
theorem RY(hk:SK K te k) (hl:SK K tf l) (hb:SS K tb body):SS K (Mv (XI K (tP te (tP tf wM))) (Nk K 2 (zP (tm x) (zP (tm y) Ny))) tb) (Pf x y k l body):=by
 intro H₀ C Hf S σ H Fs o R e D h;obtain⟨z,e1,e⟩:=oBq.mp e;obtain⟨w,J,e⟩:=oBq.mp e;obtain⟨ds,e2,e⟩:=oBq.mp e;obtain⟨es,L,e⟩:=oBq.mp e;split at e
 .rename_i M;have hk':SK K te (vQ k):=SK.frz hk;have hl':SK K tf (vQ l):=SK.frz hl;refine hk' R (a:=z.1) (S':=z.2) e1 _ λHf1 H1 Fs1 v F t1 R1 r1 o1=>hl' R1 (a:=w.1) (S':=w.2) J _ λn H2 Fs2 v2 F2 t2 R2 r2 o2=>?_
  obtain⟨d,hd⟩:=zN (te:=te) e1;obtain⟨d2,O⟩:=zN (te:=te) J;rw[hd]at r1;rw[hd,tJ]at e2;rw[O]at r2;rw[O,tJ]at L;obtain⟨a,P,rfl,g1,g2⟩:=yh e2 (r1.sh_inv.2.mono t2.sf);obtain⟨b,ws,rfl,g3,g4⟩:=yh L r2.sh_inv.2;refine⟨a,b,rfl,⟨P,R2.sub.seq g1⟩,⟨ws,R2.sub.seq g3⟩,Tv (xs:=P) (ys:=ws) (λi t H'=>∃r E B,pP K H₀ C r E t H' B/\pJ n r/\A4 x y body (ds.drop i) (es.drop i) E=some o) ⟨n,w.2,Fs2,R2,.refl _,e⟩ (by rw[←g2.1,←g4.1,M])
   (λi t H' _ ⟨r,E,B,G,s,_⟩=>⟨G.sub.seq (s.seq g1),G.sub.seq (s.seq g3)⟩) ?_ ?_⟩
  .rintro i u u' t H' T hu hu' ⟨r,E,B,G,s,I⟩ hT;obtain⟨di,Q,Az⟩:=g2.get' hu;obtain⟨ei,U,rw2⟩:=g4.get' hu';have hlt:i<ds.length:=(gSq.mp Q).1;have X:i<es.length:=(gSq.mp U).1;rw[aX hlt,aX X,(gSq.mp Q).2,(gSq.mp U).2]at I;obtain⟨ob,e3,e4⟩:=oBq.mp I;have R3:=(G.new (o:=.tup [u,u']) hT).2.1;refine hb ((R3.setD x (Az.mono s)).setD y (rw2.mono s)) e3 _ ?_;cases ob with
   |nx S2=>exact λn Y H2 Fs2 s2 R2=>⟨n,S2,Fs2,R2,s.trans s2,e4⟩
   |ct S2=>exact λn Y H2 Fs2 s2 R2=>⟨n,S2,Fs2,R2,s.trans s2,e4⟩
   |bk S2=>cases e4;exact λn Y H2 Fs2 s2 R2=>h _ _ _ _ (((t1.sf.trans t2.sf).trans s).trans s2) R2
   |rt a=>cases e4;exact h
  .rintro t H' ⟨r,E,B,G,s,I⟩;have e0:ds.drop P.length=[]:=by rw[←g2.1,eQ]
   rw[e0]at I;have e0':A4 x y body [] (es.drop P.length) E=some (.nx E):=by
    cases es.drop P.length <;> rfl
   rw[e0']at I;cases I;exact h _ _ _ _ ((t1.sf.trans t2.sf).trans s) G
 .cases e
theorem xR{c:TT}{m:MT}(n:Nat) (hc:Hd K c m) (hb:SS K tb body):SS K (OP c tb) (sj m body n):=by
 intro H₀ s Q S σ H Fs o R e D h;refine⟨λn E X=>∃r C u,pP K H₀ s r C E X u/\pJ Q r/\sj m body n C=some o,⟨n,Q,S,Fs,R,.refl _,e⟩,?_⟩
 rintro n E X ⟨r,C,u,R',J,Y⟩;cases n with
 |zero=>cases Y
 |succ n =>
  obtain⟨z,e1,U⟩:=oBq.mp Y;refine hc R' (b:=z.1) (S':=z.2) e1 _ λHf1 H1 Fs1 L R1=>?_
  split at U
  .rename_i M;rw[M];refine Iy ⟨λt G=>∃r C u,pP K H₀ s r C t G u/\pJ Q r/\sj m body n C=some o,λt G w=>⟨n,fA n,w⟩,?_⟩
   obtain⟨ob,e3,O⟩:=oBq.mp U;refine hb R1 e3 _ ?_;cases ob with
   |nx P=>exact λB t G Fs2 I R2=>⟨B,P,Fs2,R2,(J.trans L.sf).trans I,O⟩
   |ct P=>exact λB t G Fs2 I R2=>⟨B,P,Fs2,R2,(J.trans L.sf).trans I,O⟩
   |bk P=>cases O;exact λB t G Fs2 I R2=>h _ _ _ _ ((J.trans L.sf).trans I) R2
   |rt a=>cases O;exact h
  .rename_i M;rw[dk]at M;rw[M];cases U;exact Ip (h _ _ _ _ (J.trans L.sf) R1)
end
def rR(l n:Nat) (m:MS):MF:=λds=>if ds.length=l then (m (ds.map (λd=>some (.sh d))++bN (n-ds.length) none)).bind λo=>match o with
  | .rt a=>some a
  | .nx _=>some (.sh .non)
  |_=>none
 else none
theorem MZ{K:W.Frag}{Hf H:Hp}{ds:List D}{vs:List V}(N:List Str) (s:pJ Hf H) (r:pK K Hf ds vs) :
  pP K H Hf Hf (ds.map (λd=>some (.sh d))++bN (N.length-ds.length) none) (L2.zj N vs) H (bN (ds.length+(N.length-ds.length)) []):=by
 have fl:=uz (ds.length+(N.length-ds.length));refine⟨by simp[L2.zj,r.1],by simp,λi z e=>?_,λi e=>?_,by rw[fl];exact aY,λp n=>(by rw[fl]at n;cases n),s,pJ.refl _,λb h _=>h,pJ.refl _⟩
 .by_cases l:i<ds.length
  .rw [gZq (by simpa using l),gMq]at e
   obtain⟨d,t,u⟩:=oMq.mp e;cases u;obtain⟨v,x,y⟩:=r.get t;refine⟨v,[],?_,?_,.sh y⟩
   .unfold L2.zj;rw[gZq (by simpa [←r.1] using l),gMq,x]
    rfl
   .rw [cV,pQ (by lia)]
  .rw [gYq (by simpa using l)]at e
   have:=mGq e;rw[dO this]at e;have h2:=dO this;cases h2
 .rw [cV];have l:=(gSq.mp e).1;rw[lAq,lMq,gQ]at l;rw[pQ l]
theorem oi{K:W.Frag}{t:TS}{m:MS}{B:Nat}(N:List Str) (h:SS K t m) {vs:List V}{H:Hp}{Q:VK}{E:XK}(C:oK K (rR B N.length m) vs H Q E):t { nx:=λ_ u=>Q .non u,rt:=Q } (L2.zj N vs) H:=by
 obtain⟨O,P,a,s,r,e,q⟩:=C;unfold rR at e;split at e
 .obtain ⟨o,G,x⟩:=oBq.mp e;refine h (MZ N s r) G _ ?_;cases o with
  |rt S =>
   cases x;exact λn u v F y I J l r nd fr=>q n u v F y I J l r nd fr
  |nx z =>
   cases x;exact λn L u M y R=>q n u .non [] R.sf R.fr R.sub R.lim (.sh .non) aY λq h=>(by cases h)
  |bk z=>cases x
  |ct z=>cases x
 .cases e
theorem oX{K:W.Frag}{m:MS}{l n:Nat}{vs:List V}{H:Hp}{Q:VK}{E:XK}(t:oK K (rR l n m) vs H Q E):vs.length=l:=by
 obtain⟨u,x,a,s,r,e,q⟩:=t;unfold rR at e;split at e
 .rename_i h;rw[←r.1,h]
 .cases e
noncomputable def fzAll:List Nat->AS->Option AS
 | [],S=>some S
 |j::js,S=>(S[j]?.join).bind λa=>fzAll js (S.set j (some (.sh (oa a))))
noncomputable def VU:Option AV->Option AV
 |some (.sh d)=>some (.sh d)
 |_=>none
def GV(S:AS):List Nat->Option AS
 | []=>some []
 |j::js=>(VU S[j]?.join).bind λa=>(GV S js).map (some a :: ·)
noncomputable def qA(tf:MT) (te:MK) (cap:AS):List D->Option (List AV)
 | []=>some []
 |d::ds=>(tf (some (.sh d)::cap)).bind λb=>if b.1=true then (te b.2).bind λa=>(qA tf te cap ds).map (a.1 :: ·) else qA tf te cap ds
abbrev MI:=AS->Option (List D×AS)
def vS(k:MK):MI:=λS=>(vQ k S).bind λy=>(uo (oa y.1)).map λds=>(ds,y.2)
def Ze(a:ML):MI:=λS=>(a S).bind λy=>(Cp y.1).map λds=>(ds,y.2)
def rY(l:MI) (fr:List Nat) (tf:MT) (te:MK):MK:=λS=>(l S).bind λy=>(fzAll fr y.2).bind λr=>(GV r fr).bind λcap=>uu (y.1.length<=qK) ((qA tf te cap y.1).map λn=>(.ow n,r))
def qz:MT:=λS=>some (true,S)
section
variable {K:W.Frag}{H₀ Hf₀ Hf Hf' H H':Hp}{S S':AS}{σ:St}{Fs Fs':List (List Addr)}
theorem pP.fz(R:pP K H₀ Hf₀ Hf S σ H Fs) {j:Nat}{a:AV}(e:S[j]?.join=some a):∃Hf' Fs',ze Hf H Fs Hf' H Fs'/\pP K H₀ Hf₀ Hf' (S.set j (some (.sh (oa a)))) σ H Fs':=by
 obtain⟨v,F,s,t,r,nd,o,u⟩:=R.move (pN e);have n:∀q∈F,Hf q=none:=λq l=>(r.owned q l).2
 have R2:=u.frz o n;have x:=r.frozen (sS (H:=H) n) λq l=>Bd l
 have y:=R2.again (F:=F) (G:=[]) s (.sh x) aY λq h=>(by cases h)
 refine⟨_,_,⟨sS n,.refl _,λp z=>qY z,λb h g=>?_⟩,y⟩
 by_cases m:b∈F
 .exact .inr (mFq.mpr ⟨F,mGq t,m⟩)
 .rw [um m]at g;exact absurd h g
theorem pP.fzAll:∀{fr:List Nat}{Hf:Hp}{S S':AS}{Fs:List (List Addr)},pP K H₀ Hf₀ Hf S σ H Fs->fzAll fr S=some S'->∃Hf' Fs',ze Hf H Fs Hf' H Fs'/\pP K H₀ Hf₀ Hf' S' σ H Fs'
 | [],Hf,S,S',Fs,R,e=>by
  cases e;exact⟨Hf,Fs,.refl,R⟩
 |j::js,Hf,S,S',Fs,R,e=>by
  obtain⟨a,n,r⟩:=oBq.mp e;obtain⟨s,Fs1,t,u⟩:=R.fz n;obtain⟨l,Fs2,x,R2⟩:=pP.fzAll u r;exact⟨l,Fs2,t.trans x,R2⟩
theorem Iw(R:pP K H₀ Hf₀ Hf S σ H Fs):∀{fr:List Nat}{cap:AS},GV S fr=some cap->cap.length=fr.length/\∀(k:Nat) (a:AV),cap[k]?=some (some a)->∃d v,a = .sh d/\(slots σ fr)[k]?=some (some v)/\rD K Hf d v
 | [],cap,e=>by
  cases e;exact⟨rfl,λk a h=>by simp at h⟩
 |j::js,cap,e=>by
  obtain⟨a,l,u⟩:=oBq.mp e;obtain⟨s,x,y⟩:=oMq.mp u;subst y;obtain⟨h1,h2⟩:=Iw R x;refine⟨by simp[h1],λk b t=>?_⟩
  cases k with
  |zero =>
   cases t;cases n:S[j]?.join with
   |none=>rw[n]at l;cases l
   |some c =>
    rw[n]at l;cases c with
    |sh d =>
     cases l;obtain⟨v,F,z,B,r⟩:=R.rep j _ (pN n);refine⟨d,v,rfl,?_,r.sh_inv.2⟩;show some ((σ[j]?).join)=_;rw[z];rfl
    |_=>cases l
  |succ k=>exact h2 k b (by simpa using t)
theorem NM(R:pP K H₀ Hf₀ Hf S σ H Fs) {fr:List Nat}{cap:AS}(e:GV S fr=some cap) {d:D}{x:V}(s:rD K Hf d x) :
  pP K H₀ Hf₀ Hf (some (.sh d)::cap) (some x::slots σ fr) H (bN (cap.length+1) []):=by
 obtain⟨h1,h2⟩:=Iw R e;have fl:=uz (cap.length+1);refine⟨by simp[slots,h1],by simp,λi t l=>?_,λi l=>?_,by rw[fl];exact aY,λp n=>(by rw[fl]at n;cases n),R.sub,R.fr,R.lim,R.sf⟩
 .cases i with
  |zero =>
   cases l;exact⟨x,[],rfl,by simp,.sh s⟩
  |succ k =>
   have z:k<cap.length:=(gSq.mp (by simpa using l)).1
   obtain⟨B,v,rfl,u,r⟩:=h2 k t (by simpa using l)
   exact⟨v,[],by simpa using u,by rw[cV,pQ (by lia)],.sh r⟩
 .rw [cV];have y:=(gSq.mp l).1;rw[pQ (by simpa using y)]
theorem pP.updOut(R:pP K H₀ Hf₀ Hf S σ H Fs) {p:Addr}{o:HO}(h1:p∉Fs.flatten) (h2:Hf p=none) (n:H₀ p=none):pP K H₀ Hf₀ Hf S σ (qG H p o) Fs where
 len:=R.len
 lenF:=R.lenF
 rep:=λi s e=>by
  obtain⟨v,F,t,l,r⟩:=R.rep i s e;exact⟨v,F,t,l,r.keepUpd λm=>h1 (qi l m)⟩
 emp:=R.emp
 nd:=R.nd
 fresh:=R.fresh
 sub:=λb u e=>by
  rw[oz λz=>by rw[z,h2]at e;cases e]
  exact R.sub b u e
 fr:=λb u e=>by
  rw[oz λz=>by rw[z,n]at e;cases e]
  exact R.fr b u e
 lim:=R.lim
 sf:=R.sf
theorem pP.outer{s:St}{Fs2 n:List (List Addr)}{l r:Hp}{y:AS}(R:pP K H₀ Hf₀ Hf S σ H Fs) (u:pP K H₀ Hf₀ l y s r n) (t:ze Hf H Fs2 l r n) (h0:Fs2.flatten=[]):ze Hf H Fs l r Fs/\pP K H₀ Hf₀ l S σ r Fs:=by
 have g:∀b,Hf b=none->H b≠none->l b=none:=λb h1 h2=>by
  by_cases e:l b=none
  .exact e
  .rcases t.gr b h1 e with z|z
   .exact absurd z h2
   .rw [h0]at z;cases z
 exact⟨⟨t.sf,t.sh,λ_ h=>h,λb h1 h2=>.inl (by
  by_cases e:H b=none
  .exact e
  .exact absurd (g b h1 e) h2)⟩,R.more t.sh t.sf u.sub (λq x=>g q (R.mem x).2 (R.mem x).1) u.lim⟩
end
section
variable {K:W.Frag}{tf:TT}{te:TE}{mf:MT}{me:MK}{fr:List Nat}
theorem Fz{H₀ r Hf1 E:Hp}{S1:AS}{σ:St}{Fs1:List (List Addr)}{cap:AS}{ds:List D}{G:List AV}{J:It}{Q:VK}(hf:Hd K tf mf) (he:SK K te me)
  (R1:pP K H₀ r Hf1 S1 σ E Fs1) (ec:GV S1 fr=some cap) (hl:ds.length<=qK) (e:qA mf me cap ds=some G)
  (hgo:∀i H,pJ Hf1 H->i<ds.length->J.go i H) (hst:∀H,pJ Hf1 H->J.stop ds.length H) (hy:∀i H x n,pJ Hf1 H->i<ds.length->J.yld i H x n->n=H/\∃d,ds[i]?=some d/\rD K Hf1 d x)
  (q:∀X n v F,ze Hf1 E Fs1 X n Fs1->pP K H₀ r X S1 σ n Fs1->oZ K X n (.ow G) v F->xN H₀ E Fs1 Fs1 F->Q v n) :
  ∀l,E l=none->∃W:Nat->Nat->Hp->Prop,(∃m,W 0 m (qG E l (.lst [])))/\∀i m H,W i m H ->
   (J.stop i H/\Q (.ref l) H) ∨
   (J.go i H/\∃N:Hp->Prop,(∀n,N n->∃m',m'<m/\W (i+1) m' n)/\∀x n,J.yld i H x n->tf (some x::slots σ fr) n λb H2 =>
    if b=true then te (some x::slots σ fr) H2 λy H3=>∃ys,H3 l=some (.lst ys)/\ys.length<jn/\N (qG H3 l (.lst (ys++[y]))) else N H2):=by
 intro l u;obtain⟨t0,R0,n1,n2,n3⟩:=R1.new (o:=.lst []) u
 let P:Nat->Hp->Prop:=λi H=>∃Hf as M Y oY,pP K H₀ r Hf S1 σ H Fs1/\ze Hf1 E Fs1 Hf H Fs1/\H l=some (.lst M)/\Hf l=none/\pb K Hf H as M Y/\xN H₀ E Fs1 Fs1 (l::Y.flatten)/\as.length<=i /\
  qA mf me cap (ds.drop i)=some oY/\G=as++oY
 refine⟨λi m H=>m=ds.length-i/\i<=ds.length/\P i H,⟨ds.length,by simp,ba _,Hf1,[],[],[],G,R0,t0,oC,n1,.nil,xN.one R1 u,ba _,e,rfl⟩,?_⟩
 rintro i m H ⟨rfl,hi,Hf,as,M,Y,oY,R,t,ha,hfa,ra,ow,la,er,ea⟩;have hs:pJ Hf1 H:=t.sf.trans R.sub
 by_cases I:i<ds.length
 .refine .inr ⟨hgo i H hs I,P (i+1),λn p=>⟨ds.length-(i+1),by lia,rfl,I,p⟩,λx n y=>?_⟩
  obtain⟨rfl,d,hd,rx⟩:=hy i H x n hs I y;rw[aX I,(gSq.mp hd).2]at er;obtain⟨b,e1,e2⟩:=oBq.mp er;have fl:=uz (cap.length+1);refine hf (NM R ec (rx.mono t.sf)) (b:=b.1) (S':=b.2) e1 _ λHf2 H2 Fs2 t2 R2=>?_
  obtain⟨L,R2'⟩:=R.outer R2 t2 fl;have B:H2 l=some (.lst M):=t2.sh _ _ ha;have O:Hf2 l=none:=by
   by_cases z:Hf2 l=none
   .exact z
   .rcases t2.gr l hfa z with z|z
    .rw [ha]at z;cases z
    .rw [fl]at z;cases z
  have ra2:=ra.stp (λq C=>ow.out q (mCo _ C)) L
  split at e2
  .rename_i hb;rw[hb];refine Iy ?_;obtain⟨a,e3,e4⟩:=oBq.mp e2;obtain⟨rest',e5,e6⟩:=oMq.mp e4;subst e6;refine he R2 (a:=a.1) (S':=a.2) e3 _ λHf3 H3 Fs3 v F t3 R3 r3 o3=>?_
   have fl2:Fs2.flatten=[]:=by
    cases hz:Fs2.flatten with
    |nil=>rfl
    |cons z zs =>
     have:=t2.own z (by rw[hz];simp)
     rw[fl]at this;cases this
   obtain⟨t3',R3'⟩:=R2'.outer R3 t3 fl2;have ha3:H3 l=some (.lst M):=t3.sh _ _ B;have S:Hf3 l=none:=by
    by_cases z:Hf3 l=none
    .exact z
    .rcases t3.gr l O z with z|z
     .rw [B]at z;cases z
     .rw [fl2]at z;cases z
   have ra3:=ra2.stp (λq C=>ow.out q (mCo _ C)) t3'
   have s:∀q∈F,H2 q=none:=λq C=>(o3.new q C).elim id λz=>by rw[fl2]at z;cases z
   have U:l∉F:=λm=>by rw[s l m]at B;cases B
   have accG:l∉Y.flatten:=(aB.mp ow.nd).1;have tt:=(t.trans L).trans t3';refine⟨M,ha3,?_,?_⟩
   .rw [vp,←ra.1];lia
   .refine ⟨Hf3,as++[a.1],M++[v],Y++[F],rest',R3'.updOut n3 S n2,⟨tt.sf,λb o eb=>?_,λ_ h=>h,tt.gr⟩,oC,S,(ra3.keepUpd accG).snoc (r3.keepUpd U),?_,by rw[lAq,lSq];lia,e5,by rw[ea];simp⟩
    .rw [oz λz=>by rw[z,u]at eb;cases eb]
     exact tt.sh b o eb
    .rw [fAq,aU];have oF:xN H₀ E Fs1 Fs1 F:=⟨o3.nd,o3.fr,λq C m=>(R2'.mem m).1 (s q C),λq C=>.inl ((t.trans L).sh.free (s q C))⟩
     refine(show xN H₀ E Fs1 Fs1 ((l::Y.flatten)++F) from ow.app oF λq C m=>?_)
     rcases ar.mp C with z|z
     .rw [z]at m;exact U m
     .exact (ra2.owned q z).1 (s q m)
  .rename_i hb;rw[dk]at hb;rw[hb];exact Ip ⟨Hf2,as,M,Y,oY,R2',t.trans L,B,O,ra2,ow,by lia,e2,ea⟩
 .have e0:i=ds.length:=by lia
  subst e0;rw[eQ]at er;cases er;rw[aNq]at ea;subst ea;exact .inl ⟨hst H hs,q Hf H (.ref l) _ t R (oZ.news ha hfa ra) ow⟩
theorem qr{u:TE}{k:MK}(P:SK K u k) (U:Hd K tf mf) (X:SK K te me):SK K (LF (OA K u) fr tf te) (rY (vS k) fr mf me):=by
 intro H₀ C Hf S σ H Fs av S' R e Q q;obtain⟨y,l,e⟩:=oBq.mp e;obtain⟨z,J,l⟩:=oBq.mp l;obtain⟨ds,L,l⟩:=oMq.mp l;subst l;obtain⟨S2,Y,e⟩:=oBq.mp e;obtain⟨cap,e4,e⟩:=oBq.mp e;rcases oT e with ⟨hl,e⟩|e
 .obtain ⟨avs,e5,e⟩:=oMq.mp e;cases e;have E:SK K u (vQ k):=SK.frz P;refine E R (a:=z.1) (S':=z.2) J _ λHf1 H1 Fs1 v F M R1 O o1=>?_
  obtain⟨d,hd⟩:=zN (te:=u) J;rw[hd]at O;rw[hd,tJ]at L;obtain⟨Hf2,Fs2,G,R2⟩:=R1.fzAll Y;obtain⟨a,n,rfl,B,g2⟩:=yh L (O.sh_inv.2.mono G.sf);refine⟨a,rfl,⟨n,R2.sub.seq B⟩,Fz (K:=K) U X R2 e4 hl e5 (λi H s I=>⟨n,n[i]'(g2.1 ▸ I),s.seq B,gEg (g2.1 ▸ I)⟩) (λH s=>⟨n,s.seq B,fh g2.1.symm⟩) (λi H x H' s I y=>?_) λHf' H' v F t R' r o=>q _ _ _ v F ((M.trans G).trans t) R' r (o.back (M.trans G))⟩
  obtain⟨y1,y2⟩:=y;obtain⟨di,h1,h2⟩:=g2.get' (y2 n (s.seq B));exact⟨y1,di,h1,h2⟩
 .cases e
theorem A2{lo:Int}{n i:Nat}(h:i<n):(pR lo n)[i]?=some (.int (lo+i)):=by
 unfold pR;rw[gMq,bY h];rfl
theorem pT(lo:Int) (n:Nat):(pR lo n).length=n:=by unfold pR;rw[lMq,aD]
theorem NG{C:TA}{a:ML}(L:Rm K C a) (M:Hd K tf mf) (O:SK K te me):SK K (LF (Rk C) fr tf te) (rY (Ze a) fr mf me):=by
 intro H₀ B Hf S σ H Fs av S' R e Q q;obtain⟨y,n,e⟩:=oBq.mp e;obtain⟨z,P,n⟩:=oBq.mp n;obtain⟨ds,l,n⟩:=oMq.mp n;subst n;obtain⟨S2,U,e⟩:=oBq.mp e;obtain⟨X,Y,e⟩:=oBq.mp e;rcases oT e with ⟨hl,e⟩|e
 .obtain ⟨avs,e5,e⟩:=oMq.mp e;cases e;refine L R (ds:=z.1) (S':=z.2) P _ λHf1 H1 Fs1 vs E R1 G=>?_
  unfold Cp at l;split at l
  .rename_i j hz;rcases oT l with ⟨I,l⟩|l
   .skip
    cases l;rw[hz]at G;obtain⟨v,ws,rfl,h1,h2⟩:=G.cons_inv;rw[h2.nil_inv];cases h1;obtain⟨Hf2,Fs2,J,R2⟩:=R1.fzAll U;refine⟨j,rfl,I.1,I.2,Fz (K:=K) M O R2 Y hl e5 (λi H s u=>(by rw[pT]at u;exact u)) (λH s=>(by rw[pT];exact ai _)) (λi H x H' s u y=>?_) λHf' H' v F t R' r o=>q _ _ _ v F ((E.trans J).trans t) R' r (o.back (E.trans J))⟩
    obtain⟨y1,y2⟩:=y;rw[pT]at u;exact⟨y1,_,A2 u,by rw[y2];exact .int⟩
   .cases l
  .cases l
 .cases e
theorem tN:Hd K WS qz:=by
 intro H₀ l n S σ H r b s R e Q q;cases e;exact q _ _ _ .refl R
end
mutual
def py:D->Option PyData
 | .non=>some .none
 | .bl b=>some (.bool b)
 | .int i=>some (.int i)
 | .str x=>some (.str x)
 | .list ds=>(Fy ds).map .list
 | .tup ds=>(Fy ds).map .tuple
 |_=>none
def Fy:List D->Option (List PyData)
 | []=>some []
 |d::ds=>(py d).bind λx=>(Fy ds).map (x :: ·)
end
section
variable {X:Cx}
theorem zZ{h:Heap}:∀{ds:List D}{vs:List V}{l:List Value}{xs:List PyData},(∀(i:Nat) (d:D) (v:V),ds[i]?=some d->vs[i]?=some v->∀u x,qc v u->py d=some x->∃as,Reads h u x as)->ds.length=vs.length->oV vs l->Fy ds=some xs->∃as,ReadsAll h l xs as
 | [],vs,l,xs,_,hl,n,e=>by
  have:vs=[]:=cE.mp hl.symm;subst this;cases n;simp only[Fy]at e;cases e;exact⟨_,.nil⟩
 |d::ds,vs,l,xs,ih,hl,n,e=>by
  cases vs with
  |nil=>simp at hl
  |cons v vs =>
   cases n with
   |cons r t =>
    simp only[Fy]at e;obtain⟨x,s,y⟩:=oBq.mp e;obtain⟨I,z,B⟩:=oMq.mp y;subst B;obtain⟨as,h1⟩:=ih 0 d v rfl rfl _ x r s;obtain⟨bs,h2⟩:=zZ (λi C E G H=>ih (i+1) C E (by simpa using G) (by simpa using H)) (by simpa using hl) t z
    exact⟨_,.cons h1 h2⟩
theorem Bg{O:List (Addr×Obj)}{σ:St}{H:Hp}{s:Shared}(I:Inv X O σ H s) {d:D}{v:V}(r:rD X.K H d v):∀(u:Value) (x:PyData),qc v u->py d=some x->∃as,Reads s.heap u x as:=by
 induction r with
 |non=>intro u x y e;cases y;simp only[py]at e;cases e;exact⟨_,.none⟩
 |bl=>intro u x y e;cases y;simp only[py]at e;cases e;exact⟨_,.bool _⟩
 |int=>intro u x y e;obtain⟨t,rfl⟩:=y;simp only[py]at e;cases e;exact⟨_,.int _ _⟩
 |str=>intro u x y e;obtain⟨t,rfl⟩:=y;simp only[py]at e;cases e;exact⟨_,.str _ _⟩
 |ty=>intro u x y e;simp only[py]at e;cases e
 |list h l _ z =>
  intro u x y e;cases y;simp only[py]at e;obtain⟨P,B,rfl⟩:=oMq.mp e;obtain⟨C,E,hl,Q⟩:=I.list (qV.of h);obtain⟨o,G,J,n,hd⟩:=hl.isList;obtain⟨as,L⟩:=zZ z l E B;exact⟨_,Reads.list G J hd (by simpa using L)⟩
 |tup h l _ z =>
  intro u x y e;cases y;simp only[py]at e;obtain⟨P,B,rfl⟩:=oMq.mp e;obtain⟨C,E,⟨o,G,J,n,hd⟩,Q⟩:=I.tuple (EO.of h);obtain⟨as,L⟩:=zZ z l E B;exact⟨_,Reads.tuple G J hd (by simpa using L)⟩
 |dict h l _ z=>intro u x y e;simp only[py]at e;cases e
 |fd h l _ z=>intro u x y e;simp only[py]at e;cases e
 |scr h=>intro u x y e;simp only[py]at e;cases e
 |exc M R h S=>intro u x y e;simp only[py]at e;cases e
 |exc0 M h=>intro u x y e;simp only[py]at e;cases e
 |cls h=>intro u x y e;simp only[py]at e;cases e
 |ins M h l _ z=>intro u x y e;simp only[py]at e;cases e
noncomputable def Tw(K:W.Frag) (neg:Bool):R2:=λx y H Q=>∃(d e:D) (a b:PyData),rD K H d x/\rD K H e y/\py d=some a/\py e=some b/\SeqAt.shaped a=true/\SeqAt.shaped b=true/\SeqAt.noMix a b=true /\
 Q (.bl (if neg then !(PySem.Spec.same a b) else PySem.Spec.same a b)) H
theorem Gj(l:X.A.units+64<jD):EL X (jQ .Eq) (Tw X.K false):=by
 intro J s σ H x y v u Q I n r h;obtain⟨d,e,a,b,h1,h2,t,z,B,C,nm,q⟩:=h;obtain⟨L,E⟩:=Bg I h1 _ _ n t;obtain⟨bs,G⟩:=Bg I h2 _ _ r z;exact iR E G B C l nm (qb I q rfl)
theorem Cq(l:X.A.units+64<jD):EL X (jQ .NotEq) (Tw X.K true):=by
 intro J s σ H x y v u Q I n r h;obtain⟨d,e,a,b,h1,h2,t,z,B,C,nm,q⟩:=h;obtain⟨L,E⟩:=Bg I h1 _ _ n t;obtain⟨bs,G⟩:=Bg I h2 _ _ r z;exact iS E G B C l nm (qb I q rfl)
end
noncomputable def wZ(d e:D):Option D:=(py d).bind λa=>(py e).bind λb=>if SeqAt.shaped a=true/\SeqAt.shaped b=true/\SeqAt.noMix a b=true then some (.bl (PySem.Spec.same a b)) else none
def yt(d e:D):Option D:=(wZ d e).bind NO
section
variable {K:W.Frag}
theorem GQ:Fv K (Tw K false) wZ:=by
 intro x y H Q l n d r s e q;obtain⟨a,t,e⟩:=oBq.mp e;obtain⟨b,u,e⟩:=oBq.mp e;split at e
 .rename_i h;cases e;exact⟨l,n,a,b,r,s,t,u,h.1,h.2.1,h.2.2,q _ .bl⟩
 .cases e
theorem Cu:Fv K (Tw K true) yt:=by
 intro x y H Q l n d r s e q;obtain⟨c,e,t⟩:=oBq.mp e;obtain⟨a,u,e⟩:=oBq.mp e;obtain⟨b,z,e⟩:=oBq.mp e;split at e
 .rename_i h;cases e;cases t;exact⟨l,n,a,b,r,s,u,z,h.1,h.2.1,h.2.2,q _ .bl⟩
 .cases e
end
noncomputable abbrev dI(ns:List Int):D:=.list (ns.map .int)
abbrev dM(rs:List (List Int)):D:=.list (rs.map dI)
theorem IJ(ns:List Int):Fy (ns.map .int)=some (ns.map PyData.int):=by
 induction ns with
 |nil=>simp[Fy]
 |cons n ns l=>simp[Fy,py,l]
theorem U6(ns:List Int):py (dI ns)=some (xE ns):=by
 show py (.list _)=_;simp only[py,IJ];rfl
theorem PJ(rs:List (List Int)):Fy (rs.map dI)=some (rs.map xE):=by
 induction rs with
 |nil=>simp[Fy]
 |cons r rs l =>
  show Fy (dI r::rs.map dI)=_;simp only[Fy,U6,l];rfl
theorem XQ(rs:List (List Int)):py (dM rs)=some (Bo rs):=by
 show py (.list _)=_;simp only[py,PJ];rfl
theorem El(r:List Int):SeqAt.shaped (xE r)=true:=by
 have h2:=W.depthAll_ints r;have l:PyData.depth (xE r)<=64:=by simp only[xE,PyData.depth];lia
 show (PyData.canLay0 (xE r) && decide (PyData.depth (xE r)<=64))=true;rw[gv];exact⟨by simp only[xE,PyData.canLay0];exact W.canLayAll0_ints r,decide_eq_true l⟩
@[simp] theorem Wj (ns ms:List Int):wZ (dI ns) (dI ms)=some (.bl (decide (ns=ms))):=by
 unfold wZ;rw[U6,U6];show (if _ then _ else _)=_
 rw[pQ ⟨El ns,El ms,by simp only[xE,SeqAt.noMix];exact W.noMix_ints ns ms⟩]
 simp only[xE,PySem.Spec.same,W.same_ints]
@[simp] theorem Vm (rs l:List (List Int)):wZ (dM rs) (dM l)=some (.bl (decide (rs=l))):=by
 unfold wZ;rw[XQ,XQ];show (if _ then _ else _)=_
 rw[pQ ⟨CL rs,CL l,by simp only[Bo,SeqAt.noMix];exact Em rs l⟩]
 simp only[Bo,PySem.Spec.same,Fb]
@[simp] theorem UQ (ns ms:List Int):yt (dI ns) (dI ms)=some (.bl (!decide (ns=ms))):=by unfold yt;rw[Wj];rfl
@[simp] theorem UW (rs l:List (List Int)):yt (dM rs) (dM l)=some (.bl (!decide (rs=l))):=by unfold yt;rw[Vm];rfl
noncomputable def AM(l:ML):MK:=λS=>(l S).map λx=>(.ow (x.1.map .sh),x.2)
def GA(l:ML):MK:=λS=>(l S).bind λx=>(qC x.1).bind λns=>uu (ns.length<64) (some (.ow ((qN ns).map λn=>.sh (.int n)),x.2))
def Kj:List D->Option (List (List Int))
 | []=>some []
 | .list ds::es=>(qC ds).bind λr=>(Kj es).map (r :: ·)
 |_=>none
def Zp(l:ML):MK:=λS=>(l S).bind λx=>(Kj x.1).bind λrs=>uu (rs.length<64) (some (.ow ((uf rs).map λr=>.sh (dI r)),x.2))
section
variable {K:W.Frag}{te:TE}{l:ML}
theorem BW(hl:SQ K te l):SK K (Hh (λxs H Q=>∃p ys,xs=[.ref p]/\(qV K H p ys∨EO K H p ys)/\∀l,H l=none->Q (.ref l) (qG H l (.lst ys))) (tP te wM)) (AM l):=by
 intro H₀ r J S σ H L M O R e Q q;obtain⟨x,y,e⟩:=oMq.mp e;cases e;refine hl R (ds:=x.1) (S':=x.2) y _ λz P Fs1 B n s t h1 C=>⟨B,n,rfl,.inl h1,λp u=>?_⟩
 obtain⟨E,G,I,U,X⟩:=t.new (o:=.lst n) u;exact q _ _ _ (.ref p) [p] (s.trans E) G (oZ.new oC I C) ((xN.one t u).back s)
theorem zw(ns:List Int):(ns.map λn=>AV.sh (.int n))=(ns.map D.int).map .sh:=by rw[mPq];rfl
theorem Bj{α:Type}{c:Prop}{x:Option α}{y:α}(e:uu c x=some y):c/\x=some y:=by
 rcases oT e with h|h
 .exact h
 .cases h
theorem Ie(hl:SQ K te l):SK K (Hh (λxs H Q=>∃(a:Addr) (ns:List Int),xs=[.ref a]/\ns.length<64/\qV K H a (ns.map V.int)/\∀p,H p=none->Q (.ref p) (qG H p (.lst ((qN ns).map V.int)))) (tP te wM)) (GA l):=by
 intro H₀ n M S σ H O P U R e Q q;obtain⟨x,z,e⟩:=oBq.mp e;obtain⟨ns,B,e⟩:=oBq.mp e;obtain⟨r,e⟩:=Bj e;cases e;refine hl R (ds:=x.1) (S':=x.2) z _ λC X Fs1 E G s t h1 u=>?_
 rw[sY B]at u;rw[qJ u]at h1;refine⟨E,ns,rfl,r,h1,λp y=>?_⟩
 obtain⟨I,J,L,Y,n3⟩:=t.new (o:=.lst ((qN ns).map V.int)) y;rw[zw]at q;exact q _ _ _ (.ref p) [p] (s.trans I) J (oZ.new oC L (uE _)) ((xN.one t y).back s)
end
noncomputable def Xq:String->D->Bool
 |T,.list _=>T == "list"
 |T,.scr _=>T == "list"
 |T,.str _=>T == "str"
 |_,_=>false
def Yw(T:String) (f:D->List D->Option D) (a:ME) (as:ML):ME:=λS=>(a S).bind λx=>if Xq T x.1=true then (as x.2).bind λy=>(f x.1 y.1).map λd=>(d,y.2) else none
def ZS(K:W.Frag) (r:V->List V->Hp->VK->Prop) (f:D->List D->Option D):Prop:=∀{x:V}{vs:List V}{H:Hp}{Q:VK}{l:D}{ds:List D}{d:D},rD K H l x->pK K H ds vs->f l ds=some d->(∀v,rD K H d v->Q v H)->r x vs H Q
section
variable {K:W.Frag}{te:TE}{ta:TA}{a:ME}{as:ML}{r:V->List V->Hp->VK->Prop}{f:D->List D->Option D}{T:String}
theorem U4{H:Hp}{d:D}{v:V}(h:Xq T d=true) (n:rD K H d v):YE K T v H:=by
 cases n <;> simp only[Xq]at h
 all_goals first|(exfalso;simp at h;done)|skip
 .exact eq_of_beq h
 .rename_i p s t h1 l e;exact .inl ⟨eq_of_beq h,s,qV.of h1⟩
 .rename_i p u h1;exact .inl ⟨eq_of_beq h,_,h1⟩
theorem Q7(hr:ZS K r f) (t:SR K te a) (u:Rm K ta as):SR K (Ov K T r te ta) (Yw T f a as):=by
 intro H₀ l U S σ H X d Y R e Q q;obtain⟨x,B,e⟩:=oBq.mp e;split at e
 .rename_i C;obtain⟨y,E,e⟩:=oBq.mp e;obtain⟨z,G,e⟩:=oMq.mp e;cases e;refine t R (d:=x.1) (S':=x.2) B _ λI H1 Fs1 v J L n=>⟨U4 C n,u L (ds:=y.1) (S':=y.2) E _ λM H2 Fs2 vs s R2 O=>?_⟩
  exact hr (n.mono s.sh) O G λv P=>q _ _ _ v (J.trans s) R2 P
 .cases e
def B6:D->List D->Option D
 | .list ds,[.int k]=>(qC ds).bind λns=>if k∈ns then some (.int (ns.idxOf k:Nat)) else none
 |_,_=>none
theorem DY:ZS K (P2 K) B6:=by
 intro x B H Q C E d l s e q;unfold B6 at e;split at e
 .rename_i G k;obtain⟨t,u,e⟩:=oBq.mp e;split at e
  .rename_i y;cases e;obtain⟨v,I,rfl,h1,h2⟩:=s.cons_inv;rw[h2.nil_inv];cases h1;rw[sY u]at l;obtain⟨p,J,rfl,n,z⟩:=l.list_inv;rw[qJ z]at n;exact⟨p,t,k,rfl,rfl,qV.of n,y,q _ .int⟩
  .cases e
 .cases e
def ZA(a:ME):ME:=λS=>(a S).bind λx=>match x.1 with
 | .list ds=>(Kj ds).map λrs=>(.int (rs.countP (·=([]:List Int)):Nat),x.2)
 |_=>none
noncomputable def Y8:D->Option Bool
 | .non=>some false
 | .bl b=>some b
 | .int i=>some (i != 0)
 | .list ds=>some (!ds.isEmpty)
 | .tup ds=>some (!ds.isEmpty)
 | .dict ds=>some (!ds.isEmpty)
 |_=>none
def aam(a:ME):MT:=λS=>(a S).bind λx=>(Y8 x.1).map λb=>(b,x.2)
end
noncomputable def qg:AV->List Nat->Option (List AV)
 | .ow l,[]=>some l
 | .ow l,j::js=>(l[j]?).bind λa=>qg a js
 |_,_=>none
noncomputable def uC:AV->List Nat->List AV->AV
 | .ow _,[],as=>.ow as
 | .ow l,j::n,as=>match l[j]? with
  |some a=>.ow (l.set j (uC a n as))
  |none=>.ow l
 |a,_,_=>a
def GP(H:Hp):V->List Nat->V->Prop
 |v,[],w=>v=w
 |v,j::js,w=>∃p vs u,v = .ref p/\H p=some (.lst vs)/\vs[j]?=some u/\GP H u js w
section
variable {K:W.Frag}{H₀ Hf₀ Hf Hf' H H':Hp}{S S':AS}{σ:St}{Fs Fs':List (List Addr)}
theorem zg:∀{Fs:List (List Addr)}{F G:List Addr}(i:Nat),Fs.flatten.Nodup->Fs[i]?=some G->F.Nodup->(∀p∈F,p∈G∨p∉Fs.flatten)->(Fs.set i F).flatten.Nodup
 | [],F,G,i,h,e,_,_=>by simp at e
 |E::Gs,F,G,0,h,e,hF,hd=>by
  simp at e;subst e;rw[fb,fCq,nAq];rw[fCq,nAq]at h;refine⟨hF,h.2.1,λa l b n e=>?_⟩
  subst e;rcases hd a l with z|z
  .exact h.2.2 a z a n rfl
  .exact z (by rw[fCq];exact aC _ n)
 |E::Gs,F,G,i+1,h,e,hF,hd=>by
  rw[fe,fCq,nAq];rw[fCq,nAq]at h;have r:Gs[i]?=some G:=by simpa using e
  refine⟨h.1,zg i h.2.1 r hF λp s=>(hd p s).imp id λz m=>z (by rw[fCq];exact aC _ m),λa l b n e=>?_⟩
  subst e;rcases sF n with q|q
  .rcases hd a q with z|z
   .exact h.2.2 a l a (mFq.mpr ⟨G,mGq r,z⟩) rfl
   .exact z (by rw[fCq];exact bQ _ l)
  .exact h.2.2 a l a q rfl
theorem Dt:∀{Fs:List (List Addr)}{F G:List Addr}{i j:Nat}{p:Addr},Fs.flatten.Nodup->Fs[i]?=some F->Fs[j]?=some G->i≠j->p∈F->p∉G
 | [],F,G,i,j,p,_,e,_,_,_,_=>by simp at e
 |E::Es,F,G,0,0,p,h,e,f,n,_,_=>n rfl
 |E::Es,F,G,0,j+1,p,h,e,f,n,hp,m=>by
  simp at e;subst e;rw[fCq,nAq]at h;exact h.2.2 p hp p (mFq.mpr ⟨G,mGq (i:=j) (by simpa using f),m⟩) rfl
 |E::Es,F,G,i+1,0,p,h,e,f,n,hp,m=>by
  simp at f;subst f;rw[fCq,nAq]at h;exact h.2.2 p m p (mFq.mpr ⟨F,mGq (i:=i) (by simpa using e),hp⟩) rfl
 |E::Es,F,G,i+1,j+1,p,h,e,f,n,hp,m=>by
  rw[fCq,nAq]at h;exact Dt h.2.1 (i:=i) (j:=j) (by simpa using e) (by simpa using f) (λz=>n (by rw[z])) hp m
theorem oZ.path:∀{path:List Nat}{L:AV}{v:V}{F:List Addr}{as:List AV},oZ K Hf H L v F->F.Nodup->qg L path=some as->∃p vs I,GP H v path (.ref p)/\H p=some (.lst vs)/\Hf p=none/\pb K Hf H as vs I/\p∈F/\p∉I.flatten/\I.flatten.Nodup/\(∀q∈I.flatten,q∈F) /\
  ∀t s l,pb K Hf (qG H p (.lst s)) t s l->(p::l.flatten).Nodup->(∀q∈l.flatten,q∈I.flatten∨q∉F)->∃F',oZ K Hf (qG H p (.lst s)) (uC L path t) v F'/\F'.Nodup/\∀q∈F',q∈F∨q∈l.flatten
 | [],L,v,F,as,r,nd,e=>by
  cases L with
  |ow u =>
   cases e;obtain⟨p,vs,I,rfl,rfl,h1,h2,C⟩:=r.ow_inv;have n:=aB.mp nd;refine⟨p,vs,I,rfl,h1,h2,C,by simp,n.1,n.2,λq B=>mCo _ B,λt s l r' M _=>⟨p::l.flatten,oZ.news oC h2 r',M,λq B=>?_⟩⟩
   rcases ar.mp B with z|z
   .exact .inl (by rw[z];simp)
   .exact .inr z
  |_=>cases e
 |j::js,L,v,F,as,r,nd,e=>by
  cases L with
  |ow u =>
   obtain⟨a,e1,e2⟩:=oBq.mp (show (u[j]?).bind (λa=>qg a js)=some as from e)
   obtain⟨J,E,Gs0,rfl,rfl,h1,h2,C⟩:=r.ow_inv;have n:=aB.mp nd;have P:j<u.length:=(gSq.mp e1).1;have X:E[j]?=some (E[j]'(C.1 ▸ P)):=gEg _;have Q:Gs0[j]?=some (Gs0[j]'(C.2.1 ▸ P)):=gEg _;generalize E[j]'(C.1 ▸ P)=vj at X;generalize Gs0[j]'(C.2.1 ▸ P)=Y at Q;have rj:=C.2.2 j a vj Y e1 X Q;have ndj:Y.Nodup:=bj.sublist (aK (mGq Q)) n.2;have sub:∀q∈Y,q∈Gs0.flatten:=λq B=>qi Q B
   obtain⟨p,vs,I,g1,g2,g3,g4,g5,g6,g6',g7,g8⟩:=oZ.path rj ndj e2;have pne:J≠p:=λz=>n.1 (z ▸ sub p g5)
   refine⟨p,vs,I,⟨J,E,vj,rfl,h1,X,g1⟩,g2,g3,g4,mCo _ (sub p g5),g6,g6',λq B=>mCo _ (sub q (g7 q B)),λt s l r' M hd=>?_⟩
   obtain⟨F',k1,k2,k3⟩:=g8 t s l r' M λq B=>(hd q B).imp id λz m=>z (mCo _ (sub q m))
   have hF':∀q∈F',q∈Y∨q∉Gs0.flatten:=λq B=>by
    rcases k3 q B with z|z
    .exact .inl z
    .rcases hd q z with y|y
     .exact .inl (g7 q y)
     .exact .inr λm=>y (mCo _ m)
   refine⟨J::(Gs0.set j F').flatten,?_,aB.mpr ⟨λm=>?_,zg j n.2 Q k2 hF'⟩,λq B=>?_⟩
   .show oZ K Hf (qG H p (.lst s)) (match u[j]? with|some a=>.ow (u.set j (uC a js t))|none=>.ow u) (.ref J) _
    rw[e1];refine .ow (vs:=E) (by rw[oz pne];exact h1) h2 (by rw[lZq];exact C.1) (by rw[lZq,lZq];exact C.2.1) λi b w G U q2 R=>?_
    rw[bG]at U R
    by_cases O:j=i
    .subst O;rw[pQ rfl,pQ P]at U;rw[pQ rfl,pQ (C.2.1 ▸ P)]at R;rw[X]at q2;cases U;cases q2;cases R;exact k1
    .rw [qk O]at U R;exact(C.2.2 i b w G U q2 R).keepUpd λm=>Dt n.2 Q R O g5 m
   .rcases sF m with z|z
    .rcases k3 J z with y|y
     .exact n.1 (sub J y)
     .rcases hd J y with x|x
      .exact n.1 (sub J (g7 J x))
      .exact x (by simp)
    .exact n.1 z
   .rcases ar.mp B with z|z
    .exact .inl (by rw[z];simp)
    .rcases sF z with z|z
     .exact (k3 q z).imp (λy=>mCo _ (sub q y)) id
     .exact .inl (mCo _ z)
  |_=>cases e
theorem pP.turnAny(R:pP K H₀ Hf₀ Hf S σ H Fs) {i:Nat}{y:AV}{p:Addr}{o:HO}{v:V}{F F':List Addr}(E:σ[i]?=some (some v)) (B:Fs[i]?=some F) (s:p∈F) (r:oZ K Hf (qG H p o) y v F') (nd:F'.Nodup)
  (I:∀q∈F',H₀ q=none/\q∉(Fs.set i []).flatten):pP K H₀ Hf₀ Hf (S.set i (some y)) σ (qG H p o) (Fs.set i F'):=by
 have t:p∈Fs.flatten:=mFq.mpr ⟨F,mGq B,s⟩;have pn:Hf p=none:=(R.mem t).2;have J:H₀ p=none:=R.fresh p t;have out:=uR R.nd B s;have L:pP K H₀ Hf₀ Hf (S.set i none) σ (qG H p o) (Fs.set i []):=by
  refine⟨by simp[R.len],by simp[R.lenF],λj a n=>?_,λj n=>?_,se i R.nd aY (λp s=>by cases s),λp s=>R.fresh p (qY s),λb u e=>?_,λb u e=>?_,R.lim,R.sf⟩
  .rw [bG]at n
   by_cases l:i=j
   .subst l;rw[pQ rfl]at n;split at n <;> cases n
   .rw [qk l]at n;obtain⟨w,G,M,C,q⟩:=R.rep j a n;refine⟨w,G,M,by rw[aG l];exact C,q.keep (.refl _) (λc x=>oz λe=>out ?_) λc x=>(q.owned c x).2⟩
    subst e;exact mFq.mpr ⟨G,mGq (i:=j) (by rw[aG l];exact C),x⟩
  .rw [bG]at n
   by_cases l:i=j
   .subst l;rw[pQ rfl]at n;split at n
    .rename_i O;rw[aQ (R.lenF.symm ▸ O)]
    .cases n
   .rw [qk l]at n;rw[aG l];exact R.emp j n
  .rw [oz λz=>by rw[z,pn]at e;cases e]
   exact R.sub b u e
  .rw [oz λz=>by rw[z,J]at e;cases e]
   exact R.fr b u e
 exact L.again (F:=F) E r nd I
theorem pP.kill(R:pP K H₀ Hf₀ Hf S σ H Fs) (x:Nat):pP K H₀ Hf₀ Hf (S.set x none) σ H (Fs.set x []):=by
 refine⟨by simp[R.len],by simp[R.lenF],λj a n=>?_,λj n=>?_,se x R.nd aY (λp r=>by cases r),λp r=>R.fresh p (qY r),R.sub,R.fr,R.lim,R.sf⟩
 .rw [bG]at n
  by_cases l:x=j
  .subst l;rw[pQ rfl]at n;split at n <;> cases n
  .rw [qk l]at n;obtain⟨w,G,s,t,q⟩:=R.rep j a n;exact⟨w,G,s,by rw[aG l];exact t,q⟩
 .rw [bG]at n
  by_cases l:x=j
  .subst l;rw[pQ rfl]at n;split at n
   .rename_i u;rw[aQ (R.lenF.symm ▸ u)]
   .cases n
  .rw [qk l]at n;rw[aG l];exact R.emp j n
theorem pP.any(R:pP K H₀ Hf₀ Hf (S.set x none) σ H Fs) (v:V):pP K H₀ Hf₀ Hf (S.set x none) (σ.set x (some v)) H Fs where
 len:=by rw[R.len,lZq]
 lenF:=R.lenF
 rep:=λi n e=>by
  by_cases l:x=i
  .subst l;rw[bG]at e;rw[pQ rfl]at e;split at e <;> cases e
  .obtain ⟨w,G,r,s,q⟩:=R.rep i n e;exact⟨w,G,by rw[aG l];exact r,s,q⟩
 emp:=R.emp
 nd:=R.nd
 fresh:=R.fresh
 sub:=R.sub
 fr:=R.fr
 lim:=R.lim
 sf:=R.sf
end
noncomputable abbrev aI(ns:List Int):AV:=.ow (ns.map λn=>.sh (.int n))
noncomputable def CI:List AV->Option (List Int)
 | []=>some []
 | .sh (.int i)::r=>(CI r).map (i :: ·)
 |_=>none
def Dp:List AV->Option (List (List Int))
 | []=>some []
 | .ow as::r=>(CI as).bind λns=>(Dp r).map (ns :: ·)
 |_=>none
theorem HN:∀{as:List AV}{ns:List Int},CI as=some ns->as=ns.map λn=>.sh (.int n)
 | [],ns,h=>by cases h;rfl
 |a::as,ns,h=>by
  cases a with
  |sh d =>
   cases d with
   |int i =>
    obtain⟨l,h1,h2⟩:=oMq.mp (show (CI as).map (i :: ·)=some ns from h)
    subst h2;rw[HN h1];rfl
   |_=>cases h
  |_=>cases h
theorem HJ:∀{as:List AV}{rs:List (List Int)},Dp as=some rs->as=rs.map aI
 | [],rs,h=>by cases h;rfl
 |a::as,rs,h=>by
  cases a with
  |ow l =>
   obtain⟨r,h1,h⟩:=oBq.mp (show (CI l).bind (λn=>(Dp as).map (n :: ·))=some rs from h)
   obtain⟨t,h2,s⟩:=oMq.mp h;subst s;rw[HJ h2,HN h1];rfl
  |_=>cases h
@[simp] theorem NF (ns:List Int):CI (ns.map λn=>.sh (.int n))=some ns:=by
 induction ns with
 |nil=>rfl
 |cons n ns l=>show (CI (ns.map λn=>.sh (.int n))).map (n :: ·)=_;rw[l];rfl
@[simp] theorem NK (rs:List (List Int)):Dp (rs.map aI)=some rs:=by
 induction rs with
 |nil=>rfl
 |cons r rs l=>show (CI (r.map λn=>.sh (.int n))).bind (λs=>(Dp (rs.map aI)).map (s :: ·))=_;rw[NF,l];rfl
def Gc(k:MK):MK:=λS=>(k S).bind λx=>match x.1 with
 | .ow l=>(Dp l).bind λrs=>uu (rs.length<64) (some (.ow ((uf rs).map aI),x.2))
 |_=>none
section
variable {K:W.Frag}{Hf H:Hp}
theorem Kr{ns:List Int}{v:V}{F:List Addr}(h:oZ K Hf H (aI ns) v F):∃p,v = .ref p/\F=[p]/\H p=some (.lst (ns.map V.int))/\Hf p=none:=by
 obtain⟨p,l,r,rfl,rfl,h1,h2,s⟩:=h.ow_inv;have e:∀{ns:List Int}{l:List V}{r:List (List Addr)},pb K Hf H (ns.map λn=>AV.sh (.int n)) l r->l=ns.map V.int/\r.flatten=[]:=by
  intro ns
  induction ns with
  |nil =>
   intro l r h;obtain⟨a,b⟩:=h.nil_inv;exact⟨a,by rw[b];rfl⟩
  |cons n ns t =>
   intro l r h;obtain⟨v,I,F,u,rfl,rfl,x,y⟩:=pb.cons_inv (a:=.sh (.int n)) h;obtain⟨z,B⟩:=x.sh_inv;subst z;cases B;obtain⟨C,g2⟩:=t y;rw[C];exact⟨rfl,by rw[fCq,g2];rfl⟩
 obtain⟨E,G⟩:=e s;rw[G];subst E;exact⟨p,rfl,rfl,h1,h2⟩
theorem WA{ns:List Int}{p:Addr}(h1:H p=some (.lst (ns.map V.int))) (h2:Hf p=none):oZ K Hf H (aI ns) (.ref p) [p]:=by
 have:=oZ.new (K:=K) (Hf:=Hf) (H:=H) (ds:=ns.map D.int) h1 h2 (uE ns);rw[←zw]at this;exact this
theorem zX:∀{rs:List (List Int)}{vs:List V}{l:List (List Addr)},pb K Hf H (rs.map aI) vs l->∃ps,vs=ps.map V.ref/\l=ps.map (λp=>[p])/\rZ H ps rs/\∀p∈ps,Hf p=none
 | [],vs,l,h=>by
  obtain⟨a,b⟩:=h.nil_inv;exact⟨[],a,b,.nil,λp n=>by cases n⟩
 |r::rs,vs,l,h=>by
  obtain⟨v,B,F,s,rfl,rfl,t,u⟩:=pb.cons_inv (a:=aI r) (as:=rs.map aI) h;obtain⟨p,rfl,rfl,h1,h2⟩:=Kr t;obtain⟨ps,rfl,rfl,x,y⟩:=zX u;exact⟨p::ps,rfl,rfl,rZ.cons_iff.mpr ⟨h1,x⟩,λq z=>(ar.mp z).elim (λe=>e ▸ h2) (y q)⟩
theorem D7:∀{rs:List (List Int)}{ps:List Addr},rZ H ps rs->(∀p∈ps,Hf p=none)->pb K Hf H (rs.map aI) (ps.map V.ref) (ps.map λp=>[p])
 | [],[],_,_=>.nil
 | [],_::_,h,_=>by have:=h.length;simp at this
 |_::_,[],h,_=>by have:=h.length;simp at this
 |r::rs,p::ps,h,n=>by
  obtain⟨h1,h2⟩:=rZ.cons_iff.mp h;exact .cons (WA h1 (n p (by simp))) (D7 h2 λq l=>n q (mCo _ l))
theorem BX(ps:List Addr):(ps.map λp=>[p]).flatten=ps:=by
 induction ps with
 |nil=>rfl
 |cons p ps l=>rw[ax,fCq,l];rfl
theorem E8{te:TE}{k:MK}(M:SK K te k):SK K (Hh (λxs H Q=>∃(a:Addr) (ps:List Addr) (rs:List (List Int)),xs=[.ref a]/\ps.length<64/\qV K H a (ps.map V.ref)/\rZ H ps rs /\
  ∀p l,H p=none->l.Perm ps->rZ (qG H p (.lst (l.map V.ref))) l (uf rs)->Q (.ref p) (qG H p (.lst (l.map V.ref)))) (tP te wM)) (Gc k):=by
 intro H₀ t Hf S σ H Fs av S' R e Q q;obtain⟨x,O,e⟩:=oBq.mp e;refine M R (a:=x.1) (S':=x.2) O _ λP U Fs1 v F I X J r=>?_
 split at e
 .rename_i Y hx;obtain⟨rs,e2,e⟩:=oBq.mp e;obtain⟨u,e⟩:=Bj e;cases e;rw[hx,HJ e2]at J;obtain⟨L,vs,Gs,rfl,rfl,h1,h2,h3⟩:=J.ow_inv;obtain⟨ps,rfl,rfl,B,hn⟩:=zX h3;rw[BX]at r;refine⟨L,ps,rs,rfl,by rw[B.length];exact u,qV.of h1,B,λp l C s E=>?_⟩
  obtain⟨t4,R4,n1,n2,n3⟩:=X.new (o:=.lst (l.map V.ref)) C;have pq:p∉l:=λm=>B.free (H:=U) C (s.mem_iff.mp m)
  have G:∀z∈l,z∈L::ps:=λz n=>mCo _ (s.mem_iff.mp n)
  refine q _ _ _ (.ref p) (p::(l.map λp=>[p]).flatten) (I.trans t4) R4 (oZ.news oC n1 (D7 E λz n=>hn z (s.mem_iff.mp n))) ?_
  rw[BX];refine⟨aB.mpr ⟨pq,s.nodup_iff.mpr (aB.mp r.nd).2⟩,λz n=>?_,λz n=>?_,λz n=>?_⟩
  .rcases ar.mp n with y|y
   .rw [y];exact n2
   .exact r.fr z (G z y)
  .rcases ar.mp n with y|y
   .rw [y];exact n3
   .exact r.out z (G z y)
  .rcases ar.mp n with y|y
   .rw [y];exact .inl (I.sh.free C)
   .exact r.new z (G z y)
 .cases e
def Ob:AV->Option D
 | .sh d=>if d.scal=true then some d else none
 |_=>none
def rd(f:MF) (a:ML):ME:=λS=>(a S).bind λx=>(f x.1).bind λr=>(Ob r).map λd=>(d,x.2)
theorem qO{f:MF}{u:TA}{a:ML}(C:Rm K u a):SR K (Md (oK K f) [] E0 u) (rd f a):=by
 intro H₀ t Hf S σ H Y d S' R e Q q;obtain⟨x,E,e⟩:=oBq.mp e;obtain⟨r,G,e⟩:=oBq.mp e;obtain⟨z,n,e⟩:=oMq.mp e;cases e;refine C R (ds:=x.1) (S':=x.2) E _ λs y Fs1 vs I J L=>?_
 rw[aNq];refine⟨y,x.1,r,.refl _,L,G,λM O v F s1 B s3 l P nd fr=>?_⟩
 have U:ze s y Fs1 s O Fs1:=⟨.refl _,B,λ_ h=>h,λb h g=>absurd h g⟩
 cases r with
 |sh d' =>
  simp only[Ob]at n;split at n
  .rename_i X;cases n;exact q _ _ _ v (I.trans U) (J.laid B) (P.sh_inv.2.scal X)
  .cases n
 |_=>cases n
end
section
variable (S:AS)
@[simp] theorem X7 (i:Nat):nC i S=(S[i]?.join).map λa=>(oa a,S):=rfl
@[simp] theorem XF (i:Nat):og i S=(S[i]?.join).map λa=>(.sh (oa a),S.set i (some (.sh (oa a)))):=rfl
@[simp] theorem Xz (i:Nat):zB i S=(S[i]?.join).map λa=>(a,S.set i none):=rfl
@[simp] theorem YU (k:MK):rOf k S=(k S).map λx=>(oa x.1,x.2):=rfl
@[simp] theorem Zm (m:ME):kSc m S=(m S).bind λx=>if x.1.scal then some (.sh x.1,x.2) else none:=rfl
@[simp] theorem W2 (k:MK):vQ k S=(k S).map λx=>(.sh (oa x.1),x.2):=rfl
@[simp] theorem rC_ (d:D):rC d S=if d.scal then some (d,S) else none:=rfl
@[simp] theorem Zt (f:D->D->Option D) (a b:ME):oN f a b S=(a S).bind λx=>(b x.2).bind λy=>(f x.1 y.1).map λd=>(d,y.2):=rfl
@[simp] theorem Zk (f:D->Option D) (a:ME):Cs f a S=(a S).bind λx=>(f x.1).map λd=>(d,x.2):=rfl
@[simp] theorem W9 (a:ME):V8 a S=(a S).bind λx=>(NO x.1).map λd=>(d,x.2):=rfl
@[simp] theorem Wo (a b:MT):FE a b S=(a S).bind λx=>if x.1=true then b x.2 else some (false,x.2):=rfl
@[simp] theorem W7 (a b:MT):Aq a b S=(a S).bind λx=>if x.1=true then some (true,x.2) else b x.2:=rfl
@[simp] theorem Wr (a:MT):xg a S=(a S).map λx=>(!x.1,x.2):=rfl
def VI:D->Option Bool
 | .bl b=>some b
 |_=>none
@[simp] theorem Zs (a:ME):rA a S=(a S).bind λx=>(VI x.1).map λb=>(b,x.2):=by
 show (a S).bind _=_;congr 1;funext x;obtain⟨d,l⟩:=x;cases d <;> rfl
@[simp] theorem WN (a b:ME):Sy a b S=(a S).bind λx=>(VI x.1).bind λc=>if c=true then b x.2 else some (.bl false,x.2):=by
 show (a S).bind _=_;congr 1;funext x;obtain⟨d,l⟩:=x;cases d <;> try rfl
 rename_i c;cases c <;> rfl
@[simp] theorem TQ (b:Bool):VI (.bl b)=some b:=rfl
@[simp] theorem WW:oB S=some ([],S):=rfl
@[simp] theorem VB (k:MK) (r:MA):nQ k r S=(k S).bind λx=>(r x.2).map λy=>(x.1::y.1,y.2):=rfl
@[simp] theorem VE:nV S=some ([],S):=rfl
@[simp] theorem RC (k:ME) (r:ML):nD k r S=(k S).bind λx=>(r x.2).map λy=>(x.1::y.1,y.2):=rfl
@[simp] theorem WV (a:MA):sJ a S=(a S).bind λx=>uu (x.1.length<=qK) (some (.ow x.1,x.2)):=rfl
@[simp] theorem Xr (a:MA):ER a S=(a S).bind λx=>uu (x.1.length<=qK) (some (.sh (.tup (x.1.map oa)),x.2)):=rfl
@[simp] theorem Ya (a b:ML):OM a b S=(a S).bind λx=>(b x.2).bind λy=>uu (x.1.length+y.1.length<=qK) (some (.ow ((x.1++y.1).map .sh),y.2)):=rfl
@[simp] theorem Ve:Bz S=some (none,S):=rfl
@[simp] theorem Wt (m:ME):zu m S=(m S).bind λx=>(intOf x.1).map λi=>(some i,x.2):=by
 show (m S).bind _=_;congr 1;funext x;obtain⟨d,l⟩:=x;cases d <;> rfl
@[simp] theorem Mw (i:Int):intOf (.int i)=some i:=rfl
@[simp] theorem Zd (l:ML) (lo n:MO):Rp l lo n S=(l S).bind λx=>(lo x.2).bind λy=>(n y.2).map λz=>(.ow ((zY x.1 y.1 z.1).map .sh),z.2):=rfl
@[simp] theorem Zn (l:ML) (b:ME):FJ l b S=(l S).bind λx=>(b x.2).bind λy=>(intOf y.1).bind λi=>(atI x.1 i).map λd=>(.sh d,y.2):=by
 show (l S).bind _=_;congr 1;funext x;show (b x.2).bind _=_;congr 1;funext y;obtain⟨d,n⟩:=y;cases d <;> rfl
@[simp] theorem YL (f:List D->Option D) (a:ML):tX f a S=(a S).bind λx=>(f x.1).map λd=>(d,x.2):=rfl
@[simp] theorem V6 (f:MF) (a:MA):oJ f a S=(a S).bind λx=>(f (x.1.map oa)).map λr=>(r,x.2):=rfl
@[simp] theorem Vq (f:MF) (a:ML):rd f a S=(a S).bind λx=>(f x.1).bind λr=>(Ob r).map λd=>(d,x.2):=rfl
@[simp] theorem We:qa S=some (.nx S):=rfl
@[simp] theorem RX:Gf S=none:=rfl
def PB(o:Option Lk) (b:MS):Option Lk:=o.bind λo=>match o with
 | .nx S'=>b S'
 |o=>some o
@[simp] theorem O1 (b:MS):PB (some (.nx S)) b=b S:=rfl
@[simp] theorem Px (a:AV) (b:MS):PB (some (.rt a)) b=some (.rt a):=rfl
@[simp] theorem WU (a b:MS):nW a b S=PB (a S) b:=rfl
@[simp] theorem WK (i:Nat) (k:MK):oD i k S=(k S).map λx=>.nx (x.2.set i (some x.1)):=rfl
@[simp] theorem Vc (k:MK):QX k S=(k S).map λx=>.nx x.2:=rfl
@[simp] theorem Xc (k:MK):qh k S=(k S).map λx=>.rt x.1:=rfl
@[simp] theorem YZ (c:MT) (a b:MS):xH c a b S=(c S).bind λx=>if x.1=true then a x.2 else b x.2:=rfl
@[simp] theorem Xd (i:Nat) (k:MK):yQ i k S=(rh S i).bind λ_=>(k S).bind λx=>(rh x.2 i).bind λl=>uu (l.length<qK) (some (.nx (x.2.set i (some (.ow (l++[x.1])))))):=rfl
@[simp] theorem Xp (i:Nat) (l:ML):Kd i l S=(rh S i).bind λ_=>(l S).bind λx=>(rh x.2 i).bind λn=>uu (n.length+x.1.length<=qK) (some (.nx (x.2.set i (some (.ow (n++x.1.map .sh)))))):=rfl
@[simp] theorem U7 (i:Nat) (b:ME) (k:MK):vf i b k S=(vQ k S).bind λx=>(xx x.2 i).bind λ_=>(b x.2).bind λy=>(xx y.2 i).bind λkvs=>(vX y.1).bind λkey =>
 uu (kvs.length<qK) (some (.nx (y.2.set i (some (.owd (vH kvs key (oa x.1))))))):=rfl
noncomputable def dictOf:D->Option (List (oq×D))
 | .dict kvs=>some kvs
 |_=>none
@[simp] theorem HD (kvs:List (oq×D)):dictOf (.dict kvs)=some kvs:=rfl
@[simp] theorem N0 (i:Int):vX (.int i)=some (.inl i):=rfl
@[simp] theorem Rh (a b:ME):uK a b S=(a S).bind λx=>(b x.2).bind λy=>(dictOf y.1).bind λkvs=>(vX x.1).map λkey=>(.bl (!(getD kvs key).isSome),y.2):=by
 show (a S).bind _=_;congr 1;funext x;show (b x.2).bind _=_;congr 1;funext y;obtain⟨d,l⟩:=y;cases d <;> rfl
@[simp] theorem VN (a b:ME):ro a b S=(a S).bind λx=>(b x.2).bind λy=>(dictOf x.1).bind λkvs=>(vX y.1).bind λkey=>(getD kvs key).map λd=>(d,y.2):=by
 show (a S).bind _=_;congr 1;funext x;show (b x.2).bind _=_;congr 1;funext y;obtain⟨d,l⟩:=x;cases d <;> rfl
@[simp] theorem U1:ym S=some (.owd [],S):=rfl
@[simp] theorem X0 (x:Nat) (k:MK) (body:MS):zm x k body S=(vQ k S).bind λy=>(uo (oa y.1)).bind λds=>sk x body ds y.2:=rfl
@[simp] theorem SX (x:Nat) (a:ML) (body:MS):zb x a body S=(a S).bind λy=>(Cp y.1).bind λds=>sk x body ds y.2:=rfl
@[simp] theorem VD (x y:Nat) (k:MK) (body:MS):Ig x y k body S=(vQ k S).bind λz=>(uo (oa z.1)).bind λds=>Bb x y body 0 ds z.2:=rfl
@[simp] theorem UV (x y:Nat) (k l:MK) (body:MS):Pf x y k l body S=(vQ k S).bind λz=>(vQ l z.2).bind λw=>(uo (oa z.1)).bind λds=>(uo (oa w.1)).bind λes =>
 if ds.length=es.length then A4 x y body ds es w.2 else none:=rfl
@[simp] theorem Wk (l:MI) (fr:List Nat) (tf:MT) (te:MK):rY l fr tf te S=(l S).bind λy=>(fzAll fr y.2).bind λr=>(GV r fr).bind λcap=>uu (y.1.length<=qK) ((qA tf te cap y.1).map λn=>(.ow n,r)):=rfl
@[simp] theorem W1 (k:MK):vS k S=(vQ k S).bind λy=>(uo (oa y.1)).map λds=>(ds,y.2):=rfl
@[simp] theorem YO (a:ML):Ze a S=(a S).bind λy=>(Cp y.1).map λds=>(ds,y.2):=rfl
@[simp] theorem Mq:fzAll [] S=some S:=rfl
@[simp] theorem J3 (j:Nat) (l:List Nat):fzAll (j::l) S=(S[j]?.join).bind λa=>fzAll l (S.set j (some (.sh (oa a)))):=rfl
@[simp] theorem Oo:GV S []=some []:=rfl
@[simp] theorem M4 (j:Nat) (l:List Nat):GV S (j::l)=(VU S[j]?.join).bind λa=>(GV S l).map (some a :: ·):=rfl
@[simp] theorem U5 (l:ML):AM l S=(l S).map λx=>(.ow (x.1.map .sh),x.2):=rfl
@[simp] theorem TM (l:ML):GA l S=(l S).bind λx=>(qC x.1).bind λns=>uu (ns.length<64) (some (.ow ((qN ns).map λn=>.sh (.int n)),x.2)):=rfl
noncomputable def QH:AV->Option (List AV)
 | .ow l=>some l
 |_=>none
@[simp] theorem R6 (l:List AV):QH (.ow l)=some l:=rfl
@[simp] theorem Pw (k:MK):Gc k S=(k S).bind λx=>(QH x.1).bind λl=>(Dp l).bind λrs=>uu (rs.length<64) (some (.ow ((uf rs).map aI),x.2)):=by
 show (k S).bind _=_;congr 1;funext x;obtain⟨d,n⟩:=x;cases d <;> rfl
@[simp] theorem Y5 (T:String) (f:D->List D->Option D) (a:ME) (as:ML):Yw T f a as S=(a S).bind λx=>if Xq T x.1=true then (as x.2).bind λy=>(f x.1 y.1).map λd=>(d,y.2) else none:=rfl
noncomputable def ZW:D->Option (List D)
 | .list ds=>some ds
 |_=>none
noncomputable def X8:AV->Option (List D)
 | .sh (.list ds)=>some ds
 | .ow l=>some (l.map oa)
 |_=>none
@[simp] theorem Vr (ds:List D):X8 (.sh (.list ds))=some ds:=rfl
@[simp] theorem UO (l:List AV):X8 (.ow l)=some (l.map oa):=rfl
@[simp] theorem Zg (k:MK):lOf k S=(k S).bind λx=>(X8 x.1).map λds=>(ds,x.2):=by
 show (k S).bind _=_;congr 1;funext x;obtain⟨a,l⟩:=x;cases a with
 |sh d=>cases d <;> rfl
 |_=>rfl
end
noncomputable def YA:AV->AV
 | .ow l=>.ow ((l.map oa).map .sh)
 |a=>a
@[simp] theorem Vj (d:D):YA (.sh d) = .sh d:=rfl
@[simp] theorem UY (l:List AV):YA (.ow l) = .ow ((l.map oa).map .sh):=rfl
theorem Ep{S:AS}{i:Nat}{a:AV}(h:S[i]?=some (some a)):S.set i (some a)=S:=by
 obtain⟨l,n⟩:=gSq.mp h;rw[←n];exact fD l
@[simp] theorem Yl (S:AS) (i:Nat):Jr i S=(S[i]?.join).bind λa=>(X8 a).map λds=>(ds,S.set i (some (YA a))):=by
 unfold Jr;cases e:S[i]?.join with
 |none=>rfl
 |some a =>
  cases a with
  |sh d =>
   cases d with
   |list ds =>
    show some (ds,S)=some (ds,S.set i (some (.sh (.list ds))));rw[Ep (pN e)]
   |_=>rfl
  |ow n=>rfl
  |owd l=>rfl
  |owl l=>rfl
def Yq:AV->Option (List D)
 | .sh (.scr ns)=>some (ns.map .int)
 |a=>X8 a
@[simp] theorem RJ (ns:List Int):Yq (.sh (.scr ns))=some (ns.map .int):=rfl
@[simp] theorem UN (ds:List D):Yq (.sh (.list ds))=some ds:=rfl
@[simp] theorem VO (l:List AV):Yq (.ow l)=some (l.map oa):=rfl
@[simp] theorem XN (S:AS) (i:Nat):sZ i S=(S[i]?.join).bind λa=>(Yq a).map λds=>(ds,S.set i (some (YA a))):=by
 unfold sZ;cases e:S[i]?.join with
 |none=>rfl
 |some a =>
  cases a with
  |sh d =>
   cases d with
   |list ds =>
    show some (ds,S)=some (ds,S.set i (some (.sh (.list ds))));rw[Ep (pN e)]
   |scr l =>
    show some (l.map D.int,S)=some (l.map D.int,S.set i (some (.sh (.scr l))));rw[Ep (pN e)]
   |_=>rfl
  |ow r=>rfl
  |owd n=>rfl
  |owl n=>rfl
@[simp] theorem QD (i:Int):(D.int i).scal=true:=rfl
@[simp] theorem SD (i:Bool):(D.bl i).scal=true:=rfl
@[simp] theorem Rc:D.non.scal=true:=rfl
@[simp] theorem Td (i:String):(D.ty i).scal=true:=rfl
@[simp] theorem Qp (i:Int):Ob (.sh (.int i))=some (.int i):=rfl
@[simp] theorem Tq (i:Bool):Ob (.sh (.bl i))=some (.bl i):=rfl
@[simp] theorem Rg:Ob (.sh .non)=some .non:=rfl
@[simp] theorem SJ (i j:Int):C0 (.int i) (.int j)=some (.bl (decide (i=j))):=rfl
@[simp] theorem T2 (b:Bool):NO (.bl b)=some (.bl (!b)):=rfl
@[simp] theorem Te (i j:Int):Jn (.int i) (.int j)=some (.bl (!decide (i=j))):=rfl
@[simp] theorem Ng (ds:List D):qu [.list ds]=some (.int ds.length):=rfl
@[simp] theorem Pb (ns:List Int):qu [.scr ns]=some (.int ns.length):=rfl
@[simp] theorem Qy (i:Int):zr [.int i,.ty "int"]=some (.bl true):=by simp[zr,Yp]
@[simp] theorem Na (i:Int):zr [.int i,.ty "bool"]=some (.bl false):=by simp[zr,Yp]
@[simp] theorem FU (ds:List D):uo (.list ds)=some ds:=rfl
@[simp] theorem P9 (ds:List D) (i:Int):CV (.list ds) (.int i)=atI ds i:=rfl
@[simp] theorem SN (ns:List Int) (i:Int):CV (.scr ns) (.int i)=(atI ns i).map .int:=rfl
@[simp] theorem TY (d:D):VU (some (.sh d))=some (.sh d):=rfl
@[simp] theorem Ox (ds:List D):Xq "list" (.list ds)=true:=rfl
theorem Sn(S:AS) (i:Nat):rh S i=(S[i]?.join).bind QH:=by
 unfold rh;cases S[i]?.join with
 |none=>rfl
 |some a=>cases a <;> rfl
noncomputable def UC:AV->Option (List (oq×D))
 | .owd kvs=>some kvs
 |_=>none
@[simp] theorem MW (kvs:List (oq×D)):UC (.owd kvs)=some kvs:=rfl
theorem P8(S:AS) (i:Nat):xx S i=(S[i]?.join).bind UC:=by
 unfold xx;cases S[i]?.join with
 |none=>rfl
 |some a=>cases a <;> rfl
theorem Jd{x:Nat}{body:MS}(P:Nat->AS->Prop):∀{ds:List D}{S:AS}{k:Nat},P k S->(∀i d S,ds[i]?=some d->P (k+i) S->∃S',(body (S.set x (some (.sh d)))=some (.nx S')∨body (S.set x (some (.sh d)))=some (.ct S'))/\P (k+i+1) S')->∃S',sk x body ds S=some (.nx S')/\P (k+ds.length) S'
 | [],S,k,h0,_=>⟨S,rfl,h0⟩
 |d::ds,S,k,h0,hs=>by
  obtain⟨S',e,h1⟩:=hs 0 d S rfl h0;have l:∀i d S,ds[i]?=some d->P (k+1+i) S->∃S',(body (S.set x (some (.sh d)))=some (.nx S')∨body (S.set x (some (.sh d)))=some (.ct S'))/\P (k+1+i+1) S':=λi d S h p=>by
   have:=hs (i+1) d S (by simpa using h) (by rw[show k+(i+1)=k+1+i by lia];exact p)
   rw[show k+(i+1)=k+1+i by lia]at this
   exact this
  obtain⟨n,r,h2⟩:=Jd P (k:=k+1) h1 l;refine⟨n,?_,by rw[lCq,show k+(ds.length+1)=k+1+ds.length by lia];exact h2⟩
  show (body _).bind _=_;rcases e with e|e <;> (rw[e];exact r)
theorem tx{x:Nat}{body:MS}(P:Nat->AS->Prop) {ds:List D}{S:AS}(h0:P 0 S) (l:∀i d S,ds[i]?=some d->P i S->∃S',body (S.set x (some (.sh d)))=some (.nx S')/\P (i+1) S'):∃S',sk x body ds S=some (.nx S')/\P ds.length S':=by
 have:=Jd (x:=x) (body:=body) P (ds:=ds) (k:=0) h0 λi d S h p=>by
  rw[bh]at p ⊢;obtain⟨S',e,q⟩:=l i d S h p;exact⟨S',.inl e,q⟩
 rw[bh]at this;exact this
theorem K8{x y:Nat}{body:MS}(P:Nat->AS->Prop):∀{ds:List D}{S:AS}{k:Nat},P k S->(∀i d S,ds[i]?=some d->P (k+i) S->∃S',body ((S.set x (some (.sh (.int (k+i:Nat))))).set y (some (.sh d)))=some (.nx S')/\P (k+i+1) S')->∃S',Bb x y body k ds S=some (.nx S')/\P (k+ds.length) S'
 | [],S,k,h0,_=>⟨S,rfl,h0⟩
 |d::ds,S,k,h0,hs=>by
  obtain⟨S',e,h1⟩:=hs 0 d S rfl h0;have l:∀i d S,ds[i]?=some d->P (k+1+i) S->∃S',body ((S.set x (some (.sh (.int (k+1+i:Nat))))).set y (some (.sh d)))=some (.nx S')/\P (k+1+i+1) S':=λi d S h p=>by
   have:=hs (i+1) d S (by simpa using h) (by rw[show k+(i+1)=k+1+i by lia];exact p)
   rw[show k+(i+1)=k+1+i by lia]at this
   exact this
  obtain⟨n,r,h2⟩:=K8 P (k:=k+1) h1 l;refine⟨n,?_,by rw[lCq,show k+(ds.length+1)=k+1+ds.length by lia];exact h2⟩
  show (body ((S.set x (some (.sh (.int (k:Nat))))).set y (some (.sh d)))).bind _=_;rw[iZ]at e;rw[e];exact r
theorem Ua{x y:Nat}{body:MS}(P:Nat->AS->Prop):∀{ds es:List D}{S:AS}{k:Nat},ds.length=es.length->P k S->(∀i d e S,ds[i]?=some d->es[i]?=some e->P (k+i) S->∃S',body ((S.set x (some (.sh d))).set y (some (.sh e)))=some (.nx S')/\P (k+i+1) S')->∃S',A4 x y body ds es S=some (.nx S')/\P (k+ds.length) S'
 | [],[],S,k,_,h0,_=>⟨S,rfl,h0⟩
 | [],_::_,S,k,hl,_,_=>by simp at hl
 |_::_,[],S,k,hl,_,_=>by simp at hl
 |d::ds,b::es,S,k,hl,h0,hs=>by
  obtain⟨S',e,h1⟩:=hs 0 d b S rfl rfl h0;have l:∀i d e S,ds[i]?=some d->es[i]?=some e->P (k+1+i) S->∃S',body ((S.set x (some (.sh d))).set y (some (.sh e)))=some (.nx S')/\P (k+1+i+1) S':=λi d e S h n p=>by
   have:=hs (i+1) d e S (by simpa using h) (by simpa using n) (by rw[show k+(i+1)=k+1+i by lia];exact p)
   rw[show k+(i+1)=k+1+i by lia]at this
   exact this
  obtain⟨r,s,h2⟩:=Ua P (k:=k+1) (by simpa using hl) h1 l
  refine⟨r,?_,by rw[lCq,show k+(ds.length+1)=k+1+ds.length by lia];exact h2⟩
  show (body _).bind _=_;rw[e];exact s
theorem rL{te:MK}{cap:AS}(g:D->AV):∀{ds:List D},(∀d∈ds,∃S',te (some (.sh d)::cap)=some (g d,S'))->qA qz te cap ds=some (ds.map g)
 | [],_=>rfl
 |d::ds,h=>by
  obtain⟨S',e⟩:=h d (by simp)
  show (te (some (.sh d)::cap)).bind (λa=>(qA qz te cap ds).map (a.1 :: ·))=_
  rw[e,rL g λx l=>h x (mCo _ l)]
  rfl
theorem xy{tf:MT}{te:MK}{cap:AS}(p:D->Bool) (g:D->AV):∀{ds:List D},(∀d∈ds,∃l,tf (some (.sh d)::cap)=some (p d,l)/\(p d=true->∃S',te l=some (g d,S')))->qA tf te cap ds=some ((ds.filter p).map g)
 | [],_=>rfl
 |d::ds,h=>by
  obtain⟨l,r,s⟩:=h d (by simp)
  have n:=xy (tf:=tf) (te:=te) (cap:=cap) p g λx t=>h x (mCo _ t)
  show (tf (some (.sh d)::cap)).bind _=_;rw[r];show (if p d=true then _ else _)=_
  by_cases c:p d=true
  .obtain ⟨S',u⟩:=s c;rw[pQ c,u,List.filter_cons_of_pos c];show (qA tf te cap ds).map _=_;rw[n];rfl
  .rw [qk c,List.filter_cons_of_neg c,n]
theorem zy{α β:Type}(f:α->β) (xs:List α) (lo l:Option Int):zY (xs.map f) lo l=(zY xs lo l).map f:=by
 unfold zY;rw[lMq,fE,iV]
theorem Ao{α:Type}(xs:List α) (i:Nat) (h:i<=xs.length):zY xs (some (i:Int)) none=xs.drop i:=by
 unfold zY;rw[HT.C4,HT.IC,dA h,bA (by rw[aO];exact ai _)]
theorem FM{α:Type}(xs:List α) (i:Nat) (h:i<=xs.length):zY xs none (some (i:Int))=xs.take i:=by
 unfold zY;rw[HT.C4,HT.IC,dA h,iO,fP]
theorem Re{α:Type}(xs:List α) (i j:Nat):zY xs (some (i:Int)) (some (j:Int))=(xs.drop i).take (j-i):=by
 unfold zY;rw[HT.C4,HT.C4]
 by_cases h:i<=xs.length
 .rw [dA h]
  by_cases h2:j<=xs.length
  .rw [dA h2]
  .rw [iC (by lia),bA (by rw[aO];exact ai _),bA (by rw[aO];lia)]
 .have e:min i xs.length=xs.length:=iC (by lia)
  rw[e,gJ (ai xs.length),gJ (show xs.length<=i by lia)]
  simp
theorem Lj{α:Type}{xs:List α}{i:Int}(h0:0<=i):atI xs i=xs[i.toNat]?:=by
 unfold atI Hc;rw[pQ h0]
 by_cases h:i<xs.length
 .rw [pQ h];rfl
 .rw [qk h,bb (by lia)]
  rfl
theorem TF{α β:Type}(f:α->β) (xs:List α) (i:Int):atI (xs.map f) i=(atI xs i).map f:=by
 unfold atI;rw[lMq];cases Hc xs.length i with
 |none=>rfl
 |some j=>show (xs.map f)[j]?=_;rw[gMq];rfl
theorem GH{n:Nat}{i:Nat}(h:i<n):Hc n (i:Int)=some i:=by
 unfold Hc;rw[pQ (by lia),pQ (by lia)]
 simp
theorem Dj(ns:List Int):(ns.map D.int).map AV.sh=ns.map λn=>AV.sh (.int n):=by rw[mPq];rfl
theorem Gi(ns:List Int):(ns.map λn=>AV.sh (.int n)).map oa=ns.map D.int:=by rw[mPq];exact mCq λn _=>by simp
theorem RW(rs:List (List Int)):(rs.map aI).map oa=rs.map dI:=by
 rw[mPq];refine mCq λr _=>?_
 show oa (.ow (r.map λn=>AV.sh (.int n)))=_
 rw[tL,Gi]
theorem SV(rs:List (List Int)):(rs.map dI).map AV.sh=rs.map λr=>AV.sh (dI r):=by rw[mPq];rfl
theorem Tr(rs:List (List Int)):(rs.map λr=>AV.sh (dI r)).map oa=rs.map dI:=by rw[mPq];exact mCq λn _=>by simp
theorem oh(ns:List Int):oa (aI ns)=dI ns:=by
 show oa (.ow (ns.map λn=>AV.sh (.int n)))=_
 rw[tL,Gi]
theorem SC(i j:Int):Ba (.int i) (.int j)=some (.int (i+j)):=xZ _
theorem RF(i j:Int):Dw (.int i) (.int j)=some (.int (i-j)):=xZ _
theorem V9(i j:Int):Si (.int i) (.int j)=some (.bl (decide (i<j))):=xZ _
theorem Wv(i j:Int):Kh (.int i) (.int j)=some (.bl (decide (j<i))):=xZ _
theorem V3(i:Int):vA (.int i)=some (.int (-i)):=rfl
theorem ZN:HF (.int 10) (.int 40)=some (.int (10 ^ 40)):=vZ ⟨by decide,by decide,by decide⟩ _
theorem p57:HF (.int 10) (.int 57)=some (.int (10 ^ 57)):=vZ ⟨by decide,by decide,by decide⟩ _
theorem LJ{i j:Int}(h1:-(2 ^ 64)<i) (h2:i<2 ^ 64):CS (.int i) (.int j)=some (.int (i*j)):=vZ (.inl ⟨h1,h2⟩) _
theorem LW{i j:Int}(h1:-(2 ^ 64)<j) (h2:j<2 ^ 64):CS (.int i) (.int j)=some (.int (i*j)):=vZ (.inr ⟨h1,h2⟩) _
theorem rz{i j:Int}(h:0<j):tS (.int i) (.int j)=some (.int (i % j)):=vZ h _
theorem wJ{i j:Int}(h:0<j) (h2:j<1073741824):zS (.int i) (.int j)=some (.int (i / j)):=vZ ⟨h,h2⟩ _
theorem Xf:(0:Nat)<=qK:=by decide
theorem Xm:(1:Nat)<=qK:=by decide
theorem XW:(2:Nat)<=qK:=by decide
theorem W4:(6:Nat)<=qK:=by decide
theorem Vx{n:Nat}(h:n<=16777216):n<=qK:=h
theorem Kp{n:Nat}(h:n<16777216):n<qK:=h
theorem xC{n:Nat}(h:n<1000000):Cp [.int (n:Int)]=some (pR 0 n):=by
 have e:Cp [.int (n:Int)]=some (pR 0 (n:Int).toNat):=vZ ⟨by lia,by lia⟩ _
 rw[e,cT]
theorem vG(n:Nat):pR 0 n=(aS n).map λi:Nat=>D.int i:=by
 unfold pR;exact mCq λi _=>by rw[ij]
theorem WY(l n:Nat) (m:MS) (ds:List D):rR l n m ds=if ds.length=l then (m (ds.map (λd=>some (.sh d))++bN (n-ds.length) none)).bind λo=>match o with
  | .rt a=>some a
  | .nx _=>some (.sh .non)
  |_=>none
 else none:=rfl
theorem Z6{α:Type}{a b:α}{l:List α}:(a::b::l)[1]?=some b:=rfl
theorem Yy{α:Type}{a b v:α}{l:List α}:(a::b::l).set 1 v=a::v::l:=rfl
theorem gt2{α:Type}{a b c:α}{l:List α}:(a::b::c::l)[2]?=some c:=rfl
theorem He{α:Type}{a b c v:α}{l:List α}:(a::b::c::l).set 2 v=a::b::v::l:=rfl
theorem gt3{α:Type}{a b c d:α}{l:List α}:(a::b::c::d::l)[3]?=some d:=rfl
theorem Yz{α:Type}{a b c d v:α}{l:List α}:(a::b::c::d::l).set 3 v=a::b::c::v::l:=rfl
theorem gt4{α:Type}{a b c d:α}{l:List α}{n:Nat}:(a::b::c::d::l)[n+4]?=l[n]?:=rfl
theorem Yu{α:Type}{a b c d v:α}{l:List α}{n:Nat}:(a::b::c::d::l).set (n+4) v=a::b::c::d::l.set n v:=rfl
def zq:=ab @Z.xZ (ab @Z.Xf (ab @Z.Xm (ab @Z.XW (ab @Z.W4 (ab @Z.X7 (ab @Z.XF (ab @Z.Xz (ab @Z.YU (ab @Z.Zm (ab @Z.W2 (ab @Z.rC_ (ab @Z.Zt (ab @Z.Zk (ab @Z.W9 (ab @Z.Wo (ab @Z.W7 (ab @Z.Wr (ab @Z.Zs (ab @Z.WN (ab @Z.TQ (ab @Z.WW (ab @Z.VB (ab @Z.VE (ab @Z.RC (ab @Z.WV (ab @Z.Xr (ab @Z.Ya (ab @Z.Ve (ab @Z.Wt (ab @Z.Mw (ab @Z.Zd (ab @Z.Zn (ab @Z.YL (ab @Z.V6 (ab @Z.Vq (ab @Z.We (ab @Z.RX (ab @Z.O1 (ab @Z.Px (ab @Z.WU (ab @Z.WK (ab @Z.Vc (ab @Z.Xc (ab @Z.YZ (ab @Z.Xd (ab @Z.Xp (ab @Z.U7 (ab @Z.HD (ab @Z.N0 (ab @Z.Rh (ab @Z.VN (ab @Z.U1 (ab @Z.X0 (ab @Z.SX (ab @Z.VD (ab @Z.UV (ab @Z.Wk (ab @Z.W1 (ab @Z.YO (ab @Z.Mq (ab @Z.J3 (ab @Z.Oo (ab @Z.M4 (ab @Z.U5 (ab @Z.TM (ab @Z.R6 (ab @Z.Pw (ab @Z.Y5 (ab @Z.Vr (ab @Z.UO (ab @Z.Zg (ab @Z.Vj (ab @Z.UY (ab @Z.Yl (ab @Z.RJ (ab @Z.UN (ab @Z.VO (ab @Z.XN (ab @Z.QD (ab @Z.SD (ab @Z.Rc (ab @Z.Td (ab @Z.Qp (ab @Z.Tq (ab @Z.Rg (ab @Z.SC (ab @Z.RF (ab @Z.V9 (ab @Z.Wv (ab @Z.V3 (ab @Z.ZN (ab @Z.p57 (ab @Z.Dj (ab @Z.Gi (ab @Z.RW (ab @Z.SV (ab @Z.SJ (ab @Z.T2 (ab @Z.Te (ab @Z.Ng (ab @Z.Pb (ab @Z.Qy (ab @Z.Na (ab @Z.FU (ab @Z.P9 (ab @Z.SN (ab @Z.TY (ab @Z.Ox (ab @Z.Sn (ab @Z.P8 (ab @Z.MW (ab @Z.tJ (ab @Z.tL (ab @Z.B7 (ab @Z.WY (ab @Z.UW (ab @Z.qR (ab @Z.NK (ab @List.getElem?_cons_zero.{0} (ab @Z.Z6 (ab @Z.gt2 (ab @Z.gt3 (ab @Z.gt4 (ab @List.set_cons_zero.{0} (ab @Z.Yy (ab @Z.He (ab @Z.Yz (ab @Z.Yu (ab @Option.join_some.{0} (ab @Option.map_some.{0, 0} (ab @Option.bind_some.{0, 0} (ab @List.length_cons.{0} (ab @List.length_nil.{0} (ab @List.map_cons.{0, 0} (ab @List.map_nil.{0, 0} (ab @List.nil_append.{0} (ab @List.cons_append.{0} (ab @List.length_map.{0, 0} (ab @Bool.not_true (ab @Bool.not_false (ab @Bool.false_eq_true (ab @decide_true (ab @decide_false (ab @Nat.zero_add (ab @List.replicate_zero.{0} @List.append_nil.{0})))))))))))))))))))))))))))))))))))))))))))))))))))))))))))))))))))))))))))))))))))))))))))))))))))))))))))))))))))))))))))))))))))))))))))))))))
theorem Rz{K:W.Frag}{f:MF}(h:∀ns:List Int,ns.length<=63->f [.scr ns]=some (.sh (.bl true))):∀vs H Q E,Lp K vs H Q E->oK K f vs H Q E:=by
 rintro vs H Q E ⟨a,ns,rfl,l,hl,q⟩;refine⟨H,[.scr ns],_,.refl _,.cons (.scr l) .nil,h ns hl,λn s v F _ _ _ _ r _ _=>?_⟩
 cases r.sh_inv.2;exact q s
end Z
namespace Mr
open PySem PySem.Spec PyProof.Rows L2
section
variable {X:Cx}{tg:Expr}
def Ki{α:Type}(P:α->Prop):List α->Prop
 | []=>True
 |a::l=>P a/\Ki P l
theorem Ki.mem{α:Type}{P:α->Prop}:∀{l:List α},Ki P l->∀a∈l,P a
 | [],_,a,h=>by cases h
 |b::l,hp,a,h=>(ar.mp h).elim (λe=>e ▸ hp.1) (Ki.mem hp.2 a)
theorem rV.of{scope:kF}{cl:List (Str×Addr)}{x:Str}{N:List Str}{fr:List Nat}(h1:N.Nodup) (h2:N[0]?=some x) (n:N.length=fr.length+1)
  (r:Ki (λp=>X.env.cells.lookup p.1=some p.2) cl) (l:Ki (λp=>(p.2 = .cell∨p.2 = .free)->∃c,cl.lookup p.1=some c) (lA scope X.env).names)
  (s:Ki (λp=>X.N[p.1]?=some p.2/\X.env.scope.names.lookup p.2=some .cell/\(lA scope X.env).names.lookup p.2=some .cell) (fr.zip (N.drop 1))):rV X scope cl x N fr where
 names:=h1
 own:=h2
 len:=n
 sub:=λy c e=>r.mem (y,c) (PySem.mem_of_lookup e)
 has:=λy e=>by
  rcases e with e|e
  .exact l.mem _ (PySem.mem_of_lookup e) (.inl rfl)
  .exact l.mem _ (PySem.mem_of_lookup e) (.inr rfl)
 get:=λk j y t u=>by
  have z:(j,y)∈fr.zip (N.drop 1):=by
   refine mGq (i:=k) ?_;rw[cL];exact⟨t,by rw[dY,gB];exact u⟩
  exact s.mem _ z
end
end Mr
namespace Mr
open PySem PySem.W PySem.Spec PyProof.Rows L2
abbrev g2(K:W.Frag):TG:=Nk K 2 (zP (tm 0) (zP (tm 1) Ny))
end Mr
namespace Xe
open PySem PySem.Spec PySem.W PyProof.Rows L2 Mr
section
variable {X:Cx}
def Xu(o:Obj) (d:Addr) (kvs:List (oq×V)):It :=
  ⟨λi H=>H d=some (.frz o (.dK kvs))/\∃p,kvs[i]?=some p,
   λi H x l=>l=H/\∃p,kvs[i]?=some p/\x=kV p.1,
   λi H=>H d=some (.frz o (.dK kvs))/\kvs.length<=i⟩
theorem NI{P:jo}{w:jt}{K:Frag}{tg:Expr}(o:Obj) (d n:Addr) (kvs:List (oq×V)) (vs:List (oq×Value)) (ep:Nat) (hne:d≠n)
  (ho:∀h:Heap,h.get? d=some o->h.DictAt (qH P w) d vs ep) (kv:KV kvs vs):J5 P w K tg (Xu o d kvs) [n] n (λi h=>h.IsKeyIter n d i vs.length ep) where
 mem:=by simp
 obj:=λi h st b r=>by
  have e:b=n:=by simpa using r
  subst e;obtain⟨B,e,c,dd⟩:=st;exact⟨B,e,λv z=>by rw[dd]at z;cases z⟩
 keep:=λi h h' st k=>by
  obtain⟨B,e,c,dd⟩:=st;exact⟨B,k n (by simp) _ e,c,dd⟩
 item:=by
  intro X G J L hc i nA s σ H E I C st M;subst G J L;obtain⟨hd,p,hp⟩:=M;have O:s.heap.get? d=some o:=(show qT X.prog X.w H s.heap d (.frz o (.dK kvs)) from I.hok d _ hd).1
  obtain⟨u,hx,ru⟩:=Wl kv hp;obtain⟨Q,R,f2,S,U,Y⟩:=C n (by simp)
  refine wpAny_pyNext_dict_item st (ho _ O) hx λkey h' x y sb=>?_
  have I1:L2.Inv X nA σ H { s with heap:=h' }:=I.turned (t':=s.toks) (λb o r e=>(sb.2 b r).trans e) Q R S U Y
  have rk:qc (kV p.1) key:=by
   rcases qL x with ⟨j,t,e,rfl⟩|⟨z,t,e,rfl⟩
   .rw [e];exact⟨t,rfl⟩
   .rw [e];exact⟨t,rfl⟩
  obtain⟨B,e,c,dd⟩:=id y;exact⟨key,rfl,OQ (s:={ s with heap:=h' }) e c dd (by decide) ⟨_,H,I1,rk,⟨rfl,p,hp,rfl⟩,y,λb r=>(C b r).1⟩⟩
 done:=by
  intro X G J L hc i nA s σ H E I C st M;subst G J L;obtain⟨hd,hl⟩:=M;have O:s.heap.get? d=some o:=(show qT X.prog X.w H s.heap d (.frz o (.dK kvs)) from I.hok d _ hd).1
  have l:=Paired.length kv;obtain⟨Q,R,f2,S,U,Y⟩:=C n (by simp)
  exact wpAny_pyNext_dict_end (I.ok.hd hc) st (ho _ O) (bb (by lia)) λh' eb=>⟨rfl,I.turned (t':=s.toks) (λb o r e=>eb b o r e) Q R S U Y⟩
 self:=λ_ _ _ _ _ st h=>wpAny_pyIter_keyiter st h
def Ui(te:TE):TI:=λσ H R=>te σ H λx l=>∃d kvs,x = .ref d/\l d=some (.dK kvs)/\∀o,R (Xu o d kvs) (qG l d (.frz o (.dK kvs)))
theorem Ly{P o:Expr}{te:TE}(Q:PE X o te):PI X P o (Ui te):=by
 intro J s σ H R I h;refine sv (Q J s σ H _ I h) λv l E=>?_
 obtain⟨x,L,B,S,d,r,ex,M,q⟩:=E;subst ex;obtain rfl:=(show v=aE d from S)
 obtain⟨U,O,y,kv,dd⟩:=(show qT X.prog X.w L l.heap d (.dK r) from B.hok d _ M)
 obtain⟨C,t,Y,n,oY⟩:=dd.dictAt;have G:∀h:Heap,h.get? d=some t->h.DictAt (qH X.prog X.w) d y C:=λh e=>⟨t,Y,e,oY⟩
 have z:d<l.heap.objs.size:=ae n;refine wpAny_pyIter_dict O (G _ n) ?_;have kp:∀b u,l.heap.get? b=some u->(l.heap.push { cls:=.type "dict_keyiterator", data:=.fields #[.ref d,.int 0 0,.int y.length 0,.int C 0] }).get? b=some u:=λb u e=>aj _ e
 have I2:L2.Inv X J σ (qG L d (.frz t (.dK r))) { l with heap:=l.heap.push { cls:=.type "dict_keyiterator", data:=.fields #[.ref d,.int 0 0,.int y.length 0,.int C 0] } } :=
  (B.kept (t':=l.toks) kp).write (x:=d) (e:=d) (o:=.frz t (.dK r)) (t':=l.toks) (by rw[M];trivial) (.inl rfl) (λb u _ e=>e) ⟨_,kp _ _ n⟩ ⟨kp _ _ n,U,O,y,kv,(G _ (kp _ _ n)).dictOf⟩
 refine⟨l.heap.objs.size,[l.heap.objs.size],_,_,_,rfl,I2,NI t d _ r y C (aq z) G kv,?_,λb hb=>?_,q t⟩
 .exact ⟨_,aL _ rfl,rfl,rfl⟩
 .have e:b=l.heap.objs.size:=by simpa using hb
  subst e;exact B.fpOk (ai _) (by rw[oz (aR z)];exact B.hok.fresh (ai _))
end
end Xe
namespace Z
open PySem L2 Mr
theorem Sl(c:MT) (body:MS) (n:Nat) (S:AS):sj c body (n+1) S=(c S).bind λx=>if x.1=true then (body x.2).bind λo=>match o with
   | .nx l=>sj c body n l
   | .ct l=>sj c body n l
   | .bk l=>some (.nx l)
   | .rt a=>some (.rt a)
  else some (.nx x.2):=rfl
end Z
namespace Z
open PySem L2 Mr Xe
inductive ZQ where
 |ok (a:AV)|ex (c:Str) (fs:List (Str×Int))
abbrev Z4:=List D->Option ZQ
inductive VJ where
 |ok (o:Lk)|ex (c:Str) (fs:List (Str×Int))
abbrev MX:=AS->Option VJ
def kD:oq->D
 | .inl i=>.int i
 | .inr x=>.str x
theorem SE{K:W.Frag}{H:Hp}(k:oq):rD K H (kD k) (kV k):=by
 cases k with
 |inl i=>exact .int
 |inr x=>exact .str
section
variable {K:W.Frag}{te tf:TE}{k:MK}{tb:TS}{body:MS}{x y:Nat}
theorem pP.fix{H₀ l Hf H:Hp}{S:AS}{σ:St}{C:List (List Addr)}(R:pP K H₀ l Hf S σ H C) {p:Addr}{o:HO}(h1:p∉C.flatten) (h2:Hf p=none) (E:H₀ p=none):pP K H₀ l (qG Hf p o) S σ (qG H p o) C:=by
 have s:pJ Hf (qG Hf p o):=uS h2;refine⟨R.len,R.lenF,λi J e=>?_,R.emp,R.nd,R.fresh,λb u z=>?_,λb u z=>?_,λb L G=>?_,R.sf.trans s⟩
 .obtain ⟨v,F,M,I,r⟩:=R.rep i J e;have B:∀q∈F,q≠p:=λq n z=>h1 (by rw[←z];exact mFq.mpr ⟨F,mGq I,n⟩)
  exact⟨v,F,M,I,r.keep s (λq n=>oz (B q n)) λq n=>by rw[oz (B q n)];exact(r.owned q n).2⟩
 .by_cases t:b=p
  .subst t;rw[oC]at z ⊢;exact z
  .rw [oz t]at z ⊢;exact R.sub b u z
 .have t:b≠p:=λq=>by rw[q,E]at z;cases z
  rw[oz t];exact R.fr b u z
 .have t:b≠p:=λq=>G (by rw[q];exact E)
  rw[oz t];exact R.lim b L G
end
def Yi(f:AV->Option VJ):ZQ->Option VJ
 | .ok r=>f r
 | .ex c fs=>some (.ex c fs)
noncomputable def Yo:D->List D->Option D
 | .str a,[.str b]=>some (.bl (Txt.startswith a b))
 |_,_=>none
noncomputable def wo:List D->Option (List Bool)
 | []=>some []
 | .bl b::ds=>(wo ds).map (b :: ·)
 |_=>none
def NH:List D->Option D
 | [.list ds]=>(wo ds).map λbs=>.bl (bs.all id)
 |_=>none
theorem Bc:∀{ds:List D}{bs:List Bool},wo ds=some bs->ds=bs.map .bl
 | [],bs,h=>by cases h;rfl
 |d::ds,bs,h=>by
  cases d with
  |bl b =>
   obtain⟨l,h1,h2⟩:=oMq.mp (show (wo ds).map (b :: ·)=some bs from h)
   subst h2;rw[Bc h1];rfl
  |_=>cases h
theorem CB(bs:List Bool):wo (bs.map .bl)=some bs:=by
 induction bs with
 |nil=>rfl
 |cons b bs l=>show (wo (bs.map .bl)).map (b :: ·)=_;rw[l];rfl
theorem xh{K:W.Frag}{H:Hp}:∀{bs:List Bool}{vs:List V},pK K H (bs.map .bl) vs->vs=bs.map V.bl
 | [],vs,h=>h.nil_inv
 |b::bs,vs,h=>by
  obtain⟨v,l,rfl,h1,h2⟩:=pK.cons_inv (d:=.bl b) (ds:=bs.map .bl) h;cases h1;rw[xh h2];rfl
section
variable {K:W.Frag}
theorem Wy:WH K (λxs H Q=>∃(a:Addr) (bs:List Bool),xs=[.ref a]/\qV K H a (bs.map V.bl)/\Q (.bl (bs.all id)) H) NH:=by
 intro t H Q u d r e q;unfold NH at e;split at e
 .obtain ⟨bs,n,e⟩:=oMq.mp e;cases e;obtain⟨v,x,rfl,h1,h2⟩:=r.cons_inv;rw[h2.nil_inv];rw[Bc n]at h1;obtain⟨p,y,rfl,l,s⟩:=h1.list_inv;rw[xh s]at l;exact⟨p,bs,rfl,qV.of l,q _ .bl⟩
 .cases e
end
theorem Yf(ds:List D):NH [.list ds]=(wo ds).map λbs=>.bl (bs.all id):=rfl
abbrev OX:=JP Qz λi j=>.int (i / j)
def SM(K:W.Frag) (te:TE) (m:ME):Prop:=∀{H₀ l Hf:Hp}{S:AS}{σ:St}{H:Hp}{t:List (List Addr)}{d:D}{S':AS},pP K H₀ l Hf S σ H t->m S=some (d,S')->∀Q:VK,
 (∀n s r v,pJ Hf n->pP K H₀ l n S' σ s r->rD K n d v->Q v s)->te σ H Q
def Wa:AV->Option D
 | .sh d=>some d
 |_=>none
theorem Pp{a:AV}{d:D}(h:Wa a=some d):a = .sh d:=by
 unfold Wa at h;split at h <;> cases h
 rfl
def yP(i:Nat) (b:ME):ME:=λS=>(rh S i).bind λ_=>(b S).bind λy=>(intOf y.1).bind λz=>(rh y.2 i).bind λl=>uu (0<=z/\z<l.length/\l.length<=qK) ((l[z.toNat]?.bind Wa).map λd=>(d,y.2.set i (some (.ow (l.eraseIdx z.toNat)))))
def Du(i:Nat):ME:=λS=>(rh S i).bind λl=>(l[l.length-1]?.bind Wa).map λd=>(d,S.set i (some (.ow l.dropLast)))
noncomputable def Yk(kvs:List (oq×D)) (k:oq):List (oq×D):=kvs.filter λkv=>decide (kv.1≠k)
def Zv(i:Nat) (b:ME):ME:=λS=>(xx S i).bind λ_=>(b S).bind λy=>(vX y.1).bind λkey=>(xx y.2 i).bind λkvs=>(getD kvs key).map λd=>(d,y.2.set i (some (.owd (Yk kvs key))))
section
variable {K:W.Frag}
theorem Sv:Fv K (rI Qz λi j=>.int (i / j)) OX:=Ih λ_ _ _=>.int
theorem pb.erase{Hf H:Hp}{as:List AV}{vs:List V}{t:List (List Addr)}(r:pb K Hf H as vs t) (k:Nat):pb K Hf H (as.eraseIdx k) (vs.eraseIdx k) (t.eraseIdx k):=by
 obtain⟨h1,h2,u⟩:=r;refine⟨by rw[eN,eN,h1],by rw[eN,eN,h2],λi b w G s l n=>?_⟩
 rw[List.getElem?_eraseIdx]at s l n;split at s
 .rename_i q;rw[pQ q]at l n;exact u i b w G s l n
 .rename_i q;rw[qk q]at l n;exact u (i+1) b w G s l n
theorem Kg{l:List (List Addr)}{k:Nat}(h:l[k]?=some []):(l.eraseIdx k).flatten=l.flatten:=by
 induction l generalizing k with
 |nil=>cases h
 |cons g r n =>
  cases k with
  |zero =>
   simp at h;subst h;rfl
  |succ k =>
   rw[bP,fCq,fCq,n (by simpa using h)]
theorem pP.lose{H₀ l Hf H:Hp}{S:AS}{σ:St}{t:List (List Addr)}(R:pP K H₀ l Hf S σ H t) {i k:Nat}{n:List AV}{d:D}(h:S[i]?=some (some (.ow n))) (u:n[k]?=some (.sh d)) :
  ∃p vs y F',σ[i]?=some (some (.ref p))/\H p=some (.lst vs)/\n.length=vs.length/\vs[k]?=some y/\rD K Hf d y/\pP K H₀ l Hf (S.set i (some (.ow (n.eraseIdx k)))) σ (qG H p (.lst (vs.eraseIdx k))) (t.set i F'):=by
 obtain⟨p,vs,x,z,J,h1,h2,r,B,L,M⟩:=R.ow h;have lk:k<n.length:=(gSq.mp u).1;obtain⟨y,C⟩:∃y,vs[k]?=some y:=⟨_,gEg (by rw[←r.1];exact lk)⟩
 obtain⟨G,E⟩:∃G,x[k]?=some G:=⟨_,gEg (by rw[←r.2.1];exact lk)⟩
 obtain⟨s,O⟩:=(r.2.2 k _ _ _ u C E).sh_inv;subst s;have I:=Kg E;refine⟨p,vs,y,p::(x.eraseIdx k).flatten,z,h1,r.1,C,O,R.turn z J (by simp) (oZ.news oC h2 ((r.keepUpd B).erase k)) ?_ ?_⟩
 .rw [I];exact aB.mpr ⟨B,L⟩
 .rw [I];exact M
theorem DC{i:Nat}{B:TE}{b:ME}(G:SR K B b):SM K (Ov K "list" O7 (zo i) (tP B wM)) (yP i b):=by
 intro H₀ r Hf S σ H Fs d S' R e Q q;obtain⟨a0,I,e⟩:=oBq.mp e;obtain⟨y,J,e⟩:=oBq.mp e;obtain⟨z,s,e⟩:=oBq.mp e;obtain⟨l,L,e⟩:=oBq.mp e;rcases oT e with ⟨⟨M,O,P⟩,e⟩|e
 .obtain ⟨d',t,e⟩:=oMq.mp e;cases e;obtain⟨a,t,u⟩:=oBq.mp t;have u:=Pp u;subst u;obtain⟨p,U,Gs,C,_,h1,_⟩:=R.ow (pE I);refine⟨.ref p,C,.inl ⟨rfl,U,qV.of h1⟩,G R (d:=y.1) (S':=y.2) J _ λX H1 Fs1 v Y R1 E=>?_⟩
  obtain⟨p',x,w,F',n,hp,hl,hw,Az,R2⟩:=R1.lose (pE L) t;rw[C]at n;cases n;have hv:v = .int z:=by
   have:y.1 = .int z:=by
    revert s
    unfold intOf;split <;> intro s <;> cases s
    assumption
   rw[this]at E;cases E;rfl
  subst hv;have hz:(l.length:Int)<=16777216:=by
   have:l.length<=16777216:=P;lia
  refine⟨p,x,z,z.toNat,w,rfl,rfl,hp,by lia,by lia,?_,hw,q _ _ _ _ Y.sf R2 Az⟩
  rw[←hl];unfold mS;have n1:¬ z<0:=by lia
  have n2:(decide (0<=z) && decide (z<(l.length:Int)))=true:=by
   rw[decide_eq_true M,decide_eq_true O];rfl
  simp only[n1,if_false];exact pQ n2
 .cases e
theorem VX{i:Nat}:SM K (Ov K "list" V1 (zo i) wM) (Du i):=by
 intro H₀ l B S σ H C d E R e Q q;obtain⟨u,x,e⟩:=oBq.mp e;obtain⟨G,n,e⟩:=oMq.mp e;cases e;obtain⟨a,n,r⟩:=oBq.mp n;have r:=Pp r;subst r;obtain⟨p,s,w,I,y,t,hl,z,Az,R2⟩:=R.lose (pE x) n;refine⟨.ref p,y,.inl ⟨rfl,s,qV.of t⟩,p,s,w,rfl,rfl,t,by rw[←hl];exact z,?_⟩
 rw[A7,hl,A7]at R2;exact q _ _ _ _ (.refl _) R2 Az
def E9(i:Nat) (m:ME):MS:=λS=>(m S).map λx=>.nx (x.2.set i (some (.sh x.1)))
theorem RV{i:Nat}{te:TE}{m:ME}(h:SM K te m):SS K (Km te (tm i)) (E9 i m):=by
 intro H₀ l y S σ H z o R e D hd;obtain⟨x,n,e⟩:=oMq.mp e;cases e;refine h R (d:=x.1) (S':=x.2) n _ λr B Fs1 v s t u=>?_
 exact hd _ _ _ _ s (t.setD i u)
def PY(i:Nat) (m:ME):MS:=λS=>(rh S i).bind λ_=>(m S).bind λx=>(rh x.2 i).bind λl=>uu (l.length<qK) (some (.nx (x.2.set i (some (.ow (l++[.sh x.1]))))))
theorem Sa{i:Nat}{te:TE}{m:ME}(L:SM K te m):SS K (Aw (Ov K "list" Al (zo i) (tP te wM))) (PY i m):=by
 intro H₀ s Hf S σ H Fs o R e D h;obtain⟨a0,M,e⟩:=oBq.mp e;obtain⟨x,O,e⟩:=oBq.mp e;obtain⟨P,Q,e⟩:=oBq.mp e;rcases oT e with ⟨hl,e⟩|e
 .cases e;obtain⟨p,U,Gs,t,_,h1,_⟩:=R.ow (pE M);refine⟨.ref p,t,.inl ⟨rfl,U,qV.of h1⟩,L R (d:=x.1) (S':=x.2) O _ λX H1 Fs1 v Y I r1=>?_⟩
  obtain⟨p',u,y,l,z,B,C,n,r,E,G⟩:=I.ow (pE Q);rw[t]at l;cases l;refine⟨p,u,v,rfl,rfl,B,by rw[vp,←n.1];exact hl,h _ _ _ _ Y (I.turn t z (by simp) (F':=p::(y++[[]]).flatten) (oZ.news oC C ((n.keepUpd r).snoc (.sh r1))) ?_ λq J=>?_)⟩
  .rw [fAq,aU,aNq];exact aB.mpr ⟨r,E⟩
  .rw [fAq,aU,aNq]at J;exact G q J
 .cases e
def Zb(i:Nat) (b:ME) (m:ME):MS:=λS=>(m S).bind λx=>(xx x.2 i).bind λ_=>(b x.2).bind λy=>(xx y.2 i).bind λkvs=>(vX y.1).bind λkey =>
 uu (kvs.length<qK) (some (.nx (y.2.set i (some (.owd (vH kvs key x.1))))))
end
theorem VW(d:D):Wa (.sh d)=some d:=rfl
theorem OE(S:AS) (i:Nat) (b:ME):yP i b S=(rh S i).bind λ_=>(b S).bind λy=>(intOf y.1).bind λz=>(rh y.2 i).bind λl=>uu (0<=z/\z<l.length/\l.length<=qK) ((l[z.toNat]?.bind Wa).map λd=>(d,y.2.set i (some (.ow (l.eraseIdx z.toNat))))):=rfl
theorem Vo(S:AS) (i:Nat):Du i S=(rh S i).bind λl=>(l[l.length-1]?.bind Wa).map λd=>(d,S.set i (some (.ow l.dropLast))):=rfl
theorem US(S:AS) (i:Nat) (m:ME):E9 i m S=(m S).map λx=>.nx (x.2.set i (some (.sh x.1))):=rfl
theorem VG(S:AS) (i:Nat) (m:ME):PY i m S=(rh S i).bind λ_=>(m S).bind λx=>(rh x.2 i).bind λl=>uu (l.length<qK) (some (.nx (x.2.set i (some (.ow (l++[.sh x.1])))))):=rfl
def zq6:=ab @VW (ab @OE (ab @Vo (ab @US @VG)))
section
variable {K:W.Frag}{H₀ Hf₀ Hf H:Hp}{S:AS}{σ:St}{Fs:List (List Addr)}{te tb:TE}{k:MK}{b:ME}
theorem pP.poke(R:pP K H₀ Hf₀ Hf S σ H Fs) {p:Addr}{o:HO}(pn:Hf p=none) (r:H₀ p=none) (pf:p∉Fs.flatten):pP K H₀ Hf₀ Hf S σ (qG H p o) Fs:=by
 refine⟨R.len,R.lenF,λj a s=>?_,R.emp,R.nd,R.fresh,λb u e=>?_,λb u e=>?_,R.lim,R.sf⟩
 .obtain ⟨w,G,t,n,q⟩:=R.rep j a s;refine⟨w,G,t,n,q.keep (.refl _) (λc l=>oz λe=>pf ?_) λc l=>(q.owned c l).2⟩
  subst e;exact qi n l
 .rw [oz λz=>by rw[z,pn]at e;cases e]
  exact R.sub b u e
 .rw [oz λz=>by rw[z,r]at e;cases e]
  exact R.fr b u e
theorem ze.stays{l r:Hp}{n:List (List Addr)}(t:ze Hf H Fs l r n) {p:Addr}(pn:Hf p=none) (s:H p≠none) (pf:p∉Fs.flatten):l p=none/\p∉n.flatten:=by
 refine⟨?_,λm=>pf (t.own p m)⟩
 by_cases h:l p=none
 .exact h
 .exact ((t.gr p pn h).elim (λe=>absurd e s) λm=>absurd m pf)
def Gy(b:ME) (k:MK):MK:=λS=>(b S).bind λy=>(vQ k y.2).bind λx=>(vX y.1).map λkey=>(.owd [(key,oa x.1)],x.2)
theorem Ic(P:SR K tb b) (U:SK K te k):SK K (UB [(tb,te)]) (Gy b k):=by
 intro H₀ Hf₀ Hf S σ H Fs av S' R e Q q;obtain⟨y,X,e⟩:=oBq.mp e;obtain⟨x,E,e⟩:=oBq.mp e;obtain⟨key,Y,e⟩:=oMq.mp e;cases e;have s:SK K te (vQ k):=SK.frz U;intro p r;obtain⟨t0,R0,n1,G,n3⟩:=R.new (o:=.dK []) r;have I:=xN.one R r;refine P R0 (d:=y.1) (S':=y.2) X _ λHf1 H1 Fs1 w t R1 r1=>?_
 have J:qG H p (HO.dK []) p=some (.dK []):=oC;have L:H1 p=some (.dK []):=t.sh p _ J;obtain⟨a1,a2⟩:=t.stays n1 (by rw[J];simp) n3
 refine s R1 (a:=x.1) (S':=x.2) E _ λB M Fs2 v F C R2 O o2=>?_
 have p2:M p=some (.dK []):=C.sh p _ L;obtain⟨b1,b2⟩:=C.stays a1 (by rw[L];simp) a2
 obtain⟨x1,n⟩:∃d,x.1 = .sh d:=by
  obtain⟨w,_,e⟩:=oMq.mp E;rw[←e];exact⟨_,rfl⟩
 rw[n]at O;have rv:=O.sh_inv.2;have hw:=xU Y r1;subst hw;refine⟨p2,[(key,v)],rfl,by simp,?_⟩
 have l:=(t0.trans t).trans C;have hs:pJ H (qG M p (HO.dK (Ck [] [(key,v)]))):=λc u e=>by
  rw[oz λz=>by rw[z,r]at e;cases e]
  exact l.sh c u e
 refine q B _ Fs2 (.ref p) [p] ⟨l.sf,hs,l.own,l.gr⟩ (R2.poke b1 G b2) (.owd oC b1 ⟨rfl,λi d u h1 h2=>?_⟩) ⟨by simp,λc h=>by rw[mSq.mp h];exact G,λc h=>by rw[mSq.mp h];exact b2,λc h=>by rw[mSq.mp h];exact .inl r⟩
 match i,h1,h2 with
 |0,h1,h2 =>
  cases h1;cases h2;rw[n,tJ];exact rv
 |i+1,h1,_=>simp at h1
theorem Gn{i:Nat}:SM K (Xg K "list" V1 (zo i)) (Du i):=VX
noncomputable def zL:List (oq×D)->Option (List Int)
 | []=>some []
 | (.inl i,_)::r=>(zL r).map (i :: ·)
 |_=>none
theorem HI:∀{kvs:List (oq×D)}{ns:List Int},zL kvs=some ns->kvs.map (·.1)=ns.map ao
 | [],ns,h=>by cases h;rfl
 | (.inl i,d)::r,ns,h=>by
  obtain⟨l,h1,h2⟩:=oMq.mp (show (zL r).map (i :: ·)=some ns from h)
  subst h2;rw[ax,ax,HI h1]
 | (.inr _,_)::_,_,h=>by cases h
def Cb(a:ME):MK:=λS=>(a S).bind λx=>match x.1 with
 | .dict kvs=>(zL kvs).bind λns=>uu (ns.length<64) (some (.ow ((qN ns).map λn=>.sh (.int n)),x.2))
 |_=>none
theorem Ew(y:SR K te b):SK K (Hh (λxs H Q=>∃(a:Addr) (kvs:List (oq×V)) (ns:List Int),xs=[.ref a]/\ns.length<64/\H a=some (.dK kvs)/\kvs.map (·.1)=ns.map ao/\∀p,H p=none->Q (.ref p) (qG H p (.lst ((qN ns).map V.int)))) (tP te wM)) (Cb b):=by
 intro H₀ Hf₀ Hf S σ H Fs z r R e Q q;obtain⟨x,B,e⟩:=oBq.mp e;obtain⟨C,E⟩:=x;cases C with
 |dict kvs =>
  obtain⟨ns,G,e⟩:=oBq.mp (show (zL kvs).bind (λns=>uu (ns.length<64) (some (AV.ow ((qN ns).map λn=>.sh (.int n)),E)))=some (z,r) from e)
  obtain⟨l,e⟩:=Bj e;cases e;refine y R (d:=.dict kvs) (S':=r) B _ λI X Fs1 w s t J=>?_
  obtain⟨L,M,rfl,h1,h2⟩:=J.dict_inv;refine⟨L,M,ns,rfl,l,h1,by rw[←h2.1];exact HI G,λp u=>?_⟩
  obtain⟨O,P,U,Y,n3⟩:=t.new (o:=.lst ((qN ns).map V.int)) u;rw[zw]at q;exact q _ _ _ (.ref p) [p] (s.trans O) P (oZ.new oC U (uE _)) ((xN.one t u).back s)
 |_=>cases e
end
theorem TV(S:AS) (b:ME) (k:MK):Gy b k S=(b S).bind λy=>(vQ k y.2).bind λx=>(vX y.1).map λkey=>(.owd [(key,oa x.1)],x.2):=rfl
def Ur:D->AS->Option (AV×AS)
 | .dict kvs,S=>(zL kvs).bind λns=>uu (ns.length<64) (some (.ow ((qN ns).map λn=>.sh (.int n)),S))
 |_,_=>none
theorem LL(S:AS) (a:ME):Cb a S=(a S).bind λx=>Ur x.1 x.2:=by
 unfold Cb;congr 1;funext x;obtain⟨l,n⟩:=x;cases l <;> rfl
theorem Qw(kvs:List (oq×D)) (S:AS):Ur (.dict kvs) S=(zL kvs).bind λns=>uu (ns.length<64) (some (.ow ((qN ns).map λn=>.sh (.int n)),S)):=rfl
theorem Cj{α:Type}(f:α->Int) (g:α->D):∀l:List α,zL (l.map λx=>(ao (f x),g x))=some (l.map f)
 | []=>rfl
 |x::l=>by
  show (zL (l.map λx=>(ao (f x),g x))).map (f x :: ·)=_
  rw[Cj f g l];rfl
def Z9:=ab @TV (ab @LL @Qw)
section
variable {K:W.Frag}{H₀ Hf₀ Hf Hf' H H':Hp}{S S':AS}{σ σ':St}{Fs Fs':List (List Addr)}
theorem GP.same(s:pJ H H'):∀{path:List Nat}{v w:V},GP H v path w->GP H' v path w
 | [],v,w,h=>h
 |j::js,v,w,⟨p,vs,u,h1,h2,h3,h4⟩=>⟨p,vs,u,h1,s _ _ h2,h3,GP.same s h4⟩
theorem GP.one:∀{path:List Nat}{v w l:V},GP H v path w->GP H v path l->w=l
 | [],v,w,l,h,s=>h.symm.trans s
 |j::js,v,w,l,hz,hy=>by
  obtain⟨p,B,u,h1,h2,t,x⟩:=hz;obtain⟨C,y,E,n,g2,r,z⟩:=hy;rw[h1]at n;cases n;rw[h2]at g2;cases g2;rw[t]at r;cases r;exact x.one z
theorem GP.snoc:∀{path:List Nat}{v:V}{p:Addr}{vs:List V}{n:Nat}{u:V},GP H v path (.ref p)->H p=some (.lst vs)->vs[n]?=some u->GP H v (path++[n]) u
 | [],v,p,vs,n,u,h,h1,h2=>⟨p,vs,u,h,h1,h2,rfl⟩
 |j::js,v,p,vs,n,u,⟨p',vs',u',g1,g2,g3,g4⟩,h1,h2=>⟨p',vs',u',g1,g2,g3,g4.snoc h1 h2⟩
theorem GP.kept:∀{path:List Nat}{l:AV}{v w:V}{F:List Addr}{as:List AV},oZ K Hf H l v F->qg l path=some as->GP H v path w->(∀q∈F,H' q=H q)->GP H' v path w
 | [],l,v,w,F,as,_,_,h,_=>h
 |j::js,l,v,w,F,as,r,e,hz,hk=>by
  obtain⟨p,E,u,h1,h2,s,G⟩:=hz;cases l with
  |ow n =>
   obtain⟨O,I,P,t,x,y,Q,z⟩:=r.ow_inv;rw[h1]at t;cases t;rw[h2]at y;cases y;obtain⟨a,B,e⟩:=oBq.mp (show (n[j]?).bind (λa=>qg a js)=some as from e)
   have J:j<n.length:=(gSq.mp B).1;have C:=gEg (z.2.1 ▸ J);have L:=z.2.2 j a u _ B s C;refine⟨p,E,u,h1,by rw[hk p (by rw[x];simp)];exact h2,s,G.kept L e λq M=>hk q ?_⟩
   rw[x];exact mCo _ (qi C M)
  |_=>cases e
noncomputable def YF(H₀ H:Hp) (F:List Addr):Hp:=λb=>if b∈F then H b else H₀ b
theorem G7{F:List Addr}{b:Addr}(h:b∈F):YF H₀ H F b=H b:=pQ h
theorem Aj{F:List Addr}{b:Addr}(h:b∉F):YF H₀ H F b=H₀ b:=qk h
theorem pP.frame(R:pP K H₀ Hf₀ Hf S σ H Fs) {i:Nat}{F:List Addr}(r:Fs[i]?=some F):pP K (YF H₀ H F) Hf₀ Hf (S.set i none) σ H (Fs.set i []):=by
 have l:=R.kill i;have t:∀q∈F,q∈Fs.flatten:=λq x=>qi r x
 refine⟨l.len,l.lenF,l.rep,l.emp,l.nd,λp s=>?_,l.sub,λb u e=>?_,λb h1 h2=>?_,l.sf⟩
 .have hn:p∉F:=λz=>uR R.nd r z s
  rw[Aj hn];exact l.fresh p s
 .by_cases n:b∈F
  .rw [G7 n]at e;exact e
  .rw [Aj n]at e;exact R.fr b u e
 .by_cases n:b∈F
  .exact (R.mem (t b n)).2
  .rw [Aj n]at h2;exact R.lim b h1 h2
theorem G6{α:Type}{l:List α}{i:Nat}{a:α}(h:l[i]?=some a):l.set i a=l:=by
 obtain⟨n,r⟩:=gSq.mp h;rw[←r];exact fD n
theorem pP.unframe(R:pP K H₀ Hf₀ Hf S σ H Fs) {i:Nat}{s:AV}{v:V}{F:List Addr}(t:Fs[i]?=some F) (r:oZ K Hf H s v F) (nd:F.Nodup) (h0:∀q∈F,H₀ q=none)
  (l:pP K (YF H₀ H F) Hf₀ Hf' S' σ' H' Fs') (x:S'[i]?=some none) (I:σ'[i]?=some (some v)) (sf:pJ Hf Hf') :
  (∀q∈F,H' q=H q)/\oZ K Hf' H' s v F/\pP K H₀ Hf₀ Hf' (S'.set i (some s)) σ' H' (Fs'.set i F):=by
 have B:∀q∈F,H' q=H q:=λq n=>by
  have hn:=(R.mem (qi t n)).1;cases C:H q with
  |none=>exact absurd C hn
  |some u=>exact l.fr q u (by rw[G7 n];exact C)
 have J:∀q∈F,Hf' q=none:=λq n=>by
  have y:=R.mem (qi t n);refine l.lim q ?_ (by rw[G7 n];exact y.1)
  cases L:Hf₀ q with
  |none=>rfl
  |some u=>rw[R.sf q u L]at y;exact absurd y.2 (by simp)
 have E:=r.keep sf B J;refine⟨B,E,?_⟩;have M:pP K H₀ Hf₀ Hf' (S'.set i none) σ' H' (Fs'.set i []):=by
  rw[G6 x,G6 (l.emp i x)];refine⟨l.len,l.lenF,l.rep,l.emp,l.nd,λp O=>?_,l.sub,λb u e=>?_,λb h1 h2=>?_,l.sf⟩
  .have:=l.fresh p O
   by_cases G:p∈F
   .exact h0 p G
   .rwa [Aj G]at this
  .refine l.fr b u ?_;rw[Aj λz=>by rw[h0 b z]at e;cases e]
   exact e
  .refine l.lim b h1 ?_;rw[Aj λz=>h2 (h0 b z)]
   exact h2
 refine M.again (F:=F) I E nd λq n=>⟨h0 q n,λm=>?_⟩
 rw[G6 (l.emp i x)]at m;have:=l.fresh q m;rw[G7 n]at this;exact(R.mem (qi t n)).1 this
end
abbrev MP:=AS->Option (List Nat×AS)
def Nj(i:Nat):MP:=λS=>(rh S i).map λ_=>([],S)
def WI(i:Nat) (pf:MP) (b:ME):MP:=λS=>(pf S).bind λx=>(b x.2).bind λy=>(intOf y.1).bind λj=>(rh y.2 i).bind λl=>(qg (.ow l) x.1).bind λas=>(Hc as.length j).map λn=>(x.1++[n],y.2)
def WG(K:W.Frag) (i:Nat) (te:TE) (pf:MP):Prop:=∀{H₀ l Hf:Hp}{S:AS}{σ:St}{H:Hp}{t:List (List Addr)}{path:List Nat}{S':AS},pP K H₀ l Hf S σ H t->pf S=some (path,S')->∀Q:VK,
 (∀n s r v w,ze Hf H t n s r->pP K H₀ l n S' σ s r->σ[i]?=some (some v)->GP s v path w->Q w s)->te σ H Q
section
variable {K:W.Frag}
theorem FZ(i:Nat):WG K i (zo i) (Nj i):=by
 intro H₀ l t S σ H u path x R e Q q;obtain⟨r,s,e⟩:=oMq.mp e;cases e;obtain⟨p,y,z,n,_⟩:=R.ow (pE s);exact⟨_,n,q _ _ _ _ _ .refl R n rfl⟩
theorem Ai{H₀ l Hf H:Hp}{S:AS}{σ:St}{t:List (List Addr)}{i:Nat}{n as:List AV}{path:List Nat}{v w:V}(R:pP K H₀ l Hf S σ H t) (e:S[i]?=some (some (.ow n))) (u:σ[i]?=some (some v)) (x:qg (.ow n) path=some as) (h:GP H v path w) :
  ∃p vs,w = .ref p/\H p=some (.lst vs)/\vs.length=as.length:=by
 obtain⟨B,F,s,C,r,nd,_⟩:=R.move e;rw[u]at s;cases s;obtain⟨p,vs,E,y,g2,G,z,_⟩:=r.path nd x;exact⟨p,vs,h.one y,g2,z.1.symm⟩
theorem Jz{i:Nat}{te B:TE}{pf:MP}{b:ME}(L:WG K i te pf) (M:SR K B b):WG K i (Sr (R9 K) te B) (WI i pf b):=by
 intro H₀ l Hf S σ H Fs path S' R e Q q;obtain⟨x,O,e⟩:=oBq.mp e;obtain⟨y,P,e⟩:=oBq.mp e;obtain⟨j,r,e⟩:=oBq.mp e;obtain⟨U,X,e⟩:=oBq.mp e;obtain⟨as,Y,e⟩:=oBq.mp e;obtain⟨n,s,e⟩:=oMq.mp e;cases e;refine L R (path:=x.1) (S':=x.2) O _ λHf1 H1 Fs1 v w t1 R1 C a1=>M R1 (d:=y.1) (S':=y.2) P _ λHf2 H2 Fs2 u E R2 G=>?_
 have hy:y.1 = .int j:=by
  cases hx:y.1 <;> rw[hx]at r <;> first|(cases r;rfl)|cases r
 rw[hy]at G;cases G;have I:=a1.same E.sh;obtain⟨p,t,rfl,h1,h2⟩:=Ai R2 (pE X) C Y I;have hix:=s;obtain⟨_,hn,_⟩:=K4 s;have z:n<t.length:=by rw[h2];exact hn
 obtain⟨u,J⟩:∃u,t[n]?=some u:=⟨_,gEg z⟩;refine⟨p,t,j,u,rfl,rfl,qV.of h1,?_,q _ _ _ v _ (t1.trans E) R2 C (I.snoc h1 J)⟩;unfold atI;rw[h2,s];exact J
end
section
variable {K:W.Frag}
theorem pP.grow{H₀ l Hf H:Hp}{S:AS}{σ:St}{I:List (List Addr)}{i:Nat}{s as:List AV}{path:List Nat}{v:V}{p:Addr}(R:pP K H₀ l Hf S σ H I) (e:S[i]?=some (some (.ow s))) (J:σ[i]?=some (some v)) (Y:qg (.ow s) path=some as) (h:GP H v path (.ref p)) :
  ∃vs,H p=some (.lst vs)/\as.length=vs.length/\∀(bs:List AV) (ws:List V) (n:List (List Addr)),pb K Hf H bs ws n->n.flatten.Nodup->(∀q∈n.flatten,H₀ q=none/\q∉I.flatten) ->
   ∃B,pP K H₀ l Hf (S.set i (some (uC (.ow s) path (as++bs)))) σ (qG H p (.lst (vs++ws))) B:=by
 obtain⟨v',F,L,x,r,nd,M,_⟩:=R.move e;rw[J]at L;cases L;obtain⟨p',vs,C,g1,g2,g3,O,P,Q,E,U,g8⟩:=r.path nd Y;have G:V.ref p=V.ref p':=h.one g1;cases G;refine⟨vs,g2,O.1,λbs ws n rb nG u=>?_⟩
 have X:p∉n.flatten:=λm=>(u p m).2 (qi x P)
 have t:(C++n).flatten=C.flatten++n.flatten:=fAq;obtain⟨F',k1,k2,k3⟩:=g8 (as++bs) (vs++ws) (C++n) ((O.keepUpd Q).append (rb.keepUpd X)) (by
  rw[t];refine aB.mpr ⟨λm=>(mAq.mp m).elim Q X,nAq.mpr ⟨E,nG,λa ha b hb z=>(u b hb).2 (qi x (U b (z ▸ ha)))⟩⟩) (λq y=>by
  rw[t]at y;exact(mAq.mp y).imp id λm z=>(u q m).2 (qi x z))
 refine⟨_,R.turnAny J x P k1 k2 λq y=>?_⟩
 rcases k3 q y with z|z
 .exact M q z
 .rw [t]at z;rcases mAq.mp z with z|z
  .exact M q (U q z)
  .exact ⟨(u q z).1,λm=>(u q z).2 (qY m)⟩
def Z0(i:Nat) (pf:MP) (k:MK):MS:=λS=>(pf S).bind λx=>(rh x.2 i).bind λn=>(qg (.ow n) x.1).bind λ_=>(k x.2).bind λy=>(rh y.2 i).bind λl=>(qg (.ow l) x.1).bind λas=>uu (as.length<qK) (some (.nx (y.2.set i (some (uC (.ow l) x.1 (as++[y.1]))))))
def Qs(i:Nat) (pf:MP) (l:ML):MS:=λS=>(pf S).bind λx=>(rh x.2 i).bind λr=>(qg (.ow r) x.1).bind λ_=>(l x.2).bind λy=>(rh y.2 i).bind λn=>(qg (.ow n) x.1).bind λas=>uu (as.length+y.1.length<=qK) (some (.nx (y.2.set i (some (uC (.ow n) x.1 (as++y.1.map .sh))))))
theorem Ti{i:Nat}{s te:TE}{pf:MP}{l:ML}(I:WG K i s pf) (J:SL K te l):SS K (Aw (Ov K "list" GI s (tP te wM))) (Qs i pf l):=by
 intro H₀ n Hf S σ H Fs o R e D h;obtain⟨x,L,e⟩:=oBq.mp e;obtain⟨a0,M,e⟩:=oBq.mp e;obtain⟨n0,O,e⟩:=oBq.mp e;obtain⟨y,P,e⟩:=oBq.mp e;obtain⟨Q,U,e⟩:=oBq.mp e;obtain⟨as,X,e⟩:=oBq.mp e;rcases oT e with ⟨hl,e⟩|e
 .cases e;refine I R (path:=x.1) (S':=x.2) L _ λY H1 Fs1 v w t1 t u z=>?_
  obtain⟨p,vs,rfl,h1,h2⟩:=Ai t (pE M) u O z;refine⟨.inl ⟨rfl,vs,qV.of h1⟩,J t (ds:=y.1) (S':=y.2) P _ λHf2 H2 Fs2 b B C R2 hb E=>?_⟩
  obtain⟨r,g1,g2,g3⟩:=R2.grow (pE U) u X (z.same C.sh);obtain⟨Fs',R3⟩:=g3 (y.1.map .sh) B (bN y.1.length []) (L1 E) (by rw[uz];exact aY) (λq G=>by rw[uz]at G;cases G)
  exact⟨p,b,r,B,rfl,rfl,g1,hb,by rw[vp,←g2,←E.1];exact hl,h _ _ _ _ (t1.sf.trans C.sf) R3⟩
 .cases e
def ZE(x i:Nat) (path:List Nat) (S:AS) (σ:St) (H:Hp):Prop:=∃v p l as,S[i]?=some (some (.ow l))/\qg (.ow l) path=some as/\σ[x]?=some (some (.ref p))/\σ[i]?=some (some v)/\GP H v path (.ref p)
def Qc(K:W.Frag) (x i:Nat) (t:TS) (m:List Nat->MS):Prop:=∀{path:List Nat}{H₀ l Hf:Hp}{S:AS}{σ:St}{H:Hp}{n:List (List Addr)}{o:Lk},pP K H₀ l Hf S σ H n->ZE x i path S σ H->m path S=some o->∀D:Av,E2 K H₀ l Hf D o->t D σ H
def S7(x i:Nat) (pf:MP) (m:List Nat->MS):MS:=λS=>(pf S).bind λy=>(rh y.2 i).bind λl=>(qg (.ow l) y.1).bind λ_=>uu (x≠i/\x<y.2.length) (m y.1 (y.2.set x none))
theorem Va{x i:Nat}{te:TE}{pf:MP}{t:TS}{m:List Nat->MS}(G:WG K i te pf) (I:Qc K x i t m):SS K (PQ (Km te (tm x)) t) (S7 x i pf m):=by
 intro H₀ n P S σ H Q o R e D h;obtain⟨y,J,e⟩:=oBq.mp e;obtain⟨r,z,e⟩:=oBq.mp e;obtain⟨L,B,e⟩:=oBq.mp e;rcases oT e with ⟨⟨l,s⟩,e⟩|e
 .refine G R (path:=y.1) (S':=y.2) J _ λM U Fs1 v w O u C E=>?_
  obtain⟨p,X,rfl,h1,h2⟩:=Ai u (pE z) C B E;have R2:=(u.kill x).any (V.ref p);refine I R2 ⟨v,p,r,L,?_,B,?_,?_,E⟩ e D (h.mono O.sf)
  .rw [aG l];exact pE z
  .exact aQ (by rw[←u.len];exact s)
  .rw [aG l];exact C
 .cases e
theorem Uc{x i:Nat}{t:TS}{m:MS}(h:SS K t m):Qc K x i t (λ_=>m):=λR _ e D o=>h R e D o
theorem UP{x i:Nat}{t u:TS}{a:List Nat->MS}{b:MS}(n:Qc K x i t a) (r:SS K u b):Qc K x i (PQ t u) (λpath=>nW (a path) b):=by
 intro path H₀ l I S σ H J o R A e D h;obtain⟨y,z,e⟩:=oBq.mp e;refine n R A z _ ?_;cases y with
 |nx L=>exact λB C M E s G=>r G e D (h.mono s)
 |rt a=>cases e;exact h
 |bk a=>cases e;exact h
 |ct a=>cases e;exact h
def IM(i:Nat) (c:MT) (a b:List Nat->MS):List Nat->MS:=λpath S=>(c S).bind λy=>(rh y.2 i).bind λl=>(qg (.ow l) path).bind λ_=>if y.1=true then a path y.2 else b path y.2
theorem OT{x i:Nat}{c:TT}{m:MT}{t u:TS}{a b:List Nat->MS}(E:Hd K c m) (G:Qc K x i t a) (I:Qc K x i u b):Qc K x i (RM c t u) (IM i m a b):=by
 intro path H₀ n Y S σ H Fs o R A e D h;obtain⟨y,J,e⟩:=oBq.mp e;obtain⟨r,L,e⟩:=oBq.mp e;obtain⟨M,O,e⟩:=oBq.mp e;obtain⟨v,p,_,_,_,_,P,Q,s⟩:=A;refine E R (b:=y.1) (S':=y.2) J _ λU X Fs1 z B=>?_
 have C:ZE x i path y.2 σ X:=⟨v,p,r,M,pE L,O,P,Q,s.same z.sh⟩;split at e
 .rename_i l;rw[l];exact Iy (G B C e D (h.mono z.sf))
 .rename_i l;rw[dk]at l;rw[l];exact Ip (I B C e D (h.mono z.sf))
def K1(i:Nat) (k:MK):List Nat->MS:=λpath S=>(k S).bind λy=>(rh y.2 i).bind λl=>(qg (.ow l) path).bind λas=>uu (as.length<qK) (some (.nx (y.2.set i (some (uC (.ow l) path (as++[y.1]))))))
theorem VC{x i:Nat}{te:TE}{k:MK}(C:SK K te k):Qc K x i (Aw (Ov K "list" Al (zo x) (tP te wM))) (K1 i k):=by
 intro path H₀ n Hf S σ H Fs o R A e D h;obtain⟨y,E,e⟩:=oBq.mp e;obtain⟨G,I,e⟩:=oBq.mp e;obtain⟨as,J,e⟩:=oBq.mp e;rcases oT e with ⟨hl,e⟩|e
 .cases e;obtain⟨v,p,a0,n0,L,M,O,z,l⟩:=A;obtain⟨p',P,Q,h1,h2⟩:=Ai R L z M l;cases Q;refine⟨.ref p,O,.inl ⟨rfl,P,qV.of h1⟩,C R (a:=y.1) (S':=y.2) E _ λU H2 Fs2 u F B R2 X r=>?_⟩
  obtain⟨s,Y,g2,g3⟩:=R2.grow (pE I) z J (l.same B.sh);obtain⟨Fs',R3⟩:=g3 [y.1] [u] [F] (pb.nil.snoc X) (by rw[aU];exact r.nd) (λq t=>by rw[aU]at t;exact⟨r.fr q t,r.out q t⟩)
  exact⟨p,s,u,rfl,rfl,Y,by rw[vp,←g2];exact hl,h _ _ _ _ B.sf R3⟩
 .cases e
def ZY(i:Nat) (l:ML):List Nat->MS:=λpath S=>(l S).bind λy=>(rh y.2 i).bind λn=>(qg (.ow n) path).bind λas=>uu (as.length+y.1.length<=qK) (some (.nx (y.2.set i (some (uC (.ow n) path (as++y.1.map .sh))))))
def FL(i:Nat) (n:ME):List Nat->MS:=λpath S=>(rh S i).bind λl=>(qg (.ow l) path).bind λas=>(n (S.set i none)).bind λy=>uu (y.2[i]?=some none/\as.length<qK) (some (.nx (y.2.set i (some (uC (.ow l) path (as++[.sh y.1]))))))
theorem Sw{x i:Nat}{te:TE}{I:ME}(P:SM K te I):Qc K x i (Aw (Ov K "list" Al (zo x) (tP te wM))) (FL i I):=by
 intro path H₀ z Hf S σ H Fs o R A e D h;obtain⟨l,Q,e⟩:=oBq.mp e;obtain⟨as,B,e⟩:=oBq.mp e;obtain⟨y,U,e⟩:=oBq.mp e;rcases oT e with ⟨⟨hn,hl⟩,e⟩|e
 .cases e;obtain⟨v,p,a0,n0,_,_,X,t,n⟩:=A;have s:=pE Q;obtain⟨p',Y,hp,h1,h2⟩:=Ai R s t B n;cases hp;obtain⟨v',F,J,L,r,nd,oo,_⟩:=R.move s;rw[t]at J;cases J;refine⟨.ref p,X,.inl ⟨rfl,Y,qV.of h1⟩,P (R.frame L) (d:=y.1) (S':=y.2) U _ λHf2 H2 Fs2 u M R2 r2=>?_⟩
  obtain⟨k1,k2,R3⟩:=R.unframe L r nd (λq C=>(oo q C).1) R2 hn t M
  have E:i<y.2.length:=(gSq.mp hn).1;have e5:(y.2.set i (some (.ow l)))[i]?=some (some (.ow l)):=aQ E;obtain⟨G,g1,g2,g3⟩:=R3.grow e5 t B (n.kept r B k1);obtain⟨Fs',O⟩:=g3 [.sh y.1] [u] [[]] (pb.nil.snoc (.sh r2)) (by simp) (λq C=>by simp at C)
  rw[fQ]at O;exact⟨p,G,u,rfl,rfl,g1,by rw[vp,←g2];exact hl,h _ _ _ _ M O⟩
 .cases e
def UU(K:W.Frag) (J:List Nat) (t:TS) (m:MS):Prop:=∀{H₀ l Hf:Hp}{S:AS}{σ:St}{H:Hp}{x:List (List Addr)}{S':AS},pP K H₀ l Hf S σ H x->m S=some (.nx S')->∀D:Av,(∀r n u s,pJ Hf r->pP K H₀ l r S' n u s->(∀j∈J,n[j]?=σ[j]?)->D.nx n u)->t D σ H
theorem Q9{J:List Nat}{t:TS}(h:∀D σ H,D.nx σ H->t D σ H):UU K J t qa:=by
 intro H₀ l n S σ H r s R e D q;cases e;exact h _ _ _ (q _ _ _ _ (.refl _) R λ_ _=>rfl)
theorem K6{J:List Nat}{y:Nat}{te:TE}{k:MK}(s:SK K te k) (t:y∉J):UU K J (Km te (tm y)) (oD y k):=by
 intro H₀ l L S σ H M O R e D q;obtain⟨x,u,e⟩:=oMq.mp e;cases e;refine s R (a:=x.1) (S':=x.2) u _ λB P Fs1 v F C E G n=>?_
 exact q _ _ _ _ C.sf (E.set y G n.nd λq r=>⟨n.fr q r,n.out q r⟩) λj I=>aG (show y≠j from λz=>t (by rw[z];exact I))
theorem P6{J:List Nat}{y:Nat}{te:TE}{m:ME}(n:SM K te m) (r:y∉J):UU K J (Km te (tm y)) (E9 y m):=by
 intro H₀ l G S σ H I L R e D q;obtain⟨x,s,e⟩:=oMq.mp e;cases e;refine n R (d:=x.1) (S':=x.2) s _ λt M Fs1 v u B C=>?_
 exact q _ _ _ _ u (B.setD y C) λj E=>aG (show y≠j from λz=>r (by rw[z];exact E))
theorem U8{J:List Nat}{c:TT}{m:MT}{t u:TS}{a b:MS}(G:Hd K c m) (I:UU K J t a) (L:UU K J u b):UU K J (RM c t u) (xH m a b):=by
 intro H₀ n Q S σ H U X R e D q;obtain⟨x,M,e⟩:=oBq.mp e;refine G R (b:=x.1) (S':=x.2) M _ λO Y Fs1 C E=>?_
 split at e
 .rename_i l;rw[l];exact Iy (I E e D λr y P z s B j=>q _ _ _ _ (C.sf.trans s) B j)
 .rename_i l;rw[dk]at l;rw[l];exact Ip (L E e D λr y P z s B j=>q _ _ _ _ (C.sf.trans s) B j)
def FY(i:Nat) (a:MS) (m:List Nat->MS):List Nat->MS:=λpath S=>(rh S i).bind λl=>(a (S.set i none)).bind λo=>match o with
 | .nx n=>uu (n[i]?=some none) (m path (n.set i (some (.ow l))))
 |_=>none
theorem KH{x i:Nat}{t u:TS}{a:MS}{m:List Nat->MS}(Q:UU K [x,i] t a) (U:Qc K x i u m):Qc K x i (PQ t u) (FY i a m):=by
 intro path H₀ z Hf S σ H Fs o R A e D h;obtain⟨l,X,e⟩:=oBq.mp e;obtain⟨Y,e3,e⟩:=oBq.mp e;cases Y with
 |nx B =>
  rcases oT (show uu (B[i]?=some none) (m path (B.set i (some (.ow l))))=some o from e) with ⟨hn,e⟩|e
  .obtain ⟨v,p,a0,n0,n,I,s2,C,E⟩:=A;have J:=pE X;rw[J]at n;cases n;obtain⟨v',F,L,M,r,nd,ow,_⟩:=R.move J;rw[C]at L;cases L;refine Q (R.frame M) e3 _ λHf' y H' Fs' s R' O=>?_
   have j1:y[x]?=σ[x]?:=O x (by simp)
   have P:y[i]?=σ[i]?:=O i (by simp)
   obtain⟨k1,k2,R3⟩:=R.unframe M r nd (λq hq=>(ow q hq).1) R' hn (P.trans C) s
   have G:i<B.length:=(gSq.mp hn).1;exact U R3 ⟨v,p,l,n0,aQ G,I,j1.trans s2,P.trans C,E.kept r I k1⟩ e D (h.mono s)
  .cases e
 |_=>cases e
end
theorem WM(S:AS) (i:Nat):Nj i S=(rh S i).map λ_=>([],S):=rfl
theorem YT(S:AS) (i:Nat) (pf:MP) (b:ME):WI i pf b S=(pf S).bind λx=>(b x.2).bind λy=>(intOf y.1).bind λj=>(rh y.2 i).bind λl=>(qg (.ow l) x.1).bind λas=>(Hc as.length j).map λn=>(x.1++[n],y.2):=rfl
theorem V5(S:AS) (i:Nat) (pf:MP) (l:ML):Qs i pf l S=(pf S).bind λx=>(rh x.2 i).bind λr=>(qg (.ow r) x.1).bind λ_=>(l x.2).bind λy=>(rh y.2 i).bind λn=>(qg (.ow n) x.1).bind λas=>uu (as.length+y.1.length<=qK) (some (.nx (y.2.set i (some (uC (.ow n) x.1 (as++y.1.map .sh)))))):=rfl
theorem XM(S:AS) (x i:Nat) (pf:MP) (m:List Nat->MS):S7 x i pf m S=(pf S).bind λy=>(rh y.2 i).bind λl=>(qg (.ow l) y.1).bind λ_=>uu (x≠i/\x<y.2.length) (m y.1 (y.2.set x none)):=rfl
theorem X5(S:AS) (i:Nat) (c:MT) (a b:List Nat->MS) (path:List Nat):IM i c a b path S=(c S).bind λy=>(rh y.2 i).bind λl=>(qg (.ow l) path).bind λ_=>if y.1=true then a path y.2 else b path y.2:=rfl
theorem V4(S:AS) (i:Nat) (k:MK) (path:List Nat):K1 i k path S=(k S).bind λy=>(rh y.2 i).bind λl=>(qg (.ow l) path).bind λas=>uu (as.length<qK) (some (.nx (y.2.set i (some (uC (.ow l) path (as++[y.1])))))):=rfl
theorem Tz(S:AS) (i:Nat) (n:ME) (path:List Nat):FL i n path S=(rh S i).bind λl=>(qg (.ow l) path).bind λas=>(n (S.set i none)).bind λy=>uu (y.2[i]?=some none/\as.length<qK) (some (.nx (y.2.set i (some (uC (.ow l) path (as++[.sh y.1])))))):=rfl
def XO(i:Nat) (l:List AV) (m:List Nat->MS) (path:List Nat):Lk->Option Lk
 | .nx n=>uu (n[i]?=some none) (m path (n.set i (some (.ow l))))
 |_=>none
theorem W6(S:AS) (i:Nat) (a:MS) (m:List Nat->MS) (path:List Nat):FY i a m path S=(rh S i).bind λl=>(a (S.set i none)).bind (XO i l m path):=by
 unfold FY;congr 1
theorem RT(i:Nat) (l:List AV) (m:List Nat->MS) (path:List Nat) (n:AS):XO i l m path (.nx n)=uu (n[i]?=some none) (m path (n.set i (some (.ow l)))):=rfl
theorem Jq(l:List AV):qg (.ow l) []=some l:=rfl
theorem CP(l:List AV) (j:Nat) (n:List Nat):qg (.ow l) (j::n)=(l[j]?).bind λa=>qg a n:=rfl
theorem Kx{l:List AV}{j:Nat}{n:List Nat}{as:List AV}{a:AV}(h:l[j]?=some a):uC (.ow l) (j::n) as = .ow (l.set j (uC a n as)):=by
 show (match l[j]? with|some a=>_|none=>_)=_
 rw[h]
def zqd:=ab @WM (ab @YT (ab @V5 (ab @XM (ab @X5 (ab @V4 (ab @Tz (ab @W6 (ab @RT @Jq))))))))
section
variable {K:W.Frag}
def G8(m:ME):MS:=λS=>(m S).map λx=>.nx x.2
theorem P4{te:TE}{m:ME}(h:SM K te m):SS K (Aw te) (G8 m):=by
 intro H₀ l u S σ H y o R e D hd;obtain⟨x,n,e⟩:=oMq.mp e;cases e;exact h R (d:=x.1) (S':=x.2) n _ λr z Fs1 v s t B=>hd _ _ _ _ s t
def aas(i:Nat):MS:=λS=>(rh S i).map λl=>.nx (S.set i (some (.ow l.reverse)))
end
theorem TB(S:AS) (m:ME):G8 m S=(m S).map λx=>.nx x.2:=rfl
def zqe:=@TB
section
variable {K:W.Frag}
theorem rD.fd_inv{H:Hp}{ds:List (oq×D)}{v:V}(h:rD K H (.fd ds) v):∃p o kvs,v = .ref p/\H p=some (.frz o (.dK kvs))/\uj K H ds kvs:=by
 cases h with
 |fd h l e=>exact⟨_,_,_,rfl,h,l,e⟩
noncomputable def S0:D->Option (List (oq×D))
 | .fd kvs=>some kvs
 |_=>none
theorem Th{d:D}{kvs:List (oq×D)}(h:S0 d=some kvs):d = .fd kvs:=by
 cases d <;> first|(cases h;rfl)|cases h
def GT(a b:ME):ME:=λS=>(a S).bind λx=>(b x.2).bind λy=>(S0 x.1).bind λkvs=>(vX y.1).bind λkey=>(getD kvs key).map λd=>(d,y.2)
theorem HX{n r:TE}{a b:ME}(u:SR K n a) (z:SR K r b):SR K (OU n r) (GT a b):=by
 intro H₀ l Hf S σ H Fs d S' R e Q q;obtain⟨x,B,e⟩:=oBq.mp e;obtain⟨y,C,e⟩:=oBq.mp e;obtain⟨E,G,e⟩:=oBq.mp e;obtain⟨key,I,e⟩:=oBq.mp e;obtain⟨d',J,e⟩:=oMq.mp e;cases e;refine u R (d:=x.1) (S':=x.2) B _ λL H1 Fs1 v1 M O s=>z O (d:=y.1) (S':=y.2) C _ λP H2 Fs2 v2 t R2 U=>?_
 rw[Th G]at s;obtain⟨p,o,X,rfl,h1,h2⟩:=(s.mono t.sh).fd_inv;have g:=BB (key:=key) h2;rw[J]at g;obtain⟨v,Y,g2⟩:=g;exact⟨p,v,rfl,by rw[xU I U,←Y];exact .inl ⟨X,key,.inr ⟨o,h1⟩,rfl,rfl⟩,q _ _ _ _ (M.trans t) R2 g2⟩
theorem OZ{t:Obj}{d:Addr}{kvs:List (oq×V)}{z:Nat}{B:TS}{D:Av}{σ:St}{H:Hp}(l:Nat->St->Hp->Prop) (h0:l 0 σ H) (hl:∀i σ H,l i σ H->H d=some (.frz t (.dK kvs)))
  (E:∀i p σ H,kvs[i]?=some p->l i σ H->B { D with nx:=l (i+1),ct:=l (i+1),bk:=D.nx } (σ.set z (some (kV p.1))) H) (hd:∀σ H,l kvs.length σ H->D.nx σ H) :
  ∃W:Nat->Nat->St->Hp->Prop,(∃m,W 0 m σ H)/\∀i m σ H,W i m σ H ->
   ((Xu t d kvs).stop i H/\D.nx σ H)∨((Xu t d kvs).go i H/\∃N:St->Hp->Prop,(∀r n,N r n->∃C,C<m/\W (i+1) C r n)/\∀x n,(Xu t d kvs).yld i H x n->tm z x σ n λu G=>B { D with nx:=N,ct:=N,bk:=D.nx } u G):=by
 refine⟨λi m σ H=>m=kvs.length-i/\i<=kvs.length/\l i σ H,⟨kvs.length,by simp,ba _,h0⟩,?_⟩
 rintro i m σ H ⟨rfl,L,p⟩;have q:=hl i σ H p
 by_cases s:i<kvs.length
 .refine .inr ⟨⟨q,kvs[i],by simp[s]⟩,l (i+1),λr n I=>⟨kvs.length-(i+1),by lia,rfl,s,I⟩,λv n y=>?_⟩
  obtain⟨rfl,x,J,rfl⟩:=y;exact E i x σ n J p
 .have e:i=kvs.length:=by lia
  subst e;exact .inl ⟨⟨q,ai _⟩,hd σ H p⟩
def K9(x i:Nat) (body:MS):MS:=λS=>(xx S i).bind λkvs=>uu (x≠i) (sk x body (kvs.map λp=>kD p.1) (S.set i (some (.sh (.fd kvs)))))
theorem Lx{x i:Nat}{tb:TS}{body:MS}(hb:SS K tb body):SS K (Mv (Ui (zo i)) (tm x) tb) (K9 x i body):=by
 intro H₀ t J S σ H Fs o R e D h;obtain⟨y,e1,e⟩:=oBq.mp e;rcases oT e with ⟨hne,e⟩|e
 .have L:=AX e1;obtain⟨p,s,s1,s2,h1,h2,h3,h4,h5⟩:=R.owd L;refine⟨_,s1,p,s,rfl,h1,λI=>?_⟩
  obtain⟨v,F,t1,t2,r,nd,oo,R1⟩:=R.move L;rw[s2]at t2;cases t2;have R2:=pP.fix R1 (p:=p) (o:=.frz I (.dK s)) h5 h2 h4;have s3:pJ J (qG J p (.frz I (.dK s))):=uS h2;have M:uj K (qG J p (.frz I (.dK s))) y s:=⟨h3.1,λi d v a b=>(h3.2 i d v a b).mono s3⟩
  have R3:pP K H₀ t (qG J p (.frz I (.dK s))) (S.set i (some (.sh (.fd y)))) σ (qG H p (.frz I (.dK s))) (Fs.set i []) :=
   R2.again (F:=[]) s1 (.sh (.fd oC M.1 M.2)) aY λq hq=>by cases hq
  have E:y.length=s.length:=by have:=congrArg bp h3.1;simpa using this
  refine OZ (λn z H'=>∃u O B,pP K H₀ t u O z H' B/\pJ (qG J p (.frz I (.dK s))) u/\sk x body ((y.map λp=>kD p.1).drop n) O=some o) ⟨_,_,_,R3,.refl _,e⟩
   (λn z H' ⟨u,O,B,P,G,_⟩=>P.sub _ _ (G _ _ oC)) ?_ ?_
  .rintro n w z H' hw ⟨u,O,B,P,G,Q⟩;have hn:n<y.length:=by rw[E];exact(gSq.mp hw).1
   have hk:(y.map λp=>kD p.1)[n]?=some (kD w.1):=by
    have:=congrArg (λl=>l[n]?) h3.1
    simp only[gMq,hw,cj]at this;rw[gMq];cases hd:y[n]? with
    |none=>rw[hd]at this;cases this
    |some dd =>
     rw[hd]at this;rw[cj,show dd.1=w.1 from aT.inj this]
   have hlt:n<(y.map λp=>kD p.1).length:=by rw[lMq];exact hn
   rw[aX hlt,(gSq.mp hk).2]at Q;obtain⟨o2,e3,e4⟩:=oBq.mp Q;refine hb (P.setD x (SE w.1)) e3 _ ?_;cases o2 with
   |nx S2=>exact λC U H2 Fs2 X Y=>⟨C,S2,Fs2,Y,G.trans X,e4⟩
   |ct S2=>exact λC U H2 Fs2 X Y=>⟨C,S2,Fs2,Y,G.trans X,e4⟩
   |bk S2=>cases e4;exact λC U H2 Fs2 X Y=>h _ _ _ _ ((s3.trans G).trans X) Y
   |rt a=>cases e4;exact h
  .rintro z H' ⟨u,O,B,P,G,Q⟩;rw[←E,show y.length=(y.map λp=>kD p.1).length from (lMq _).symm,eQ]at Q
   cases Q;exact h _ _ _ _ (s3.trans G) P
 .cases e
end
theorem Ld(kvs:List (oq×D)):S0 (.fd kvs)=some kvs:=rfl
theorem KW(S:AS) (a b:ME):GT a b S=(a S).bind λx=>(b x.2).bind λy=>(S0 x.1).bind λkvs=>(vX y.1).bind λkey=>(getD kvs key).map λd=>(d,y.2):=rfl
theorem VP(S:AS) (x i:Nat) (body:MS):K9 x i body S=(xx S i).bind λkvs=>uu (x≠i) (sk x body (kvs.map λp=>kD p.1) (S.set i (some (.sh (.fd kvs))))):=rfl
def zqf:=ab @Ld (ab @KW @VP)
end Z
namespace Mr
open PySem PySem.Spec PyProof.Rows L2
theorem N4:jZ (.type "list_reverseiterator") "__len__" = pure none:=by rw[jU,jG];kernel_rfl
theorem Qe:jZ (.type "list_reverseiterator") "__length_hint__" = pure (some (.builtin "list_reverseiterator.__length_hint__")):=by rw[jU,jG];kernel_rfl
section
variable {prog:jo}{w:jt}{A:Around}{E:Value->Shared->Prop}{s:Shared}
theorem Q6{r:Addr}{Q:Bool->Shared->Prop}(n:s.TypeIs (.ref r) "list_reverseiterator") (h:Q false s):jj (jm prog w) A (Builtin.List.listLengthHint (.ref r)) Q E s:=by
 unfold Builtin.List.listLengthHint;refine ji (lS n N4 ?_);show jj _ A (specialOf (aE r) (Str.ofString "__length_hint__") >>= _) _ _ _;refine ji (lS n Qe ?_);generalize l:("list_reverseiterator.__length_hint__" : String)=id0
 wp_delta
 rw[show splitId id0=some ("list_reverseiterator", "__length_hint__") from by subst l;decide +kernel]
 subst l;refine ji (kO (T := "list_reverseiterator") (b:=true) n (by rw[lx];kernel_rfl) ?_)
 exact jk h
def Y2(items:Array Value) (i:Nat) (v:Value):Prop:=items[items.size-1-i]?=some v
theorem Tp{R:mE->Shared->Prop}{I l:Addr}{items:Array Value}(hh:A.handled=none) (C:l≠I) (t:s.heap.IsRevIter I l ((items.size:Int)-1)) (hl:s.heap.IsList l items) (S:Addr) (z:S≠I) (G:S≠l) (res:Value) (u:Nat) (O:s.heap.get? S=some { cls:=.type "list", data:=.seq #[] u })
  (P:∀h' Q n y,(∀b o,b≠S->b≠I->s.heap.get? b=some o->h'.get? b=some o)->h'.get? S=some { cls:=.type "list", dict:=none,data:=.seq n y,slots:=#[] }->ItemsOf (Y2 items) n items.size->R (.ok (.ret res)) { s with heap:=h',toks:=Q }) (hn:items.size<=jn) :
  jj (jm prog w) A.in1 (Builtin.List.listExtendWith (.ref S) (.ref I) res)
   (λH x=>match H with|.done f=>R (.ok f) x|.again y=>y.quiet=true/\kr (jm prog w) A y R x) (λe x=>R (.error e) x) s:=by
 have J:S∉[I,l]:=by simp only[ar,cK,or_false,not_or];exact⟨z,G⟩
 have W:=Walks.listRev (prog:=prog) (w:=w) (A:=A.in1) hh I l C items;have st:(0:Nat)<=items.size/\s.heap.IsRevIter I l ((items.size:Int)-1-((0:Nat):Int))/\s.heap.IsList l items:=⟨ba _,by rw[show (items.size:Int)-1-((0:Nat):Int)=(items.size:Int)-1 by lia];exact t,hl⟩
 unfold Builtin.List.listExtendWith;refine ji (jL (T := "list_reverseiterator") t.typeIs ?_);have h1:Builtin.List.listSameRef (.ref S) (.ref I)=false:=by simp[Builtin.List.listSameRef,z]
 have h2:(eh "list_reverseiterator" == eh "list")=false:=by decide
 have U:(eh "list_reverseiterator" == eh "tuple")=false:=by decide
 simp only[h1,h2,U,Bool.or_false,cQ,if_false];refine ji (PySem.wpAny_pyIter_revIter t ?_);refine ji (jA (Q6 t.typeIs ?_));rw[qk (by decide)]
 refine jk ⟨jJ PySem.F.plain_extend_loop _,?_⟩;refine codeAny_extend_loopS W.toS hn S J res items.size 0 _ #[] u rfl (ba _) st O (ItemsOf.nil _) λx n y M L B=>?_
 rw[Moved.eq_with M];refine P x.heap x.toks n y (λb o X Y e=>M.heap b o (λr=>?_) e) L B
 rcases ar.mp r with e'|r
 .exact X e'
 .exact Y (mSq.mp r)
theorem ND{Q:Value->Shared->Prop}{I l:Addr}{items:Array Value}(hh:A.handled=none) (C:l≠I) (x:s.heap.IsRevIter I l ((items.size:Int)-1)) (hl:s.heap.IsList l items) (hn:items.size<=jn)
  (S:∀h' G n H,(∀b o,b≠I->s.heap.get? b=some o->h'.get? b=some o)->h'.get? s.heap.objs.size=some { cls:=.type "list", dict:=none,data:=.seq n H,slots:=#[] }->ItemsOf (Y2 items) n items.size->Q (.ref s.heap.objs.size) { s with heap:=h',toks:=G }) :
  jj (jm prog w) A (call (.type "list") [.ref I]) Q E s:=by
 refine mq (Q₁:=λobj r=>obj = .ref s.heap.objs.size/\r={ s with heap:=s.heap.push { cls:=.type "list", data:=.seq #[] } }) PySem.F.called_list (PySem.F.typeCall_list_1 _) PySem.F.entry_list_init
  (code_list_new _ ⟨rfl,rfl⟩) λobj r y=>?_
 obtain⟨rfl,rfl⟩:=y;have B:(s.heap.push { cls:=.type "list", data:=.seq #[] }).get? s.heap.objs.size=some { cls:=.type "list", data:=.seq #[] }:=aL _ rfl;have P:I<s.heap.objs.size:=let ⟨_,J,_⟩:=x;ae J
 have R:l<s.heap.objs.size:=let ⟨_,J,_⟩:=hl;ae J
 refine⟨⟨_,B,rfl⟩,PySem.F.args_list_init_2 _ _,?_⟩;show jj _ _ (do let L ←Builtin.List.listItems (.ref s.heap.objs.size);Builtin.List.listUpdate (.ref s.heap.objs.size) (λ_=>#[]);letGo L.toList.reverse;Builtin.List.listExtendWith (.ref s.heap.objs.size) (.ref I) .none) _ _ _
 refine ji ?_;unfold Builtin.List.listItems;refine ji (kE B rfl (jk ?_));show jj _ _ (updateSeq s.heap.objs.size (λ_=>#[]) >>= λ_=>letGo (#[]:Array Value).toList.reverse >>= λ_=>Builtin.List.listExtendWith (.ref s.heap.objs.size) (.ref I) .none) _ _ _
 refine ji (wpAny_updateSeq B rfl ?_);have t:=Heap.get?_update_self (Obj.mapSeq (λ_=>(#[]:Array Value))) B rfl
 have u:∀b o,b≠s.heap.objs.size->s.heap.get? b=some o->((s.heap.push { cls:=.type "list", data:=.seq #[] }).update s.heap.objs.size (Obj.mapSeq (λ_=>(#[]:Array Value)))).get? b=some o :=
  λb o M e=>(gH _ _ (Ne.symm M)).trans (aj _ e)
 refine ji (wpAny_letGo ?_);refine Tp (A:=A.in1) (I:=I) (l:=l) (items:=items) hh C (x.at λo e=>u I o (aq P) e) (hl.at λo e=>u l o (aq R) e) s.heap.objs.size (aR P) (aR R) .none _ t (λh' G n H U O z=>?_) hn
 exact⟨rfl,S h' G n H (λb o M e=>U b o (aq (ae e)) M (u b o (aq (ae e)) e)) O z⟩
end
section
variable {X:Cx}
def UA(K:W.Frag) (xs:List V) (H:Hp) (Q:VK):Prop:=∃a ys,xs=[.ref a]/\qV K H a ys/\∀l,H l=none->Q (.ref l) (qG H l (.lst ys.reverse))
theorem TC{e:Expr}{M:TA}{Y p x pos:Pos}(hc:X.calm=true) (gl:Gl X "list") (ml:X.mg "list" = none) (hg:Gl X "reversed") (hm:X.mg "reversed" = none) (ha:PA X [e] M)
  (O:jv [.Call (.Name "reversed" p) [e] [] pos] X.env=(false,eval (.Call (.Name "reversed" p) [e] [] pos) X.env)::jv [] X.env:=by rfl) (hs:jv [e] X.env=[(false,eval e X.env)]:=by rfl) :
  PE X (.Call (.Name "list" Y) [.Call (.Name "reversed" p) [e] [] pos] [] x) (Hh (UA X.K) M):=by
 intro nA s σ H Q I h;refine jS (vm I gl ml boot_list ?_ (by decide) (by decide))
 refine bo ?_ O (by rfl)
 rw[O];show jj _ _ (mU ((false,eval (.Call (.Name "reversed" p) [e] [] pos) X.env)::kC x (jv [] X.env))) _ _ s;refine Calls.spliced_cons ?_;refine Call_ (vm I hg hm boot_reversed (bo (sv (ha pos nA s σ H _ I h) λus t B=>?_) hs rfl))
 obtain⟨vs,H1,z,r1,q1⟩:=B;obtain⟨a,P,e1,hq,q⟩:=q1;subst e1;obtain⟨u,rfl,ru⟩:=wQ r1;cases ru;obtain⟨l,R,C,hz⟩:=z.list hq;have S:=R.length;have E:Heap.IsRevIter (t.heap.push (PySem.revObj a ((l.toArray.size:Int)-1))) t.heap.objs.size a ((l.toArray.size:Int)-1):=⟨_,aL _ rfl,rfl,rfl⟩;have G:a<t.heap.objs.size:=let ⟨_,ho,_⟩:=C.isList;ae ho
 refine PySem.call_reversed_list C.isList (Calls.spliced_nil ?_);refine ND (s:={ t with heap:=t.heap.push (PySem.revObj a ((l.toArray.size:Int)-1)) }) (z.ok.hd hc) (aq G) E (C.isList.at λo e=>aj _ e) (by simp only[aA];lia) λh' tk n c hk U r=>?_
 have y:(t.heap.push (PySem.revObj a ((l.toArray.size:Int)-1))).objs.size=t.heap.objs.size+1:=by first|rfl|simp[Heap.push]
 have J:n.toList=l.reverse:=by
  refine dC λj=>?_
  by_cases hj:j<l.length
  .have L:n.size=l.length:=by rw[r.1];simp
   have h1:n[j]?=some n[j]:=br (by lia)
   have h2:=r.2 j _ h1;unfold Y2 at h2;rw[fF hj,dr,h1,←h2];simp
  .have L:n.size=l.length:=by rw[r.1];simp
   rw[bb (by rw[bI];lia),bb (by rw[cH];lia)]
 rw[y]at U;refine⟨.ref (t.heap.objs.size+1),qG H1 (t.heap.objs.size+1) (.lst P.reverse),z.laid (t':=tk) (λb o e=>hk b o (aq (ae e)) (aj _ e)) (bR _) (show qT X.prog X.w _ h' _ (.lst P.reverse) from ⟨by rw[cH];exact hz,n.toList,c,by rw[J];exact R.reverse,by simpa using U⟩),by rw[y];rfl,q _ (z.hok.fresh (bR _))⟩
end
end Mr
namespace Z
open PySem L2 Mr
noncomputable def Ln(l:ML):MK:=λS=>(l S).map λx=>(.ow (x.1.reverse.map .sh),x.2)
section
variable {K:W.Frag}{te:TE}{l:ML}
theorem Sj(hl:SQ K te l):SK K (Hh (UA K) (tP te wM)) (Ln l):=by
 intro H₀ r J S σ H L M O R e Q q;obtain⟨x,y,e⟩:=oMq.mp e;cases e;refine hl R (ds:=x.1) (S':=x.2) y _ λz P Fs1 B n s t h1 C=>⟨B,n,rfl,h1,λp u=>?_⟩
 obtain⟨E,G,I,U,X⟩:=t.new (o:=.lst n.reverse) u;exact q _ _ _ (.ref p) [p] (s.trans E) G (oZ.new oC I C.reverse) ((xN.one t u).back s)
end
theorem UZ(l:ML) (S:AS):Ln l S=(l S).map λx=>(.ow (x.1.reverse.map .sh),x.2):=rfl
end Z
namespace HT
open PySem PyProof.Rows
open PySem.SeqAt
open PySem.AutoSeq1 (wpAny_loadPart')
open PySem.MeetsSeq PySem.MeetsSeq2 PySem.MeetsSeq3
def xG:List (List Int)->List (List Int)->Bool
 |_,[]=>false
 | [],_::_=>true
 |x::xs,y::ys=>if x=y then xG xs ys else qw x y
theorem Cf:∀xs ys:List (List Int),xG xs ys=true->xG ys xs=false
 |xs,[],h=>by cases xs <;> cases h
 | [],y::ys,_=>rfl
 |x::xs,y::ys,h=>by
  rw[xG]at h ⊢
  by_cases e:x=y
  .rw [pQ e]at h;rw[pQ e.symm];exact Cf xs ys h
  .rw [qk e]at h;rw[qk (λq=>e q.symm)]
   exact Mr.zz _ _ h
theorem FA:∀xs ys:List (List Int),xG xs ys=false->xG ys xs=false->xs=ys
 | [],[],_,_=>rfl
 | [],y::ys,h,_=>by cases h
 |x::xs,[],_,h=>by cases h
 |x::xs,y::ys,h1,h2=>by
  rw[xG]at h1 h2
  by_cases e:x=y
  .rw [pQ e]at h1;rw[pQ e.symm]at h2;rw[e,FA xs ys h1 h2]
  .rw [qk e]at h1;rw[qk (λq=>e q.symm)]at h2
   exact absurd (Mr.Bv _ _ h1 h2) e
theorem A5:∀xs ys n:List (List Int),xG ys xs=false->xG n ys=false->xG n xs=false
 | [],ys,n,_,_=>by cases n <;> rfl
 |x::xs,[],n,h1,_=>by cases h1
 |x::xs,y::ys,[],_,h2=>by cases h2
 |x::xs,y::ys,z::n,h1,h2=>by
  rw[xG]at h1 h2 ⊢
  by_cases r:y=x
  .rw [pQ r]at h1
   by_cases l:z=y
   .rw [pQ l]at h2;rw[pQ (l.trans r)];exact A5 xs ys n h1 h2
   .rw [qk l]at h2;rw[qk (by rw[←r];exact l),←r]
    exact h2
  .rw [qk r]at h1
   by_cases l:z=y
   .rw [qk (by rw[l];exact r),l]
    exact h1
   .rw [qk l]at h2
    by_cases s:z=x
    .rw [s]at h2;exact absurd (Mr.Bv _ _ h1 h2) r
    .rw [qk s];exact Mr.ye _ _ _ h1 h2
end HT
namespace Mr
open PySem PySem.Spec PyProof.Rows L2
def Rn(x y:List (List Int)):Bool:=!HT.xG y x
def BY(ms:List (List (List Int))):List (List (List Int)):=ms.mergeSort Rn
theorem wA(ms:List (List (List Int))):(BY ms).Perm ms:=fU _ _
theorem MN(x y z:List (List Int)) (h1:Rn x y=true) (h2:Rn y z=true):Rn x z=true:=by
 unfold Rn at *;rw[gh]at *;exact HT.A5 _ _ _ h1 h2
theorem M3(x y:List (List Int)):(Rn x y || Rn y x)=true:=by
 unfold Rn;cases h:HT.xG y x with
 |false=>rfl
 |true=>rw[HT.Cf _ _ h];rfl
theorem CH(ms:List (List (List Int))):(BY ms).Pairwise (λx y=>HT.xG y x=false):=by
 have:=fi (le:=Rn) (λa b c=>MN a b c) (λa b=>M3 a b) ms
 exact this.imp λh=>by unfold Rn at h;rwa [gh]at h
theorem LU{xs ms:List (List (List Int))}(l:xs.Perm ms) (h:xs.Pairwise (λx y=>HT.xG y x=false)):xs=BY ms :=
 dU.eq_of_pairwise (λa b _ _ n r=>HT.FA a b r n) h (CH ms) (l.trans (wA ms).symm)
def ZH(r:Addr->List (List Int)) (x y:jq):Bool:=match x.1,y.1 with
 | .ref p,.ref q=>HT.xG (r p) (r q)
 |_,_=>false
end Mr
namespace Z
open PySem L2 Mr
def Zy(d c:D):AV->Option AV
 | .ow (.ow bs::oY)=>uu (bs.length<qK/\oY.length+1<qK) (some (.ow (.ow (bs++[.sh d])::oY++[.ow [.sh c]])))
 |_=>none
end Z
namespace Z
open PySem L2 Mr Xe
def Tt(f:D->D->Option D) (m b:ME):ME:=λS=>(m S).bind λx=>(b x.2).bind λy=>(f x.1 y.1).bind λd=>if d.scal then some (d,y.2) else none
def R7(i:Nat) (g:Int->Int->Int) (b:ME):MS:=λS=>(nC i S).bind λx=>(intOf x.1).bind λa=>(b x.2).bind λy=>(intOf y.1).map λc=>.nx (y.2.set i (some (.sh (.int (g a c)))))
def Kz(i:Nat) (pf:MP) (n:ME):MS:=λS=>(pf S).bind λx=>(rh x.2 i).bind λl=>(qg (.ow l) x.1).bind λas=>(n (x.2.set i none)).bind λy=>uu (y.2[i]?=some none/\as.length<qK) (some (.nx (y.2.set i (some (uC (.ow l) x.1 (as++[.sh y.1]))))))
def ZJ(g:MF) (f:Z4) (a:MA):MX:=λS=>(a S).bind λx=>(f (x.1.map oa)).bind (Yi λr=>(g [oa r]).map λz=>.ok (.rt z))
section
variable {K:W.Frag}
theorem IH{d:D}{z:Int}(h:intOf d=some z):d = .int z:=by
 cases d <;> first|(cases h;rfl)|cases h
theorem Xv{r:R2}{f:D->D->Option D}{n s:TE}{m b:ME}(hr:Fv K r f) (B:SM K n m) (C:SR K s b):SM K (Sr r n s) (Tt f m b):=by
 intro H₀ l Y S σ H Fs d S' R e Q q;obtain⟨x,E,e⟩:=oBq.mp e;obtain⟨y,G,e⟩:=oBq.mp e;obtain⟨z,I,e⟩:=oBq.mp e;split at e
 .rename_i J;cases e;refine B R (d:=x.1) (S':=x.2) E _ λL H1 Fs1 v1 M t O=>C t (d:=y.1) (S':=y.2) G _ λP H2 Fs2 v2 u R2 U=>?_
  exact hr ((O.mono t.sub).mono u.sh) U I λv X=>q _ _ _ v (M.trans u.sf) R2 (X.scal J)
 .cases e
theorem Wg{i:Nat}{g:Int->Int->Int}{te:TE}{b:ME}(u:SR K te b):SS K (X9 i te (YM g)) (R7 i g b):=by
 intro H₀ l Q S σ H U o R e D hd;obtain⟨x,B,e⟩:=oBq.mp e;obtain⟨a,C,e⟩:=oBq.mp e;obtain⟨y,E,e⟩:=oBq.mp e;obtain⟨c,G,e⟩:=oMq.mp e;cases e;refine nv i R (d:=x.1) (S':=x.2) B (λv n=>te σ n λw r=>YM g v w r λz I=>D.nx (σ.set i (some z)) I) λJ n Fs1 v L M s=>?_
 refine u M (d:=y.1) (S':=y.2) E _ λO r Fs2 w P R2 t=>?_
 rw[IH C]at s;rw[IH G]at t;cases s;cases t;exact⟨a,c,rfl,rfl,hd _ _ _ _ (L.sf.trans P.sf) (R2.setD i .int)⟩
theorem OG{i:Nat}{J te:TE}{pf:MP}{L:ME}(U:WG K i J pf) (X:SM K te L):SS K (Aw (Ov K "list" Al J (tP te wM))) (Kz i pf L):=by
 intro H₀ B Hf S σ H Fs o R e D h;obtain⟨x,Y,e⟩:=oBq.mp e;obtain⟨l,e2,e⟩:=oBq.mp e;obtain⟨as,C,e⟩:=oBq.mp e;obtain⟨y,e4,e⟩:=oBq.mp e;rcases oT e with ⟨⟨hn,hl⟩,e⟩|e
 .cases e;refine U R (path:=x.1) (S':=x.2) Y _ λHf1 H1 Fs1 v w t1 t z n=>?_
  have s:=pE e2;obtain⟨p,vs,rfl,h1,h2⟩:=Ai t s z C n;obtain⟨v',F,M,O,r,nd,oo,_⟩:=t.move s;rw[z]at M;cases M;refine⟨.inl ⟨rfl,vs,qV.of h1⟩,X (t.frame O) (d:=y.1) (S':=y.2) e4 _ λHf2 H2 Fs2 u P R2 r2=>?_⟩
  obtain⟨k1,k2,R3⟩:=t.unframe O r nd (λq E=>(oo q E).1) R2 hn z P
  have G:i<y.2.length:=(gSq.mp hn).1;have e5:(y.2.set i (some (.ow l)))[i]?=some (some (.ow l)):=aQ G;obtain⟨I,g1,g2,g3⟩:=R3.grow e5 z C (n.kept r C k1);obtain⟨Fs',Q⟩:=g3 [.sh y.1] [u] [[]] (pb.nil.snoc (.sh r2)) (by simp) (λq E=>by simp at E)
  rw[fQ]at Q;exact⟨p,I,u,rfl,rfl,g1,by rw[vp,←g2];exact hl,h _ _ _ _ (t1.sf.trans P) Q⟩
 .cases e
end
theorem Xl(S:AS) (f:D->D->Option D) (m b:ME):Tt f m b S=(m S).bind λx=>(b x.2).bind λy=>(f x.1 y.1).bind λd=>if d.scal then some (d,y.2) else none:=rfl
theorem XE(S:AS) (i:Nat) (g:Int->Int->Int) (b:ME):R7 i g b S=(nC i S).bind λx=>(intOf x.1).bind λa=>(b x.2).bind λy=>(intOf y.1).map λc=>.nx (y.2.set i (some (.sh (.int (g a c))))):=rfl
theorem T6(S:AS) (i:Nat) (pf:MP) (n:ME):Kz i pf n S=(pf S).bind λx=>(rh x.2 i).bind λl=>(qg (.ow l) x.1).bind λas=>(n (x.2.set i none)).bind λy=>uu (y.2[i]?=some none/\as.length<qK) (some (.nx (y.2.set i (some (uC (.ow l) x.1 (as++[.sh y.1])))))):=rfl
def zqg:=ab @Xl (ab @XE @T6)
noncomputable def Gr(l:ML):MK:=λS=>(l S).map λx=>(.sh (.tup x.1),x.2)
section
variable {K:W.Frag}
theorem Jk{te:TE}{l:ML}(hl:SQ K te l):SK K (Hh (λxs H Q=>∃p ys,xs=[.ref p]/\((qV K H p ys/\∀l,H l=none->Q (.ref l) (qG H l (.tup ys)))∨(EO K H p ys/\Q (.ref p) H))) (tP te wM)) (Gr l):=by
 intro H₀ r I S σ H J L M R e Q q;obtain⟨x,t,e⟩:=oMq.mp e;cases e;refine hl R (ds:=x.1) (S':=x.2) t _ λu O Fs1 y n z B h1 C=>⟨y,n,rfl,.inl ⟨h1,λp E=>?_⟩⟩
 obtain⟨s,G⟩:=B.layF (o:=.tup n) E;exact q _ _ _ (.ref p) [] (z.trans s) G (.sh (.mk_tup oC (C.mono s.sf))) .nil
end
theorem Ru(S:AS) (l:ML):Gr l S=(l S).map λx=>(.sh (.tup x.1),x.2):=rfl
def zqh:=@Ru
def Tg:=ab zq (ab zq6 (ab Z9 (ab zqd (ab zqe (ab zqf (ab zqg (zqh)))))))
end Z
local macro_rules | `(tactic| simp_arith [$ls,*]) => `(tactic| simp -implicitDefEqProofs only [Z.Tg,de,dg,cz,cA,bJ,↓reduceIte,reduceCtorEq,$ls,*])
namespace HT
open PySem PyProof.Rows
open PySem.SeqAt
open PySem.AutoSeq1 (wpAny_loadPart')
open PySem.MeetsSeq PySem.MeetsSeq2 PySem.MeetsSeq3
def YH(A:Around) (s:Shared) (op:CmpOp) (y x:Value) (b:Bool):Prop:=∀(P:jo) (w:jt) (E Q:Value->Shared->Prop),Q (.bool b) s->jj (jm P w) A (mV op y x) Q E s
def tRow(r:List Int):PyData:=.tuple (r.map .int)
theorem Pu(r t:List Int):PyData.eqv (tRow r) (tRow t)=decide (r=t):=by
 rw[←same_eq_eqv _ _ (by simp[tRow,SeqAt.noMix,W.noMix_ints r t])]
 simp[tRow,PySem.Spec.same,W.same_ints r t]
def vU(h:Heap) (q:Addr) (r:List Int):Prop:=∃vs:List Value,h.IsTuple q vs.toArray/\jB vs r
theorem vU.reads{h:Heap}{q:Addr}{r:List Int}(t:vU h q r):Reads h (.ref q) (tRow r) []:=by
 obtain⟨x,⟨o,l,s,n,hd⟩,u⟩:=t;exact Reads.tuple l s hd (by simpa using W.readsAll_of_ints u)
theorem vU.eq{A:Around}{s:Shared}{q l:Addr}{r r':List Int}(h:vU s.heap q r) (h':vU s.heap l r') (n:A.units+4<jD):EqAt A s (.ref q) (.ref l) (decide (r=r')):=by
 rw[←Pu];have t:=W.depthAll_ints r;refine eqAt_reads (tRow r) (tRow r') A s (.ref q) (.ref l) [] [] h.reads h'.reads (by simp[tRow,PyData.canLay0,W.canLayAll0_ints r]) (by simp[tRow,PyData.canLay0,W.canLayAll0_ints r']) ?_
 have:(tRow r).depth<=2:=by simp only[tRow,PyData.depth];lia
 lia
theorem vU.lt{A:Around}{s:Shared}{q l:Addr}{r r':List Int}(h:vU s.heap q r) (h':vU s.heap l r') (x:A.units+4<jD):YH A s .Lt (.ref q) (.ref l) (qw r r'):=by
 obtain⟨n,h1,h2⟩:=h;obtain⟨t,u,g2⟩:=h';exact λP w E Q z=>JQ (items:=n.toArray) (items2:=t.toArray) h1 u h2 g2 (by lia) z
theorem vU.keep{h h':Heap}{q:Addr}{r:List Int}(k:∀b o,h.get? b=some o->h'.get? b=some o) (t:vU h q r):vU h' q r:=by
 obtain⟨l,⟨o,n,oY⟩,s⟩:=t;exact⟨l,⟨o,k _ _ n,oY⟩,s⟩
end HT
namespace Mr
open PySem L2
open PySem.Spec PyProof.Rows
section
variable {X:Cx}
theorem noMix_C:∀rs l:List (List Int),SeqAt.noMixAll (rs.map HT.tRow) (l.map HT.tRow)=true
 | [],[]=>by simp[SeqAt.noMixAll]
 | [],_::_=>by simp[SeqAt.noMixAll]
 |_::_,[]=>by simp[SeqAt.noMixAll]
 |r::rs,t::l=>by simp[SeqAt.noMixAll,HT.tRow,SeqAt.noMix,W.noMix_ints r t,noMix_C rs l]
theorem same_C:∀rs l:List (List Int),PySem.Spec.sameAll (rs.map HT.tRow) (l.map HT.tRow)=decide (rs=l)
 | [],[]=>by simp[PySem.Spec.sameAll]
 | [],_::_=>by simp[PySem.Spec.sameAll]
 |_::_,[]=>by simp[PySem.Spec.sameAll]
 |r::rs,t::l=>by
  simp only[ax,PySem.Spec.sameAll,HT.tRow,PySem.Spec.same,W.same_ints r t];rw[same_C rs l]
  by_cases h:r=t <;> simp[h]
end
end Mr
namespace Z
open PySem L2 Mr Xe
def qW:List D->Option (List (List Int))
 | []=>some []
 | .tup es::ds=>(qC es).bind λr=>(qW ds).map (r :: ·)
 |_=>none
theorem wO:∀{ds:List D}{c:List (List Int)},qW ds=some c->ds=c.map λr=>.tup (r.map .int)
 | [],c,h=>by cases h;rfl
 |d::ds,c,h=>by
  cases d with
  |tup l =>
   obtain⟨r,h1,h⟩:=oBq.mp h;obtain⟨n,h2,rfl⟩:=oMq.mp h;rw[wO h2,sY h1];rfl
  |_=>cases h
theorem qM:∀c:List (List Int),qW (c.map λr=>.tup (r.map .int))=some c
 | []=>rfl
 |r::c=>by
  show (qC (r.map .int)).bind _=_;rw[qR,iD,qM c];rfl
end Z
namespace Ms
open PySem PyProof.Rows Mr
noncomputable def YS(F:List Int) (k:Int):List Int:=if k∈F then F else F++[k]
def dd(ns:List Int):List Int:=ns.foldl YS []
def SA(h:Heap) (a:Addr) (es:Array (Int×Value)) (ep:Nat) (t:SetTable):Prop:=∃o,h.get? a=some o/\o.ExactSet/\o.data = .set es ep t
end Ms
namespace Mo
open PySem PyProof.Rows Mr
theorem NL:entryFor table "zip.__getattribute__" = some Builtin.«object.__getattribute__»:=entryFor_alias (id' := "object.__getattribute__") (by kernel_rfl) (by decide +kernel) (by decide +kernel) (by kernel_rfl)
theorem Qi:jZ (.type "zip") "__getattr__" = pure none:=by rw[jU,jG];kernel_rfl
theorem JM:jZ (.type "zip") "keys" = pure none:=by rw[jU,jG];kernel_rfl
section
variable {prog:jo}{w:jt}{A:Around}{E:Value->Shared->Prop}{s:Shared}
theorem Hr(z:Addr) (fs:Array Value) (u:Tok):Meets (Builtin.«object.__getattribute__» ⟨[.ref z,.str "keys" u],[]⟩) (λA R s=>s.heap.get? z=some { cls:=.type "zip", dict:=none,data:=.fields fs,slots:=#[] }/\raisesAttr (.ref z) "keys" A R s) :=
 Meets.of_wp λprog w A R s l=>by
  obtain⟨r,g,d,t,os⟩:=s;obtain⟨x,l⟩:=l;have y:(⟨r,g,d,t,os⟩:Shared).TypeIs (.ref z) "zip" := ⟨_,x,rfl⟩;have B:=JM;have n:(["__module__", "__name__", "__qualname__", "__doc__", "__annotations__"]:List Str).contains "keys" = false:=by decide +kernel
  unfold Builtin.«object.__getattribute__»
  repeat (any_goals (first|assumption|wp_step))
  exact wpAny_raiseAttrError l.1 l.2 (attrMsg_fits (by decide +kernel) (by size_fits))
end
section
variable {prog:jo}{w:jt}{A:Around}{E:Value->Shared->Prop}{s:Shared}
theorem S6{z:Addr}{fs:Array Value}{u:Tok}{Q:Value->Shared->Prop}(r:s.heap.get? z=some { cls:=.type "zip", dict:=none,data:=.fields fs,slots:=#[] }) (y:A.handled=none)
  (h:∀h' t e,iW s.heap h' e "AttributeError" -> E (.ref e) { s with heap:=h',toks:=t }):jj (jm prog w) A (mT (.ref z) (.str "keys" u) false) Q E s:=by
 obtain⟨B,g,d,t,os⟩:=s;have x:∀l,(⟨B,g,d,l,os⟩:Shared).TypeIs (.ref z) "zip" := λ_=>⟨_,r,rfl⟩
 have C:=kx;have G:=F.slot_zip_getattribute.lookup;have H:=F.slot_zip_getattribute.bind (.ref z);have I:=Qi;unfold mT
 repeat (any_goals (first|assumption|exact x _|((with_reducible show jj _ _ (call (iX "zip.__getattribute__") _ _) _ _ _);refine ki F.slot_zip_getattribute (x _) NL (F.args_zip_getattribute_2 _ _) (Hr z fs _) ⟨r,y,λh' l e n=>?_⟩)|wp_step))
 obtain⟨J,L,M⟩:=n.there;show jj _ _ (ky _ _ _ _ _ _ _) _ _ _;unfold ky
 repeat (any_goals (first|assumption|wp_step))
 exact h _ _ _ n.of
theorem Sf{z:Addr}{fs:Array Value}{Q:Option Value->Shared->Prop}(x:s.heap.get? z=some { cls:=.type "zip", dict:=none,data:=.fields fs,slots:=#[] }) (y:A.handled=none)
  (h:∀h' n,(∀b o,s.heap.get? b=some o->h'.get? b=some o)->Q none { s with heap:=h',toks:=n }):jj (jm prog w) A (getAttr? (.ref z) "keys") Q E s:=by
 unfold getAttr? getAttrBy?;obtain⟨B,g,d,n,os⟩:=s;have r:=kx
 repeat (any_goals (first|assumption|(with_reducible refine S6 (fs:=fs) ?_ ?_ ?_)|wp_step))
 intro h' l e q;obtain⟨o,k,t,u,_⟩:=q.there;refine ji (kO (T := "AttributeError") (b:=true) ⟨_,t,u⟩ r ?_);exact jk (h h' l q.keeps)
end
abbrev VQ(h:Heap) (z TI TO T:Addr) (b:Bool):Prop:=h.get? z=some { cls:=.type "zip", dict:=none,data:=.fields #[mD T,.bool b,.bool false,.ref TI,.ref TO],slots:=#[] }
section
variable {prog:jo}{w:jt}{A:Around}{E:Value->Shared->Prop}{s:Shared}
theorem Ir{a:Addr}{o:Obj}{Q:Option Obj->Shared->Prop}(l:s.heap.get? a=some o) (h:Q (some o) s):jj (jm prog w) A (loadIfAlive a) Q E s:=λΓ p n=>by
 unfold loadIfAlive;rw[Sem.wp_loadIfAlive,l];exact h
theorem HR{z TI TO T:Addr}{b:Bool}{o:Obj}{Q:Bool->Shared->Prop}(l:VQ s.heap z TI TO T b) (t:s.heap.get? T=some o)
  (h:∀h',VQ h' z TI TO T true->fg z s.heap h'->Q false { s with heap:=h' }):jj (jm prog w) A (Builtin.SmallTypes.ownedTupleIsFree (.ref z)) Q E s:=by
 unfold Builtin.SmallTypes.ownedTupleIsFree;refine ji (kJ l rfl (x:=mD T) rfl ?_);refine ji (Ir (a:=T) t ?_);refine ji (kJ l rfl (x:=.bool b) rfl ?_);cases b with
 |true=>exact ji (jk (jk (h s.heap l ⟨rfl,λ_ _=>rfl⟩)))
 |false =>
  refine ji ?_;exact wpAny_setField_rec l (by simp) λh1 n r=>jk (h h1 n r)
theorem UL{z TI TO l n l1 l2 T:Addr}{b:Bool}{o:Obj}{k:Nat}{xs ys:Array Value}{x y:Value}{Q:Value->Shared->Prop}(D:jY z TI TO l n l1 l2) (G:VQ s.heap z TI TO T b) (X:s.heap.get? T=some o)
  (H:km s.heap TI (.ref l) (.ref n)) (h1:s.heap.IsListIter l l1 k) (h2:s.heap.IsListIter n l2 k) (I:s.heap.IsList l1 xs) (J:s.heap.IsList l2 ys) (Y:xs[k]?=some x) (hy:ys[k]?=some y)
  (hQ:∀h',VQ h' z TI TO T true->h'.IsListIter l l1 (k+1)->h'.IsListIter n l2 (k+1)->km h' s.heap.objs.size x y->h'.objs.size=s.heap.objs.size+1->(∀c o,c≠z->c≠l->c≠n->s.heap.get? c=some o->h'.get? c=some o)->Q (.ref s.heap.objs.size) { s with heap:=h' }) :
  jj (jm prog w) A (Builtin.«zip.__next__» ⟨[.ref z],[]⟩) (λL s'=>∃v,L = .done (.ret v)/\Q v s') E s:=by
 show jj _ _ (field (.ref z) 2 >>= _) _ _ _;refine ji (kJ G rfl (x:=.bool false) rfl ?_);show jj _ _ (field (.ref z) 3 >>= _) _ _ _;refine ji (kJ G rfl (x:=.ref TI) rfl ?_);refine ji (kE H rfl ?_);show jj _ _ (Builtin.SmallTypes.ownedTupleIsFree (.ref z) >>= _) _ _ _;refine ji (HR G X λg1 M t=>?_)
 simp only[cQ,if_false];refine ji ?_;rw[ib];simp only[iI,iP];refine ji (ji (jA ?_));show jj _ _ (Builtin.SmallTypes.nextOf (.ref l) >>= _) _ _ _;refine ji (lW (h1.extBut t.extBut D.i1z) (I.extBut t.extBut D.l1z) Y λg2 q2 u=>jk ?_)
 refine jk ?_;refine ji (ji (jA ?_));show jj _ _ (Builtin.SmallTypes.nextOf (.ref n) >>= _) _ _ _;refine ji (lW ((h2.extBut t.extBut D.i2z).extBut u.extBut D.i12.symm) ((J.extBut t.extBut D.l2z).extBut u.extBut D.l2i1) hy λB q3 C=>jk ?_)
 refine jk (jk ?_);refine ji (mn ?_ (by show 2<=jn;rw[jy];decide))
 have r:B.objs.size=s.heap.objs.size:=by rw[C.1,u.1,t.1]
 have O:VQ B z TI TO T true:=C.extBut _ _ D.i2z.symm (u.extBut _ _ D.i1z.symm M);have P:B.IsListIter l l1 (k+1):=q2.extBut C.extBut D.i12;have kp:∀c o,c≠z->c≠l->c≠n->s.heap.get? c=some o->B.get? c=some o:=λc o R S U e=>C.extBut _ _ U (u.extBut _ _ S (t.extBut _ _ R e))
 refine jk ⟨_,rfl,?_⟩;show Q (.ref B.objs.size) _;rw[r];exact hQ _ (aj _ O) (P.at λo e=>aj _ e) (q3.at λo e=>aj _ e) (by rw[←r];exact aL _ rfl) (by rw[iN,r]) λc o R S U e=>aj _ (kp c o R S U e)
end
section
variable {prog:jo}{w:jt}{A:Around}{E:Value->Shared->Prop}{s:Shared}
theorem XG{z TI TO l y l1 l2 T:Addr}{b:Bool}{o:Obj}{k:Nat}{xs:Array Value}{Q:Fin->Shared->Prop}(hh:A.handled=none) (D:jY z TI TO l y l1 l2) (n:VQ s.heap z TI TO T b) (B:s.heap.get? T=some o)
  (r:km s.heap TI (.ref l) (.ref y)) (h1:s.heap.IsListIter l l1 k) (t:s.heap.IsList l1 xs) (C:xs[k]?=none)
  (G:∀h' e,(∀c o,c≠z->c≠l->s.heap.get? c=some o->h'.get? c=some o)->(∃o,h'.get? e=some o/\o.cls = .type "StopIteration")->E (.ref e) { s with heap:=h' }) :
  jj (jm prog w) A (Builtin.«zip.__next__» ⟨[.ref z],[]⟩) Q E s:=by
 show jj _ _ (field (.ref z) 2 >>= _) _ _ _;refine ji (kJ n rfl (x:=.bool false) rfl ?_);show jj _ _ (field (.ref z) 3 >>= _) _ _ _;refine ji (kJ n rfl (x:=.ref TI) rfl ?_);refine ji (kE r rfl ?_);show jj _ _ (Builtin.SmallTypes.ownedTupleIsFree (.ref z) >>= _) _ _ _;refine ji (HR n B λO H u=>?_)
 simp only[cQ,if_false];refine ji ?_;rw[ib];simp only[iI,iP];refine ji (ji (jA ?_));show jj _ _ (Builtin.SmallTypes.nextOf (.ref l) >>= _) _ _ _;refine ji (wpAny_nextOf_list_end hh (h1.extBut u.extBut D.i1z) (t.extBut u.extBut D.l1z) C λg2 e I J=>?_)
 exact G g2 e (λc o L M q=>I _ _ M (u.extBut _ _ L q)) J
structure Og (h:Heap) (z TI TO i1 i2 l1 l2 d:Addr) (k:Nat) (xs ys:Array Value):Prop where
 f:IsZip h z TI TO .none∨∃T b o,VQ h z TI TO T b/\h.get? T=some o/\T≠z/\T≠TO/\T≠i1/\T≠i2/\T≠d
 ti:km h TI (.ref i1) (.ref i2)
 to:∃a b,km h TO a b
 h1:h.IsListIter i1 l1 k
 h2:h.IsListIter i2 l2 k
 l1:h.IsList l1 xs
 l2:h.IsList l2 ys
theorem Og.ty{z TI TO l n l1 l2 d:Addr}{k:Nat}{xs ys:Array Value}(S:Og s.heap z TI TO l n l1 l2 d k xs ys):s.TypeIs (.ref z) "zip" := by
 rcases S.f with h|⟨_,_,_,h,_⟩
 .exact ⟨_,h,rfl⟩
 .exact ⟨_,h,rfl⟩
theorem Xs{z TI TO r t l1 l2 d:Addr}{k:Nat}{xs ys:Array Value}{x y:Value}{Q:Option Value->Shared->Prop}(D:jY z TI TO r t l1 l2) (hd:d<s.heap.objs.size) (S:Og s.heap z TI TO r t l1 l2 d k xs ys) (M:xs[k]?=some x) (O:ys[k]?=some y)
  (P:∀h' T,Og h' z TI TO r t l1 l2 d (k+1) xs ys->km h' T x y->(∀c o,c≠z->c≠TO->c≠r->c≠t->s.heap.get? c=some o->h'.get? c=some o)->Q (some (.ref T)) { s with heap:=h' }) :
  jj (jm prog w) A (kj (.ref z)) Q E s:=by
 obtain⟨a,b,n⟩:=S.to;have R:l1≠z/\l1≠TO/\l1≠r/\l1≠t:=⟨D.l1z,D.l1TO,D.l1i1,D.l1i2⟩;have zl:z<s.heap.objs.size:=by
  rcases S.f with h|⟨_,_,_,h,_⟩
  .exact ae h
  .exact ae h
 have B:r<s.heap.objs.size:=by obtain⟨_,q,_⟩:=S.h1;exact ae q
 have C:t<s.heap.objs.size:=by obtain⟨_,q,_⟩:=S.h2;exact ae q
 have G:TO<s.heap.objs.size:=ae n;rcases S.f with H|⟨T,f1,o,H,U,X,n2,Y,n4,n5⟩
 .refine kR D H S.ti n S.h1 S.h2 S.l1 S.l2 M O λh' I a2 J L u a6 l=>P h' _ ⟨.inr ⟨_,_,_,I,u,aR zl,aR G,aR B,aR C,aR hd⟩,l _ _ D.TIz D.TITO D.TIi1 D.TIi2 S.ti,⟨_,_,a2⟩,J,L,S.l1.at λo q=>l _ _ D.l1z D.l1TO D.l1i1 D.l1i2 q,S.l2.at λo q=>l _ _ D.l2z D.l2TO D.l2i1 D.l2i2 q⟩ u l
 .have hT:=S.ty;unfold kj;refine ji (lD (kG (name:=Str.ofString "__next__") hT F.slot_zip_next (jR F.slot_zip_next hT F.entry_zip_next (UL D H U S.ti S.h1 S.h2 S.l1 S.l2 M O λh' I J L u a6 l=>jk (P h' _ ?_ u λc o c1 _ c3 c4 q=>l c o c1 c3 c4 q)) (F.args_zip_next_1 _))))
  exact⟨.inr ⟨T,true,o,I,l _ _ X Y n4 U,X,n2,Y,n4,n5⟩,l _ _ D.TIz D.TIi1 D.TIi2 S.ti,⟨a,b,l _ _ D.TOz D.TOi1 D.TOi2 n⟩,J,L,S.l1.at λo q=>l _ _ D.l1z D.l1i1 D.l1i2 q,S.l2.at λo q=>l _ _ D.l2z D.l2i1 D.l2i2 q⟩
theorem UG{z TI TO l n l1 l2 d:Addr}{k:Nat}{xs ys:Array Value}{Q:Option Value->Shared->Prop}(hh:A.handled=none) (D:jY z TI TO l n l1 l2) (S:Og s.heap z TI TO l n l1 l2 d k xs ys) (u:xs[k]?=none)
  (x:∀h',(∀c o,c≠z->c≠TO->c≠l->c≠n->s.heap.get? c=some o->h'.get? c=some o)->Q none { s with heap:=h' }) :
  jj (jm prog w) A (kj (.ref z)) Q E s:=by
 obtain⟨a,b,r⟩:=S.to;rcases S.f with t|⟨T,O,o,t,B,_⟩
 .exact mG hh D t S.ti r S.h1 S.h2 S.l1 S.l2 (.inl u) x
 .have y:=S.ty;unfold kj;refine ji (lD (kG (name:=Str.ofString "__next__") y F.slot_zip_next (jR F.slot_zip_next y F.entry_zip_next (XG hh D t B S.ti S.h1 S.l1 u λh' e C G=>?_) (F.args_zip_next_1 _))))
  obtain⟨H,I,J⟩:=G;refine ji (kO (T := "StopIteration") (b:=true) ⟨H,I,J⟩ isSubtype_stop ?_);exact jk (x _ λc o L _ M _ q=>C c o L M q)
theorem Am:entryFor table "dict.update.loop" = some Builtin.«dict.update.loop»:=entryFor_of_tree (by kernel_rfl)
theorem uD:plainId "dict.update.loop" = true:=by decide +kernel
end
section
variable {K:Type} [DecidableEq K]
noncomputable def fz(ks:List K) (ws:List Value) (j:Nat):List (K×Value):=((ks.zip ws).take j).foldl (λm p=>lg m p.1 p.2) []
theorem L0{ks:List K}{ws:List Value}{j:Nat}{k:K}{v:Value}(h1:ks[j]?=some k) (h2:ws[j]?=some v):fz ks ws (j+1)=lg (fz ks ws j) k v:=by
 unfold fz;have:(ks.zip ws)[j]?=some (k,v):=cL.mpr ⟨h1,h2⟩;rw[eC,this,fZ,eD];rfl
theorem JS(m:List (K×Value)) (k:K) (v:Value):(lg m k v).length<=m.length+1:=by
 unfold lg;split
 .rw [lMq];lia
 .rw [lAq];exact ai _
theorem fold_len:∀(l:List (K×Value)) (m:List (K×Value)),(l.foldl (λm p=>lg m p.1 p.2) m).length<=m.length+l.length
 | [],m=>ai _
 |p::l,m=>by
  have:=fold_len l (lg m p.1 p.2);have:=JS m p.1 p.2;rw[bB,lCq];lia
theorem Pi(ks:List K) (ws:List Value) (j:Nat):(fz ks ws j).length<=j:=by
 have:=fold_len ((ks.zip ws).take j) [];have h2:((ks.zip ws).take j).length<=j:=by rw[lTq];lia
 unfold fz;rw[cg]at this;lia
end
section
variable {prog:jo}{w:jt}{A:Around}{E:Value->Shared->Prop}{s:Shared}{K:Type} [DecidableEq K] {knd:KeyKind prog w K}{R:mE->Shared->Prop}{z TI TO i1 i2 l1 l2 d:Addr}{us ws:List Value}{ks:List K}
theorem Og.keep{h h':Heap}{k:Nat}{xs ys:Array Value}(S:Og h z TI TO i1 i2 l1 l2 d k xs ys) (nd:∀c∈[z,TI,TO,i1,i2,l1,l2],c≠d) (kp:gR d h h'):Og h' z TI TO i1 i2 l1 l2 d k xs ys:=by
 have q:=λc t o=>kp c o (nd c t)
 obtain⟨a,b,l⟩:=S.to;refine⟨?_,q TI (by simp) _ S.ti,⟨a,b,q TO (by simp) _ l⟩,S.h1.at λo e=>q i1 (by simp) o e,S.h2.at λo e=>q i2 (by simp) o e,S.l1.at λo e=>q l1 (by simp) o e,S.l2.at λo e=>q l2 (by simp) o e⟩
 rcases S.f with n|⟨T,u,o,n,x,y,B,C,G,r⟩
 .exact .inl (q z (by simp) _ n)
 .exact .inr ⟨T,u,o,q z (by simp) _ n,kp _ _ r x,y,B,C,G,r⟩
theorem S5(hh:A.handled=none) (D:jY z TI TO i1 i2 l1 l2) (nd:∀c∈[z,TI,TO,i1,i2,l1,l2],c≠d) (hk:∀(j:Nat) (u:Value),us[j]?=some u->∃k,ks[j]?=some k/\knd.is k u=true) (U:us.length=ws.length) (hsz:us.length<=jn) :
  ∀(m j:Nat) (i:Int) (s:Shared),us.length-j=m->j<=us.length->Og s.heap z TI TO i1 i2 l1 l2 d j us.toArray ws.toArray->s.heap.DictOf knd d (fz ks ws j) ->
   (∀h' tk,h'.DictOf knd d (fz ks ws us.length)->(∀b o,b≠z->b≠TO->b≠i1->b≠i2->b≠d->s.heap.get? b=some o->h'.get? b=some o)->R (.ok (.ret .none)) { s with heap:=h',toks:=tk }) ->
   kr (jm prog w) A (.builtin "dict.update.loop" ⟨[.ref d,.ref z,.int i 0,.none],[]⟩) R s:=by
 have vl:us.toArray.size=us.length:=aA ..;intro m
 induction m with
 |zero =>
  intro j i s hm hj S dd B;have C:j=us.length:=by lia
  refine jz Am ?_;rw[Around.under_plainId uD _];show jj _ A.in1 (kj (.ref z) >>= _) _ _ s;refine ji (UG hh D S (by simp;lia) λh' kp=>?_)
  show jj _ A.in1 (Builtin.Dict.addKeywords d [] >>= _) _ _ _;refine ji (jk (jk (B h' s.toks ?_ λb o b1 b2 b3 t _ e=>kp b o b1 b2 b3 t e)))
  subst C;obtain⟨o,G,H,l,r⟩:=dd;exact⟨o,G,H,kp d o (nd z (by simp)).symm (nd TO (by simp)).symm (nd i1 (by simp)).symm (nd i2 (by simp)).symm l,r⟩
 |succ m ih =>
  intro j i s hm hj S dd B;obtain⟨u,X⟩:∃u,us[j]?=some u:=⟨_,gEg (by lia)⟩
  obtain⟨v,Y⟩:∃v,ws[j]?=some v:=⟨_,gEg (by lia)⟩
  obtain⟨k,I,J⟩:=hk j u X;refine jz Am ?_;rw[Around.under_plainId uD _];show jj _ A.in1 (kj (.ref z) >>= _) _ _ s;have L:d<s.heap.objs.size:=by obtain⟨_,_,_,l,_⟩:=dd;exact ae l
  refine ji (Xs D L S (x:=u) (y:=v) (by simpa using X) (by simpa using Y) λh' T S' hT kp=>?_)
  have M:h'.DictOf knd d (fz ks ws j):=by
   obtain⟨o,G,H,l,r⟩:=dd;exact⟨o,G,H,kp d o (nd z (by simp)).symm (nd TO (by simp)).symm (nd i1 (by simp)).symm (nd i2 (by simp)).symm l,r⟩
  refine ji (jA ?_);have tT:Shared.TypeIs { s with heap:=h' } (.ref T) "tuple" := ⟨_,hT,rfl⟩
  refine ji (wpAny_tryCatch ?_);unfold Builtin.Dict.pairItems;refine ji (jL tT ?_);rw[pQ (by decide)]
  refine ji (kE hT rfl ?_);refine jk ?_;refine jA ?_;refine mP (hsz:=by have:=Pi ks ws j;lia) J M λh2 n sb=>?_
  rw[←L0 I Y]at n;refine jk ⟨jJ uD _,ih (j+1) (i+1) _ (by lia) (by lia) (S'.keep nd sb.extBut) n λh3 O P Q=>?_⟩
  exact B h3 O P λb o b1 b2 b3 t b5 e=>Q b o b1 b2 b3 t b5 (sb.extBut b o b5 (kp b o b1 b2 b3 t e))
end
section
variable {prog:jo}{w:jt}{A:Around}{E:Value->Shared->Prop}{s:Shared}{K:Type} [DecidableEq K] {knd:KeyKind prog w K}{z TI TO i1 i2 l1 l2:Addr}{us ws:List Value}{ks:List K}
theorem Tj{Q:Value->Shared->Prop}(hh:A.handled=none) (D:jY z TI TO i1 i2 l1 l2) (x:IsZip s.heap z TI TO .none) (y:km s.heap TI (.ref i1) (.ref i2)) (n:∃a b,km s.heap TO a b) (h1:s.heap.IsListIter i1 l1 0) (h2:s.heap.IsListIter i2 l2 0) (B:s.heap.IsList l1 us.toArray) (C:s.heap.IsList l2 ws.toArray)
  (S:∀(j:Nat) (u:Value),us[j]?=some u->∃k,ks[j]?=some k/\knd.is k u=true) (G:us.length=ws.length) (hsz:us.length<=jn)
  (h:∀h' U,h'.DictOf knd s.heap.objs.size (fz ks ws us.length)->(∀b o,b≠z->b≠TO->b≠i1->b≠i2->s.heap.get? b=some o->h'.get? b=some o)->Q (.ref s.heap.objs.size) { s with heap:=h',toks:=U }) :
  jj (jm prog w) A (call (.type "dict") [.ref z]) Q E s:=by
 refine mq (Q₁:=λobj t=>obj = .ref s.heap.objs.size/\t={ s with heap:=s.heap.push { cls:=.type "dict", data:=.dict #[] } }) F.kt_called_dict (F.kt_typeCall_dict_1 _) F.entry_dict_init (kt_code_dict_new _ ⟨rfl,rfl⟩) ?_
 rintro obj t ⟨rfl,rfl⟩;have l:(s.heap.push { cls:=.type "dict", data:=.dict #[] }).DictOf knd s.heap.objs.size []:=iA.new s.heap;refine⟨l.typeIs,F.args_dict_init_2 _ _,?_⟩;have I:∀b o,s.heap.get? b=some o->(s.heap.push { cls:=.type "dict", data:=.dict #[] }).get? b=some o:=λb o e=>aj _ e
 have X:Shared.TypeIs { s with heap:=s.heap.push { cls:=.type "dict", data:=.dict #[] } } (.ref z) "zip" := ⟨_,I _ _ x,rfl⟩
 unfold Builtin.«dict.__init__»;refine ji ?_;unfold Builtin.Dict.selfAndRest;refine ji (mi l.typeIs ?_);show jj _ _ (pure (s.heap.objs.size,[aE z])) _ _ _;refine jk ?_;show jj _ _ (Builtin.Dict.updateFrom "dict.__init__" s.heap.objs.size (.ref z) [] .none) _ _ _;unfold Builtin.Dict.updateFrom;refine ji (jL X ?_);rw[pQ (by decide)]
 refine ji (Sf (I _ _ x) (by simp[hh]) λP Y H=>?_)
 rw[pQ (by rfl)]
 refine ji (mL ?_);have kp:∀b o,s.heap.get? b=some o->P.get? b=some o:=λb o e=>H b o (I b o e)
 refine ji (kN (kp _ _ x) ?_);obtain⟨ta,tb,n⟩:=n;have lt:∀c∈[z,TI,TO,i1,i2,l1,l2],c≠s.heap.objs.size:=λc R=>by
  refine aq ?_;simp only[ar,cK,or_false]at R;rcases R with rfl|rfl|rfl|rfl|rfl|rfl|rfl
  .exact ae x
  .exact ae y
  .exact ae n
  .obtain ⟨_,q,_⟩:=h1;exact ae q
  .obtain ⟨_,q,_⟩:=h2;exact ae q
  .obtain ⟨_,q,_⟩:=B;exact ae q
  .obtain ⟨_,q,_⟩:=C;exact ae q
 have J:P.DictOf knd s.heap.objs.size (fz ks ws 0):=by
  obtain⟨o,es,ep,ho,r⟩:=l;exact⟨o,es,ep,H _ _ ho,r⟩
 refine jk ⟨jJ uD _,S5 (by simp[hh]) D lt S G hsz us.length 0 0 _ (fP _) (ba _) ⟨.inl (kp _ _ x),kp _ _ y,⟨_,_,kp _ _ n⟩,h1.at λo e=>kp _ o e,h2.at λo e=>kp _ o e,B.at λo e=>kp _ o e,C.at λo e=>kp _ o e⟩ J λh4 L M O=>⟨rfl,h h4 L M λb o b1 b2 b3 b4 e=>O b o b1 b2 b3 b4 (aq (ae e)) (kp b o e)⟩⟩
end
end Mo
namespace Mr
open PySem PySem.W PySem.Spec PyProof.Rows L2 Mo
def fv(ns ms:List Int):List (oq×V):=(ns.zip ms).foldl (λm p=>xn m (.inl p.1) (.int p.2)) []
theorem FO:∀(ns ms:List Int) (ws:List Value) (m:List (oq×V)) (l:List (oq×Value)),oV (ms.map V.int) ws->KV m l->KV ((ns.zip ms).foldl (λm p=>xn m (.inl p.1) (.int p.2)) m) (((ns.map ao).zip ws).foldl (λ(m:List (oq×Value)) p=>lg m p.1 p.2) l)
 | [],ms,ws,m,l,_,h=>by simpa using h
 |n::ns,[],ws,m,l,s,h=>by
  cases s;simpa using h
 |n::ns,k::ms,ws,m,l,s,h=>by
  cases s with
  |cons r t =>
   rw[ax,cv,cv,bB,bB];exact FO ns ms _ _ _ t (h.put _ r)
theorem QO(ns ms:List Int):(fv ns ms).length<=ns.length:=by
 have key:∀(l:List (Int×Int)) (m:List (oq×V)),(l.foldl (λm p=>xn m (.inl p.1) (.int p.2)) m).length<=m.length+l.length:=by
  intro l
  induction l with
  |nil=>exact λm=>ai _
  |cons p l n =>
   intro m;have:=n (xn m (.inl p.1) (.int p.2));have:=xr m (ao p.1) (V.int p.2);rw[bB,lCq];lia
 have:=key (ns.zip ms) [];rw[cg,fJ]at this;unfold fv;lia
section
variable {X:Cx}
def Z1(K:W.Frag) (xs:List V) (H:Hp) (Q:VK):Prop:=∃a b ns ms,xs=[.ref a,.ref b]/\qV K H a (ns.map V.int)/\qV K H b (ms.map V.int)/\ns.length=ms.length/\∀l,H l=none->Q (.ref l) (qG H l (.dK (fv ns ms)))
theorem X1{e f:Expr}{ta:TA}{p0 p r pos:Pos}(hc:X.calm=true) (gl:Gl X "dict") (ml:X.mg "dict" = none) (hg:Gl X "zip") (hm:X.mg "zip" = none) (ha:PA X [e,f] ta)
  (he:jv [.Call (.Name "zip" p) [e,f] [] pos] X.env=(false,eval (.Call (.Name "zip" p) [e,f] [] pos) X.env)::jv [] X.env:=by rfl) (hs:jv [e,f] X.env=[(false,eval e X.env),(false,eval f X.env)]:=by rfl) (C:jv [f] X.env=[(false,eval f X.env)]:=by rfl) :
  PE X (.Call (.Name "dict" p0) [.Call (.Name "zip" p) [e,f] [] pos] [] r) (Hh (Z1 X.K) ta):=by
 intro nA s σ H Q I h;refine jS (vm I gl ml boot_dict ?_ (by decide) (by decide))
 refine bo ?_ he (by rfl)
 rw[he];show jj _ _ (mU ((false,eval (.Call (.Name "zip" p) [e,f] [] pos) X.env)::kC r (jv [] X.env))) _ _ s;refine Calls.spliced_cons ?_;refine Call_ (vm I hg hm boot_zip (bo (sv (ha pos nA s σ H _ I h) λus l L=>?_) (by rw[hs,C]) (by rw[C];rfl)))
 obtain⟨vs,H1,B,r1,q1⟩:=L;obtain⟨a,b,n,J,e1,M,O,hl,q⟩:=q1;subst e1;obtain⟨u,v,rfl,P,rv⟩:=LZ r1;cases P;cases rv;obtain⟨E,v1,R,z1⟩:=B.list M;obtain⟨y,v2,S,z2⟩:=B.list O;have n1:=v1.length;have n2:=v2.length;rw[lMq]at n1 n2 z1;have al:a<l.heap.objs.size:=let ⟨_,U,_⟩:=R.isList;ae U
 have bl:b<l.heap.objs.size:=let ⟨_,U,_⟩:=S.isList;ae U
 refine call_zip_2 R.isList S.isList λg hz Y hTO h1 h2 hsz hk=>Calls.spliced_nil ?_
 have zD:=Ug l.heap.objs.size;have D:jY (l.heap.objs.size+4) (l.heap.objs.size+2) (l.heap.objs.size+3) l.heap.objs.size (l.heap.objs.size+1) a b:=zipApart_new al bl;refine Tj (s:={ l with heap:=g }) (knd:=qH X.prog X.w) (ks:=n.map ao) (B.ok.hd hc) D hz Y ⟨_,_,hTO⟩ h1 h2 (R.isList.at λo e=>hk _ o e) (S.isList.at λo e=>hk _ o e) (λj u hu=>?_) (by lia) (by lia) λh' tk dd kp=>?_
 .have hj:j<n.length:=by have:=(gSq.mp hu).1;lia
  obtain⟨u',G,P⟩:=v1.get (i:=j) (x:=.int n[j]) (by rw[gMq,gEg hj];rfl)
  rw[hu]at G;cases G;obtain⟨t,rfl⟩:=P;exact⟨.inl n[j],by rw[gMq,gEg hj];rfl,Ci _ t⟩
 .have z:({ l with heap:=g }:Shared).heap.objs.size=l.heap.objs.size+5:=hsz
  rw[z]at dd;have kv:KV (fv n J) (fz (n.map ao) y E.length):=by
   have:=FO n J y [] [] v2 .nil;unfold fz;rw[bA (by rw[fJ,lMq];lia)]
   exact this
  refine⟨.ref (l.heap.objs.size+5),qG H1 (l.heap.objs.size+5) (.dK (fv n J)),B.laid (t':=tk) (λb o e=>?_) (dR _ _) (Ge (by have:=QO n J;lia) (beq_eq_false_iff_ne.mpr (aR (dm 5 B.big))) kv dd),by rw[z];rfl,q _ (B.hok.fresh (dR _ _))⟩
  have lt:b<l.heap.objs.size:=ae e;exact kp b o (aq (dm 4 lt)) (aq (dm 3 lt)) (aq lt) (aq (dm 1 lt)) (hk b o e)
end
end Mr
namespace Z
open PySem L2 Mr
def dz(ns ms:List Int):List (oq×D):=(ns.zip ms).foldl (λm p=>vH m (.inl p.1) (.int p.2)) []
def TR:List D->Option (List (oq×D))
 | [.list as,.list bs]=>(qC as).bind λns=>(qC bs).bind λms=>if ns.length=ms.length then some (dz ns ms) else none
 |_=>none
def Zc(m:ML):MK:=λS=>(m S).bind λx=>(TR x.1).map λkvs=>(.owd kvs,x.2)
theorem Y0(m:ML) (S:AS):Zc m S=(m S).bind λx=>(TR x.1).map λkvs=>(.owd kvs,x.2):=rfl
theorem M0{ns ms:List Int}(h:ns.length=ms.length):TR [.list (ns.map D.int),.list (ms.map D.int)]=some (dz ns ms):=by
 show ((qC (ns.map D.int)).bind λns=>(qC (ms.map D.int)).bind λms=>if ns.length=ms.length then some (dz ns ms) else none)=_
 rw[qR,qR];simp[h]
section
variable {K:W.Frag}{ta:TA}{m:ML}
theorem Pr{Hf:Hp}(ns ms:List Int):uj K Hf (dz ns ms) (fv ns ms):=by
 have key:∀(l:List (Int×Int)) (d:List (oq×D)) (k:List (oq×V)),uj K Hf d k->uj K Hf (l.foldl (λm p=>vH m (.inl p.1) (.int p.2)) d) (l.foldl (λm p=>xn m (.inl p.1) (.int p.2)) k):=by
  intro l
  induction l with
  |nil=>exact λd k h=>h
  |cons p l n=>exact λd k h=>n _ _ (Jc h .int)
 exact key _ _ _ ⟨rfl,λi d v h=>by simp at h⟩
theorem WX(G:Rm K ta m):SK K (Hh (Z1 K) ta) (Zc m):=by
 intro H₀ t Hf S σ H Fs av S' R e Q q;obtain⟨x,I,e⟩:=oBq.mp e;obtain⟨u,s,e⟩:=oMq.mp e;cases e;refine G R (ds:=x.1) (S':=x.2) I _ λJ H1 Fs1 vs B C E=>?_
 have sh:∃n r,x.1=[.list (n.map D.int),.list (r.map D.int)]/\n.length=r.length/\u=dz n r:=by
  unfold TR at s;split at s
  .rename_i as bs y;obtain⟨n,L,M⟩:=oBq.mp s;obtain⟨r,O,z⟩:=oBq.mp M;split at z
   .rename_i hl;cases z;exact⟨n,r,by rw[y,sY L,sY O],hl,rfl⟩
   .cases z
  .cases s
 obtain⟨n,r,y,hl,rfl⟩:=sh;rw[y]at E;obtain⟨va,w1,rfl,P,U⟩:=E.cons_inv;obtain⟨vb,w2,rfl,X,Y⟩:=U.cons_inv;have:=Y.nil_inv;subst this;obtain⟨a,us1,rfl,g1,g2⟩:=P.list_inv;obtain⟨b,us2,rfl,g3,g4⟩:=X.list_inv;have u1:=qJ g2;have u2:=qJ g4;subst u1;subst u2;refine⟨a,b,n,r,rfl,qV.of g1,qV.of g3,hl,λl hn=>?_⟩
 obtain⟨t4,R4,n1,n2,n3⟩:=C.new (o:=.dK (fv n r)) hn;exact q _ _ _ (.ref l) [l] (B.trans t4) R4 (.owd oC n1 (Pr n r)) ((xN.one C hn).back B)
end
end Z
namespace Mr
open PySem L2
open PySem.Spec PyProof.Rows
noncomputable def WL:V->Int
 | .int i=>i
 |_=>0
end Mr
namespace MrS
open PySem PyProof.Rows
section
variable {prog:jo}{w:jt}{A:Around}{E:Value->Shared->Prop}{s:Shared}{Pk:jq->Prop}{lt:jq->jq->Bool}{κ:jI}
theorem By{a:Addr}{vs:List Value}{n:Nat}{P:PySem.Fin->Shared->Prop}(z:s.heap.get? a=some (ju "list" vs.toArray n)) (hs:vs.length<64)
  (G:2<=vs.length->∀Q:jI->Shared->Prop,Q κ { s with heap:=qX s.heap a vs }->jj (jm prog w) A (kQ vs.toArray) Q E { s with heap:=qX s.heap a vs })
  (C:B2 prog w A { s with heap:=qX s.heap a vs } κ Pk lt) (J:∀x,x∈jH vs->Pk x)
  (h:∀xs:Array jq,xs.Perm (jH vs)->Dq lt xs 0 (jH vs).size->P (.done (.ret .none)) { s with heap:=kh s.heap a vs (xs.map (·.2)) }) :
  jj (jm prog w) A (Builtin.«list.sort» ⟨[.ref a],[]⟩) P E s:=by
 rw[list_sort_plain];have L:a<s.heap.objs.size:=ae z;refine ji (listItems_at z rfl ?_);refine ji (jP z rfl ?_ (hsz:=by rw[aA,jy];lia))
 obtain⟨H,r⟩:∃H,(s.heap.update a (Obj.mapSeq λ_=>#[])).get? a=some (ju "list" #[] H):=⟨_,jW z (λ_=>#[])⟩
 refine ji (kK r rfl ?_);refine ji (mn ?_);refine ji (jX ?_);refine jA ?_;have l:(qX s.heap a vs).get? a=some (ju "list" #[] H):=by
  rw[dB _ _ _ (by rw[kZ,bL];exact aq (bX L)),dB _ _ _ (by rw[bL];exact aq L)]
  exact r
 show jj (jm prog w) A _ P E { s with heap:=qX s.heap a vs }
 dsimp only;have O:vs.toArray.size=vs.length:=by simp
 have R:jn=16777216:=jy
 by_cases h2:vs.toArray.size<2
 .rw [pQ h2,pQ h2];refine ji (jk ?_);rw[StateT.run_pure];refine ji (jk ?_);dsimp only;refine ji (kK l rfl ?_);refine ji (jP l rfl ?_ (hsz2:=by rw[fX];show (jH vs).size<=_;rw[jM,jy];lia))
  simp only[bne_self_eq_false,cQ,if_false];refine jk (h _ (iJ.refl _) ?_);intro i j x y _ S U ex M;have:i=j:=by rw[jM]at U;lia
  subst this;rw[ex]at M;cases M;exact C.refl (J x (aQq ex))
 .rw [qk h2,qk h2];refine ji (G (by lia) _ ?_)
  refine ji (jF (Lw C (arr:=jH vs) (g:=7) (E:=E)
   (Q:=λ_ t=>∃xs p B,t=BQ κ xs p B/\xs.Perm (jH vs)/\Dq lt xs 0 (jH vs).size) J (by rw[jM];lia) (by rw[jM];lia) λxs p B X Y=>⟨xs,p,B,rfl,X,Y⟩) ?_ λ_ _ e=>e)
  rintro⟨⟨⟩,t⟩ s' ⟨rfl,xs,p,B,rfl,u,I⟩;dsimp only;refine ji (kK l rfl ?_);refine ji (jP l rfl ?_ (hsz2:=by refine bw (fh ((fX ..).trans (u.size_eq.trans (jM _)))) ?_;lia))
  simp only[bne_self_eq_false,cQ,if_false];exact jk (h xs u I)
theorem NP{l:Addr}{vs:List Value}{Q:Value->Shared->Prop}(hl:s.heap.IsList l vs.toArray) (C:vs.length<64)
  (H:∀t:Shared,(∀b o,s.heap.get? b=some o->t.heap.get? b=some o)->(2<=vs.length->∀Q:jI->Shared->Prop,Q κ t->jj (jm prog w) A.in1.in1 (kQ vs.toArray) Q E t)/\B2 prog w A.in1.in1 t κ Pk lt)
  (I:∀v∈vs,Pk (v,v))
  (h:∀(out:List Value) (h':Heap) (J:Nat),out.Perm vs->out.Pairwise (λx y=>lt (y,y) (x,x)=false)->(∀b o,s.heap.get? b=some o->h'.get? b=some o) ->
   h'.get? (s.heap.objs.size+1)=some (ju "list" out.toArray J)->Q (.ref (s.heap.objs.size+1)) { s with heap:=h' }) :
  jj (jm prog w) A (call (.builtin "sorted") [.ref l]) Q E s:=by
 refine Calls.call_function_entry mh lN lO (lR _) ?_;unfold Builtin.«sorted»;refine ji (m:=mM "sorted" 1 1 _) (jk ?_);refine ji (collect_list hl ?_ (by rw[jy];lia))
 refine ji (jX ?_ (by rw[jy];lia))
 have r:((s.heap.push (ju "list" #[] 0)).update s.heap.objs.size (Obj.mapSeq (· ++ vs.toArray))).objs.size=s.heap.objs.size+1:=by
  rw[bL,kZ]
 have n:(((s.heap.push (ju "list" #[] 0)).update s.heap.objs.size (Obj.mapSeq (· ++ vs.toArray))).push (ju "list" vs.toArray 0)).get? (s.heap.objs.size+1)=some (ju "list" vs.toArray 0):=by
  rw[←r];exact aL _ rfl
 show jj _ _ _ _ _ { s with heap:=((s.heap.push (ju "list" #[] 0)).update s.heap.objs.size (Obj.mapSeq (· ++ vs.toArray))).push (ju "list" vs.toArray 0) }
 rw[r];generalize L:((s.heap.push (ju "list" #[] 0)).update s.heap.objs.size (Obj.mapSeq (· ++ vs.toArray))).push (ju "list" vs.toArray 0)=G at n ⊢;have M:∀b o,s.heap.get? b=some o->G.get? b=some o:=λb o e=>by
  rw[←L];refine aj _ ?_;rw[bu _ _ _ _ (aq (ae e))];exact aj _ e
 have B:∀b o,s.heap.get? b=some o->(qX G (s.heap.objs.size+1) vs).get? b=some o:=λb o e=>by
  refine aj _ (aj _ ?_);rw[bu _ _ _ _ (aq (bX (ae e)))];exact M b o e
 obtain⟨O,P⟩:=H { s with heap:=qX G (s.heap.objs.size+1) vs } B
 refine ji (jA (jR lh ⟨_,n,rfl⟩ kY (By (Pk:=Pk) (lt:=lt) n C O P (λx R=>?_) λu S U=>⟨_,rfl,?_⟩) (ly _)))
 .obtain ⟨X,Y⟩:=uH R;have:x=(x.1,x.1):=gI rfl Y;rw[this];exact I _ X
 .obtain ⟨v1,v2⟩:=xo S U;obtain⟨e1,z⟩:=C3 vs n;obtain⟨n1,g1⟩:=Df (u.map (·.2)) z;refine jk ⟨_,rfl,h _ (kh G (s.heap.objs.size+1) vs (u.map (·.2))) n1 v1 v2 (λb o e=>?_) ?_⟩
  .unfold kh;rw[bu _ _ _ _ (aq (bX (ae e)))];exact B b o e
  .rw [show (u.map (·.2)).toList.toArray=u.map (·.2) from eK]
   exact g1
end
end MrS
namespace Mr
open PySem L2 PySem.Calls
open PySem.Spec PyProof.Rows
def Zi(r:Addr->List Int) (x y:jq):Bool:=match x.1,y.1 with
 | .ref p,.ref q=>HT.qw (r p) (r q)
 |_,_=>false
theorem Rb{prog:jo}{w:jt}{A:Around}{s:Shared}{Q:Bool->Shared->Prop}{l:Bool}:∀{vs:List Value}{c:List Int},jB vs c->∀{us:List Value}{d:List Int},jB us d->∀i:Nat,l=decide (c.length<d.length)->Q (HT.qw c d) s->W.KatLex prog w A true l Q (vs.zip us) i s:=by
 intro vs c x
 induction x with
 |nil =>
  intro us d n i r k;refine W.kat_nil ?_;cases n with
  |nil=>rw[r];simpa [HT.qw] using k
  |cons b t h=>rw[r];simpa [HT.qw] using k
 |cons a t x y =>
  intro us d n i r k;cases n with
  |nil =>
   refine W.kat_nil ?_;rw[r];simpa [HT.qw] using k
  |cons b u n =>
   refine W.kat_cons (wpAny_eqBool_int ?_);rw[HT.qw]at k;refine W.kat_go (λe=>?_) λe=>?_
   .have e:=eq_of_beq e;rw[pQ e]at k;exact W.kat_yes (y n (i+1) (by rw[r];simp) k)
   .have e:¬ a=b:=λz=>by rw[z]at e;simp at e
    rw[qk e]at k;refine W.kat_no ?_;cases i with
    |zero =>
     show jj _ _ (oneLt' true _ _) _ _ _;rw[←lq];exact W.kat_lt_int k
    |succ i =>
     show jj _ _ (oneLt' false _ _) _ _ _;exact W.kat_one _ _ (wpAny_lt_int k)
theorem UK{prog:jo}{w:jt}{A:Around}{s:Shared}{ps:List Addr}{r:Addr->List Int}
  (h:∀p∈ps,HT.vU s.heap p (r p)):MrS.B2 prog w A s (tuples' true) (λx=>∃p,x.1 = .ref p/\p∈ps) (Zi r) where
 ask:=by
  rintro⟨_,x⟩ ⟨_,y⟩ ⟨p,l,I⟩ ⟨q,t,J⟩ E Q k;dsimp only at l t;subst l t;obtain⟨vs,⟨o,L,O,n,hd⟩,C⟩:=h p I;obtain⟨us,⟨P,u,M,R,B⟩,G⟩:=h q J;refine W.kat_lt L hd u B ?_;exact Rb C G 0 (by simp[C.length,G.length]) k
 asym:=by
  rintro⟨_,x⟩ ⟨_,y⟩ ⟨a,l,_⟩ ⟨b,t,_⟩ h;dsimp only at l t;subst l t;exact Mr.zz _ _ h
 trans:=by
  rintro⟨_,x⟩ ⟨_,y⟩ ⟨_,z⟩ ⟨a,l,_⟩ ⟨b,t,_⟩ ⟨c,H,_⟩ h1 h2;dsimp only at l t H;subst l t H;exact Mr.ye _ _ _ h1 h2
theorem QT{M:Model}{A:Around}{E:Value->Shared->Prop}{s:Shared}{ps:List Addr}{r:Addr->List Int}{Q:jI->Shared->Prop}(h2:2<=ps.length) (h:∀p∈ps,HT.vU s.heap p (r p)) (l:∀p∈ps,r p≠[]) (q:Q (tuples' true) s):jj M A (kQ (ps.map aE).toArray) Q E s:=by
 have key:∀ps:List Addr,(∀p∈ps,HT.vU s.heap p (r p))->(∀p∈ps,r p≠[])->∃fs:List Value,fs.length=ps.length/\W.KatTups s.heap (ps.map aE) fs/\∀f∈fs,∃z t,f = .int z t:=λps=>by
  induction ps with
  |nil=>intro _ _;exact⟨[],rfl,W.KatTups.nil,λf H=>by cases H⟩
  |cons p ps I =>
   intro h l;obtain⟨fs,C,u,x⟩:=I (λp y=>h p (mCo _ y)) (λp y=>l p (mCo _ y))
   obtain⟨S,⟨o,J,L,n,hd⟩,B⟩:=h p (aw ..);have G:=l p (aw ..);generalize r p=c at B G;cases B with
   |nil=>exact absurd rfl G
   |cons z t B =>
    refine⟨.int z t::fs,by rw[lCq,lCq,C],W.KatTups.cons J L hd rfl u,λg O=>?_⟩
    rcases ar.mp O with w|w
    .rw [w];exact⟨z,t,rfl⟩
    .exact x g w
 obtain⟨fs,C,u,x⟩:=key ps h l;refine W.kat_kind (T:=.type "int") u (by lia) (λv P=>?_) (by rfl) q
 obtain⟨z,t,rfl⟩:=x v P;intro A Q E U X R;exact jL (T := "int") rfl R
def su(H:Hp) (p:Addr):List Int:=match H p with
 |some (.tup vs)=>vs.map WL
 |_=>[]
def CO(H:Hp) (ps:List Addr) (rs:List (List Int)):Prop:=rs=ps.map (su H)/\∀p∈ps,H p=some (.tup ((su H p).map V.int))
theorem DT{H:Hp}{p:Addr}{r:List Int}(h:H p=some (.tup (r.map V.int))):su H p=r:=by
 unfold su;rw[h];show (r.map V.int).map WL=r;rw[mPq];exact fR r
section
variable {X:Cx}
theorem WJ{n:List (Addr×Obj)}{σ:St}{H:Hp}{s:Shared}{p:Addr}{r:List Int}(I:Inv X n σ H s) (h:H p=some (.tup (r.map V.int))):HT.vU s.heap p r:=by
 obtain⟨l,t,u,_⟩:=I.tuple (EO.of h);exact⟨l,u,xk t⟩
theorem vU.keep'{h h':Heap}{p:Addr}{c:List Int}(k:∀b o,h.get? b=some o->h'.get? b=some o) (t:HT.vU h p c):HT.vU h' p c:=by
 obtain⟨l,⟨o,n,oY⟩,i⟩:=t;exact⟨l,⟨o,k _ _ n,oY⟩,i⟩
theorem wb:xv X (.builtin "sorted") (λxs H Q=>∃(a:Addr) (ps:List Addr) (rs:List (List Int)),xs=[.ref a]/\ps.length<64/\qV X.K H a (ps.map V.ref)/\CO H ps rs/\(∀r∈rs,r≠[]) /\
  ∀(p:Addr) (y:List Addr),H p=none->y.Perm ps->y.map (su H)=uf rs->Q (.ref p) (qG H p (.lst (y.map V.ref)))):=by
 intro nA s σ H xs us Q I r h;obtain⟨a,ps,O,rfl,P,R,⟨J,S⟩,E,q⟩:=h;obtain⟨u,rfl,U⟩:=wQ r;cases U;obtain⟨Y,rv,hl,hz⟩:=I.list R;have ei:=wz rv;subst ei;have n:∀(z:Shared),(∀b o,s.heap.get? b=some o->z.heap.get? b=some o)->∀p∈ps,HT.vU z.heap p (su H p):=λz k p t=>vU.keep' k (WJ I (S p t))
 have B:∀p∈ps,su H p≠[]:=λp t=>E _ (by rw[J];exact mMq.mpr ⟨p,t,rfl⟩)
 refine MrS.NP (κ:=tuples' true) (Pk:=λx=>∃p,x.1 = .ref p/\p∈ps) (lt:=Zi (su H)) hl.isList (by simpa using P) (λz k=>⟨λh2 Q q=>?_,UK (n z k)⟩) (λv m=>?_) λout h' n' L M o3 o4=>?_
 .exact QT (by simpa using h2) (n z k) B q
 .obtain ⟨p,t,rfl⟩:=mMq.mp m;exact⟨p,rfl,t⟩
 .have ho:∀v∈out,∃p∈ps,v = .ref p:=λv m=>by
   obtain⟨p,t,rfl⟩:=mMq.mp (L.mem_iff.mp m);exact⟨p,t,rfl⟩
  have G:out=(out.map qo).map aE:=by
   rw[mPq];have e:=mCq (l:=out) (f:=id) (g:=aE∘qo) λv hv=>by
    obtain⟨p,_,rfl⟩:=ho v hv;rfl
   rw[←e,cW]
  have C:(out.map qo).Perm ps:=by
   have:=L.map qo;rw[mPq,show qo∘aE=id from rfl,cW]at this
   exact this
  have t:H (s.heap.objs.size+1)=none:=I.hok.fresh (bR _);generalize out.map qo=y at G C;have es:y.map (su H)=uf O:=by
   refine yR (by rw[J];exact C.map _) ?_
   rw[aF];rw[G,aF]at M;exact M
  refine⟨.ref (s.heap.objs.size+1),_,I.laid (t':=s.toks) o3 (bR _) (show qT X.prog X.w _ h' _ (.lst (y.map V.ref)) from ⟨?_,out,n',?_,o4⟩),rfl,q _ y t C es⟩
  .rw [lMq,C.length_eq];simpa using hz
  .rw [G];exact xY y
end
end Mr
namespace Mo
open PySem PyProof.Rows Mr
theorem M8:jZ (.type "zip") "__len__" = pure none:=by rw[jU,jG];kernel_rfl
theorem JR:jZ (.type "zip") "__length_hint__" = pure none:=by rw[jU,jG];kernel_rfl
section
variable {prog:jo}{w:jt}{A:Around}{E:Value->Shared->Prop}{s:Shared}
theorem O6{z:Addr}{Q:Bool->Shared->Prop}(l:s.TypeIs (.ref z) "zip") (q:Q true s):jj (jm prog w) A (Builtin.List.listLengthHint (.ref z)) Q E s:=by
 unfold Builtin.List.listLengthHint specialOf;refine ji (ji (jL l ?_));rw[M8];refine jk ?_;show jj _ _ (do
  let n ← (do let t ←typeOf (.ref z);jZ t (Str.ofString "__length_hint__"))
  _) _ _ _
 refine ji (ji (jL l ?_));rw[JR];refine jk ?_;exact jk q
theorem Vk{z TI TO r t l1 l2 d:Addr}{k:Nat}{xs ys:Array Value}{x y:Value}{Q:Option Value->Shared->Prop}(D:jY z TI TO r t l1 l2) (hd:d<s.heap.objs.size) (S:Og s.heap z TI TO r t l1 l2 d k xs ys) (M:xs[k]?=some x) (O:ys[k]?=some y)
  (P:∀h',Og h' z TI TO r t l1 l2 d (k+1) xs ys->km h' s.heap.objs.size x y->(∀c o,c≠z->c≠TO->c≠r->c≠t->s.heap.get? c=some o->h'.get? c=some o)->Q (some (.ref s.heap.objs.size)) { s with heap:=h' }) :
  jj (jm prog w) A (kj (.ref z)) Q E s:=by
 obtain⟨a,b,n⟩:=S.to;have zl:z<s.heap.objs.size:=by
  rcases S.f with h|⟨_,_,_,h,_⟩
  .exact ae h
  .exact ae h
 have B:r<s.heap.objs.size:=by obtain⟨_,q,_⟩:=S.h1;exact ae q
 have C:t<s.heap.objs.size:=by obtain⟨_,q,_⟩:=S.h2;exact ae q
 have G:TO<s.heap.objs.size:=ae n;rcases S.f with H|⟨T,f1,o,H,R,U,n2,X,Y,n5⟩
 .refine kR D H S.ti n S.h1 S.h2 S.l1 S.l2 M O λh' I a2 J L u a6 l=>P h' ⟨.inr ⟨_,_,_,I,u,aR zl,aR G,aR B,aR C,aR hd⟩,l _ _ D.TIz D.TITO D.TIi1 D.TIi2 S.ti,⟨_,_,a2⟩,J,L,S.l1.at λo q=>l _ _ D.l1z D.l1TO D.l1i1 D.l1i2 q,S.l2.at λo q=>l _ _ D.l2z D.l2TO D.l2i1 D.l2i2 q⟩ u l
 .have hT:=S.ty;unfold kj;refine ji (lD (kG (name:=Str.ofString "__next__") hT F.slot_zip_next (jR F.slot_zip_next hT F.entry_zip_next (UL D H R S.ti S.h1 S.h2 S.l1 S.l2 M O λh' I J L u a6 l=>jk (P h' ?_ u λc o c1 _ c3 c4 q=>l c o c1 c3 c4 q)) (F.args_zip_next_1 _))))
  exact⟨.inr ⟨T,true,o,I,l _ _ U X Y R,U,n2,X,Y,n5⟩,l _ _ D.TIz D.TIi1 D.TIi2 S.ti,⟨a,b,l _ _ D.TOz D.TOi1 D.TOi2 n⟩,J,L,S.l1.at λo q=>l _ _ D.l1z D.l1i1 D.l1i2 q,S.l2.at λo q=>l _ _ D.l2z D.l2i1 D.l2i2 q⟩
theorem Ff:entryFor table "list.extend.loop" = some Builtin.«list.extend.loop»:=entryFor_of_tree (by kernel_rfl)
theorem An:plainId "list.extend.loop" = true:=by decide +kernel
structure WE (h:Heap) (S z TO i1 i2:Addr) (us ws:List Value) (Ts:List Addr):Prop where
 nd:Ts.Nodup
 lt:∀T∈Ts,T<h.objs.size
 ne:∀T∈Ts,T≠z/\T≠TO/\T≠i1/\T≠i2/\T≠S
 pr:∀(i:Nat) (T:Addr) (u v:Value),Ts[i]?=some T->us[i]?=some u->ws[i]?=some v->km h T u v
theorem WE.keep{h h':Heap}{S z TO n r:Addr}{us ws:List Value}{l:List Addr}(P:WE h S z TO n r us ws l) (l1:l.length<=us.length) (l2:l.length<=ws.length) (k:∀T∈l,∀o,h.get? T=some o->h'.get? T=some o):WE h' S z TO n r us ws l:=by
 refine⟨P.nd,λT t=>?_,P.ne,λi T u v x B C=>k T (mGq x) _ (P.pr i T u v x B C)⟩
 obtain⟨i,y⟩:=ay.mp t;have G:=(gSq.mp y).1;exact ae (k T t _ (P.pr i T _ _ y (gEg (by lia)) (gEg (by lia))))
variable {R:mE->Shared->Prop}{z TI TO i1 i2 l1 l2 S:Addr}{us ws:List Value}{res:Value}
theorem TK(hh:A.handled=none) (D:jY z TI TO i1 i2 l1 l2) (nd:∀c∈[z,TI,TO,i1,i2,l1,l2],c≠S) (hlen:us.length=ws.length) (hsz:us.length<=jn) :
  ∀(m j:Nat) (s:Shared) (n:List Addr) (c:Nat),us.length-j=m->j<=us.length->n.length=j->Og s.heap z TI TO i1 i2 l1 l2 S j us.toArray ws.toArray->s.heap.get? S=some (ju "list" (n.map aE).toArray c)->WE s.heap S z TO i1 i2 us ws n ->
   (∀h' (r:List Addr) c',r.length=us.length->h'.get? S=some (ju "list" (r.map aE).toArray c')->WE h' S z TO i1 i2 us ws r->(∀T∈r,T∈n∨s.heap.objs.size<=T)->(∀b o,b≠z->b≠TO->b≠i1->b≠i2->b≠S->s.heap.get? b=some o->h'.get? b=some o)->R (.ok (.ret res)) { s with heap:=h' }) ->
   kr (jm prog w) A (.builtin "list.extend.loop" ⟨[.ref S,.ref z,res],[]⟩) R s:=by
 intro m
 induction m with
 |zero =>
  intro j s n c hm hj l St J P Q;have hjn:j=us.length:=by lia
  refine jz Ff ?_;rw[Around.under_plainId An _];show jj _ A.in1 (kj (.ref z) >>= _) _ _ s;refine ji (UG hh D St (by simp;lia) λh' kp=>?_)
  have t:=kp S _ (nd z (by simp)).symm (nd TO (by simp)).symm (nd i1 (by simp)).symm (nd i2 (by simp)).symm J
  refine jk (Q h' n c (by lia) t ?_ (λT h=>.inl h) (λb o b1 b2 b3 L _ e=>kp b o b1 b2 b3 L e))
  .exact P.keep (by lia) (by lia) λT l o e=>kp T o (P.ne T l).1 (P.ne T l).2.1 (P.ne T l).2.2.1 (P.ne T l).2.2.2.1 e
 |succ m ih =>
  intro j s n c hm hj l St J P Q;obtain⟨u,hu⟩:∃u,us[j]?=some u:=⟨_,gEg (by lia)⟩
  obtain⟨v,hv⟩:∃v,ws[j]?=some v:=⟨_,gEg (by lia)⟩
  refine jz Ff ?_;rw[Around.under_plainId An _];show jj _ A.in1 (kj (.ref z) >>= _) _ _ s;have B:S<s.heap.objs.size:=ae J;refine ji (Vk D B St (x:=u) (y:=v) (by simpa using hu) (by simpa using hv) λh' S' hP kp=>?_)
  have t:=kp S _ (nd z (by simp)).symm (nd TO (by simp)).symm (nd i1 (by simp)).symm (nd i2 (by simp)).symm J
  have P':WE h' S z TO i1 i2 us ws n:=P.keep (by lia) (by lia) λT l o e=>kp T o (P.ne T l).1 (P.ne T l).2.1 (P.ne T l).2.2.1 (P.ne T l).2.2.2.1 e
  have zl:z<s.heap.objs.size:=by
   rcases St.f with h|⟨_,_,_,h,_⟩
   .exact ae h
   .exact ae h
  have U:i1<s.heap.objs.size:=by obtain⟨_,q,_⟩:=St.h1;exact ae q
  have X:i2<s.heap.objs.size:=by obtain⟨_,q,_⟩:=St.h2;exact ae q
  have Y:TO<s.heap.objs.size:=by obtain⟨_,_,q⟩:=St.to;exact ae q
  have lT:=ae hP;refine ji (jP t rfl ?_ (hsz:=by rw[aA,lMq];lia) (hsz2:=by rw[Array.size_push,aA,lMq];lia))
  have H:gR S h' (h'.update S (Obj.mapSeq λx=>x.push (.ref s.heap.objs.size))):=λb o b1 e=>by rw[bu _ _ _ _ b1];exact e
  obtain⟨c2,I⟩:∃c2,(h'.update S (Obj.mapSeq λx=>x.push (.ref s.heap.objs.size))).get? S=some (ju "list" ((n++[s.heap.objs.size]).map aE).toArray c2):=by
   have:=jW t (λx=>x.push (.ref s.heap.objs.size))
   have eq:(n.map aE).toArray.push (.ref s.heap.objs.size)=((n++[s.heap.objs.size]).map aE).toArray:=by rw[List.push_toArray,mBq];rfl
   rw[eq]at this;exact⟨_,this⟩
  have C:(h'.update S (Obj.mapSeq λx=>x.push (.ref s.heap.objs.size))).objs.size=h'.objs.size:=bL ..
  generalize h'.update S (Obj.mapSeq λx=>x.push (.ref s.heap.objs.size))=h2 at H I C
  refine jk ⟨jJ An _,ih (j+1) { s with heap:=h2 } (n++[s.heap.objs.size]) c2 (by lia) (by lia) (by rw[lAq,lSq,l]) (S'.keep nd H) I ?_ λh3 Ts3 c3 a1 a2 a3 a4 a5=>?_⟩
  .have fr:s.heap.objs.size∉n:=λm=>bV _ (P.lt _ m)
   refine⟨nAq.mpr ⟨P.nd,by simp,λa ha b hb q=>fr (by rw[mSq.mp hb]at q;exact q ▸ ha)⟩,λT l=>?_,λT l=>?_,λi T u' v' G M O=>?_⟩
   .show T<h2.objs.size;rw[C];rcases mAq.mp l with q|q
    .exact P'.lt T q
    .rw [mSq.mp q];exact lT
   .rcases mAq.mp l with q|q
    .exact P.ne T q
    .rw [mSq.mp q];exact⟨aR zl,aR Y,aR U,aR X,aR B⟩
   .by_cases q:i<n.length
    .rw [gZq q]at G;exact H _ _ (P.ne T (mGq G)).2.2.2.2 (P'.pr i T u' v' G M O)
    .have hi:i=n.length:=by
      have:=(gSq.mp G).1;rw[lAq,lSq]at this;lia
     subst hi;rw[gYq (ai _),dX]at G;cases G;rw[l]at M O;rw[hu]at M;rw[hv]at O;cases M;cases O;exact H _ _ (aR B) hP
  .have sle:s.heap.objs.size<=h2.objs.size:=by rw[C];exact bZ lT
   refine Q h3 Ts3 c3 a1 a2 a3 (λT l=>?_) (λb o b1 b2 b3 L b5 e=>a5 b o b1 b2 b3 L b5 (H b o b5 (kp b o b1 b2 b3 L e)))
   rcases a4 T l with q|q
   .rcases mAq.mp q with q|q
    .exact .inl q
    .rw [mSq.mp q];exact .inr (ai _)
   .exact .inr (bw sle q)
theorem IP{Q:List Value->Shared->Prop}(hh:A.handled=none) (D:jY z TI TO i1 i2 l1 l2) (y:IsZip s.heap z TI TO .none) (B:km s.heap TI (.ref i1) (.ref i2)) (l:∃a b,km s.heap TO a b) (h1:s.heap.IsListIter i1 l1 0) (h2:s.heap.IsListIter i2 l2 0) (C:s.heap.IsList l1 us.toArray) (G:s.heap.IsList l2 ws.toArray) (H:us.length=ws.length) (hsz:us.length<=jn)
  (h:∀h' (n:List Addr),n.length=us.length->n.Nodup->(∀T∈n,s.heap.objs.size<=T)->(∀(i:Nat) (T:Addr) (u v:Value),n[i]?=some T->us[i]?=some u->ws[i]?=some v->km h' T u v)->(∀b o,b≠z->b≠TO->b≠i1->b≠i2->s.heap.get? b=some o->h'.get? b=some o)->s.heap.objs.size<h'.objs.size->Q (n.map aE) { s with heap:=h' }) :
  jj (jm prog w) A (mB (.ref z)) Q E s:=by
 unfold mB;refine ji (wpAny_runValue (jz mJ ?_));show jj _ _ (do again (.builtin "list.__iadd__" ⟨[←newList [],.ref z],[]⟩)) _ _ s
 refine ji (jX (jk ⟨Code.quiet_builtin _ (by decide +kernel),jz entry_list_iadd' ?_⟩))
 show jj _ _ (Builtin.List.listExtendWith (.ref s.heap.objs.size) (.ref z) (.ref s.heap.objs.size)) _ _ { s with heap:=s.heap.push (ju "list" #[] 0) }
 have M:∀b o,s.heap.get? b=some o->(s.heap.push (ju "list" #[] 0)).get? b=some o:=λb o e=>aj _ e
 have I:(s.heap.push (ju "list" #[] 0)).get? s.heap.objs.size=some (ju "list" #[] 0):=aL _ rfl;have zl:=ae y;obtain⟨ta,tb,l⟩:=l;have lt:∀c∈[z,TI,TO,i1,i2,l1,l2],c≠s.heap.objs.size:=λc J=>by
  refine aq ?_;simp only[ar,cK,or_false]at J;rcases J with rfl|rfl|rfl|rfl|rfl|rfl|rfl
  .exact ae y
  .exact ae B
  .exact ae l
  .obtain ⟨_,q,_⟩:=h1;exact ae q
  .obtain ⟨_,q,_⟩:=h2;exact ae q
  .obtain ⟨_,q,_⟩:=C;exact ae q
  .obtain ⟨_,q,_⟩:=G;exact ae q
 have r:Shared.TypeIs { s with heap:=s.heap.push (ju "list" #[] 0) } (.ref z) "zip" := ⟨_,M _ _ y,rfl⟩
 unfold Builtin.List.listExtendWith;refine ji (jL r ?_);rw[qk (by
  have:Builtin.List.listSameRef (.ref s.heap.objs.size) (.ref z)=false:=by
   show (s.heap.objs.size == z)=false;exact beq_eq_false_iff_ne.mpr (aR zl)
  rw[this];decide)]
 refine ji (kN (M _ _ y) ?_);refine ji (jA (O6 r ?_));rw[pQ (by rfl)]
 refine ji (mL ?_);unfold Builtin.List.listTouch;refine ji (ji (jP I rfl ?_));have O:=jW I (λx=>x.push fS)
 have P:gR s.heap.objs.size (s.heap.push (ju "list" #[] 0)) ((s.heap.push (ju "list" #[] 0)).update s.heap.objs.size (Obj.mapSeq λx=>x.push fS)):=λb o b1 e=>by rw[bu _ _ _ _ b1];exact e
 have U:((s.heap.push (ju "list" #[] 0)).update s.heap.objs.size (Obj.mapSeq λx=>x.push fS)).objs.size=s.heap.objs.size+1:=by rw[bL,kZ]
 generalize (s.heap.push (ju "list" #[] 0)).update s.heap.objs.size (Obj.mapSeq λx=>x.push fS)=L at O P U
 refine jP O rfl ?_;have g2:=jW O (λx=>x.pop)
 have X:gR s.heap.objs.size L (L.update s.heap.objs.size (Obj.mapSeq λx=>x.pop)):=λb o b1 e=>by rw[bu _ _ _ _ b1];exact e
 have Y:(L.update s.heap.objs.size (Obj.mapSeq λx=>x.pop)).objs.size=s.heap.objs.size+1:=by rw[bL,U]
 generalize L.update s.heap.objs.size (Obj.mapSeq λx=>x.pop)=G2 at g2 X Y
 have kp:∀b o,b≠s.heap.objs.size->s.heap.get? b=some o->G2.get? b=some o:=λb o b1 e=>X b o b1 (P b o b1 (M b o e))
 have t:∀c∈[z,TI,TO,i1,i2,l1,l2],∀o,s.heap.get? c=some o->G2.get? c=some o:=λc J o e=>kp c o (lt c J) e
 refine jk ⟨jJ An _,TK (by simp[hh]) D lt H hsz us.length 0 { s with heap:=G2 } [] _ (fP _) (ba _) rfl ⟨.inl (t _ (by simp) _ y),t _ (by simp) _ B,⟨_,_,t _ (by simp) _ l⟩,h1.at λo e=>t _ (by simp) o e,h2.at λo e=>t _ (by simp) o e,C.at λo e=>t _ (by simp) o e,G.at λo e=>t _ (by simp) o e⟩ g2 ⟨aY,λT r=>(by cases r),λT r=>(by cases r),λi T u v e=>(by cases e)⟩ λh3 n c3 a1 a2 a3 a4 a5=>?_⟩
 show jj (jm prog w) A (do
   let o ←load s.heap.objs.size
   match o.data with
   | .seq xs _=>pure xs.toList
   |_=>lY "internal:collect") Q E { s with heap:=h3 }
 refine ji (wpAny_load a2 ?_);refine jk ?_;show Q ((n.map aE).toArray.toList) _;rw[List.toList_toArray];refine h h3 n a1 a3.nd (λT r=>?_) a3.pr (λb o b1 b2 b3 b4 e=>a5 b o b1 b2 b3 b4 (aq (ae e)) (kp b o (aq (ae e)) e)) (ae a2)
 rcases a4 T r with q|q
 .cases q
 .have q:G2.objs.size<=T:=q;rw[Y]at q;lia
end
end Mo
namespace MrS
open PySem PyProof.Rows
section
variable {prog:jo}{w:jt}{A:Around}{E:Value->Shared->Prop}{s:Shared}{Pk:List Value->jq->Prop}{lt:List Value->jq->jq->Bool}{κ:jI}
theorem HQ{v:Value}{F:List Value->Heap->Prop}{Q:Value->Shared->Prop}(hh:A.handled=none)
  (t:∀(J:Around) (R:Value->Shared->Prop) (L:List Value->Shared->Prop),J.handled=none->(∀vs h0 n,F vs h0->L vs { s with heap:=h0,toks:=n })->jj (jm prog w) J (mB v) L R s)
  (S:∀vs h0,F vs h0->vs.length<64/\(∀u∈vs,Pk vs (u,u))/\∀z:Shared,(∀b o,h0.get? b=some o->z.heap.get? b=some o)->(2<=vs.length->∀Q:jI->Shared->Prop,Q κ z->jj (jm prog w) A.in1.in1 (kQ vs.toArray) Q E z)/\B2 prog w A.in1.in1 z κ (Pk vs) (lt vs))
  (h:∀(vs out:List Value) (h0 h':Heap) (p:Addr) (n U:Nat),F vs h0->out.Perm vs->out.Pairwise (λx y=>lt vs (y,y) (x,x)=false)->(∀b o,h0.get? b=some o->h'.get? b=some o)->h0.objs.size=p ->
   h'.get? p=some (ju "list" out.toArray U)->Q (.ref p) { s with heap:=h',toks:=n }) :
  jj (jm prog w) A (call (.builtin "sorted") [v]) Q E s:=by
 refine Calls.call_function_entry mh lN lO (lR _) ?_;unfold Builtin.«sorted»;refine ji (m:=mM "sorted" 1 1 _) (jk ?_);refine ji (t _ _ _ hh λvs h0 n M=>?_)
 obtain⟨X,Y,C⟩:=S vs h0 M;refine ji (jX ?_ (by rw[jy];lia))
 have l:(h0.push (ju "list" vs.toArray 0)).get? h0.objs.size=some (ju "list" vs.toArray 0):=aL _ rfl;show jj _ _ _ _ _ { s with heap:=h0.push (ju "list" vs.toArray 0),toks:=n }
 have O:∀b o,h0.get? b=some o->(h0.push (ju "list" vs.toArray 0)).get? b=some o:=λb o e=>aj _ e
 have r:∀b o,h0.get? b=some o->b≠h0.objs.size:=λb o e=>aq (ae e)
 generalize h0.push (ju "list" vs.toArray 0)=G at l O ⊢;generalize H:h0.objs.size=p at l r ⊢;have P:∀b o,h0.get? b=some o->(qX G p vs).get? b=some o:=λb o e=>by
  refine aj _ (aj _ ?_);rw[bu _ _ _ _ (r b o e)];exact O b o e
 obtain⟨q1,q2⟩:=C { s with heap:=qX G p vs,toks:=n } P
 refine ji (jA (jR lh ⟨_,l,rfl⟩ kY (By (s:={ s with heap:=G,toks:=n }) (Pk:=Pk vs) (lt:=lt vs) l X q1 q2 (λx hx=>?_) λB a1 a2=>⟨_,rfl,?_⟩) (ly _)))
 .obtain ⟨m1,m2⟩:=uH hx;have:x=(x.1,x.1):=gI rfl m2;rw[this];exact Y _ m1
 .obtain ⟨v1,v2⟩:=xo a1 a2;obtain⟨e1,I⟩:=C3 vs l;obtain⟨n1,g1⟩:=Df (B.map (·.2)) I;refine jk ⟨_,rfl,h vs _ h0 (kh G p vs (B.map (·.2))) p n n1 M v1 v2 (λb o e=>?_) H ?_⟩
  .unfold kh;rw[bu _ _ _ _ (r b o e)];exact P b o e
  .rw [show (B.map (·.2)).toList.toArray=B.map (·.2) from eK]
   exact g1
end
end MrS
namespace Mr
open PySem L2 PySem.Calls
open PySem.Spec PyProof.Rows
section
variable {X:Cx}
theorem Inv.laidS{x:List (Addr×Obj)}{σ:St}{H r:Hp}{s:Shared}{h':Heap}{t':Nat}(I:Inv X x σ H s) (k:∀b u,s.heap.get? b=some u->h'.get? b=some u) (l:pJ H r)
  (new:∀b o,H b=none->r b=some o->s.heap.objs.size<=b/\qT X.prog X.w r h' b o):Inv X x σ r { s with heap:=h',toks:=t' }:=by
 refine I.un ⟨λb u q _ _ _=>k b u q,λb u q _ _ _=>⟨u.slots,k b u q⟩,λb u q n _=>?_,λb u q _=>⟨u,k b u q⟩,λb y q=>l _ _ q,λb u y q=>l _ _ q,λb B q=>⟨#[],by rw[l _ _ q];simp⟩⟩ λb o e=>?_
 .cases e:r b with
  |none=>rfl
  |some o=>exact absurd (ae q) (Nat.not_lt_of_le (new b o n e).1)
 .cases t:H b with
  |none=>exact(new b o t e).2
  |some C =>
   have z:=l _ _ t;rw[e]at z;cases z;exact(I.hok b o t).stay (λc v _ q=>k c v q) (λc q=>l _ _ q) λc y q=>l _ _ q
structure WR (h h0:Heap) (Ts:List Addr) (rs:List (List Int)):Prop where
 len:Ts.length=rs.length
 nd:Ts.Nodup
 ge:∀T∈Ts,h.objs.size<=T
 tu:∀(i:Nat) (T:Addr) (r:List Int),Ts[i]?=some T->rs[i]?=some r->∃its,oV (r.map V.int) its/\IsTup h0 T its.toArray
 kp:∀b o,h.get? b=some o->h0.get? b=some o
 le:h.objs.size<=h0.objs.size
def yk(l:List Addr) (rs:List (List Int)) (T:Addr):List Int:=((l.zip rs).lookup T).getD []
theorem GM:∀{l:List Addr}{rs:List (List Int)}{i:Nat}{T:Addr}{r:List Int},l.Nodup->l[i]?=some T->rs[i]?=some r->yk l rs T=r
 | [],_,_,_,_,_,h,_=>by cases h
 |_::_,[],_,_,_,_,_,h=>by cases h
 |a::l,b::rs,0,T,r,_,h1,h2=>by
  cases h1;cases h2;simp[yk]
 |a::l,b::rs,i+1,T,r,nd,h1,h2=>by
  have h1:l[i]?=some T:=by simpa using h1
  have h2:rs[i]?=some r:=by simpa using h2
  have ne:T≠a:=λz=>(aB.mp nd).1 (z ▸ mGq h1)
  have:=GM (aB.mp nd).2 h1 h2;unfold yk at this ⊢;rw[cv,List.lookup_cons,beq_false_of_ne ne];exact this
theorem Qg{n:List Addr}{rs:List (List Int)}(nd:n.Nodup) (l:n.length=rs.length):n.map (yk n rs)=rs:=by
 refine dC λi=>?_
 rw[gMq]
 by_cases c:i<n.length
 .rw [gEg c,gEg (l ▸ c)];exact congrArg some (GM nd (gEg c) (gEg (l ▸ c)))
 .rw [bb (gq c),bb (by lia)]
  rfl
theorem WR.at{h h0:Heap}{n:List Addr}{rs:List (List Int)}(P:WR h h0 n rs) {T:Addr}(t:T∈n):yk n rs T∈rs/\∃l,oV ((yk n rs T).map V.int) l/\IsTup h0 T l.toArray:=by
 obtain⟨i,r⟩:=ay.mp t;have s:=(gSq.mp r).1;have hr:rs[i]?=some (rs[i]'(P.len ▸ s)):=gEg (P.len ▸ s);rw[GM P.nd r hr];exact⟨mGq hr,P.tu i T _ r hr⟩
def Za(H:Hp) (rs:List (List Int)) (Q:VK):Prop:=∀(l:Hp) (p:Addr) (n:List Addr),pJ H l->H p=none->p∉n->(∀q∈n,H q=none)->n.Nodup->l p=some (.lst (n.map V.ref))->(∀q∈n,l q=some (.tup ((su l q).map V.int)))->n.map (su l)=uf rs->Q (.ref p) l
theorem Ky{nA:List (Addr×Obj)}{σ:St}{H:Hp}{s s0:Shared}{v:Value}{rs:List (List Int)}{Q:VK}{E:Value->Shared->Prop}(hc:X.calm=true) (I:Inv X nA σ H s) (S:∀(h:Heap) (t:Nat),{ s0 with heap:=h,toks:=t }={ s with heap:=h,toks:=t }) (U:∀r∈rs,r≠[]/\r.length<=jn) (hz:rs.length<64)
  (Y:∀(A':Around) (E':Value->Shared->Prop) (Q':List Value->Shared->Prop),A'.handled=none->(∀h0 tk y,WR s.heap h0 y rs->Q' (y.map aE) { s with heap:=h0,toks:=tk })->jj (jm X.prog X.w) A' (mB v) Q' E' s0)
  (q:Za H rs Q):jj (jm X.prog X.w) X.A (call (.builtin "sorted") [v]) (λu M=>∃v G,Inv X nA σ G M/\qc v u/\Q v G) E s0:=by
 have key:∀(y:List Addr) (h0:Heap),WR s.heap h0 y rs->∀M:Shared,(∀b o,h0.get? b=some o->M.heap.get? b=some o)->∀p∈y,HT.vU M.heap p (yk y rs p):=λy h0 P M k p J=>by
  obtain⟨_,L,rv,o,ho,oY⟩:=P.at J;exact⟨L,⟨o,k _ _ ho,oY⟩,xk rv⟩
 have ad:∀y:List Addr,(y.map aE).map qo=y:=λy=>by rw[mPq,show qo∘aE=id from rfl,cW]
 refine MrS.HQ (κ:=tuples' true) (Pk:=λR x=>∃p,x.1 = .ref p/\p∈R.map qo) (lt:=λR=>Zi (yk (R.map qo) rs)) (F:=λR h0=>∃y,R=y.map aE/\WR s.heap h0 y rs) (I.ok.hd hc) (λA' E' Q' hA k=>Y A' E' Q' hA λh0 tk y P=>?_) (λR h0 hF=>?_) λR out h0 h' p tk n' hF o1 o2 o3 J o4=>?_
 .rw [←S];exact k _ h0 tk ⟨y,rfl,P⟩
 .obtain ⟨y,rfl,P⟩:=hF;refine⟨by rw[lMq,P.len];exact hz,λu hu=>?_,λM k=>?_⟩
  .obtain ⟨p,J,rfl⟩:=mMq.mp hu;exact⟨p,rfl,by rw[ad];exact J⟩
  .rw [ad];exact⟨λh2 Q q=>QT (by simpa using h2) (key y h0 P M k) (λp J=>(U _ (P.at J).1).1) q,UK (key y h0 P M k)⟩
 .obtain ⟨y,rfl,P⟩:=hF;rw[ad]at o2;have ho:∀v∈out,∃p∈y,v = .ref p:=λv m=>by
   obtain⟨p,J,rfl⟩:=mMq.mp (o1.mem_iff.mp m);exact⟨p,J,rfl⟩
  have eo:out=(out.map qo).map aE:=by
   rw[mPq];have e:=mCq (l:=out) (f:=id) (g:=aE∘qo) λv hv=>by
    obtain⟨p,_,rfl⟩:=ho v hv;rfl
   rw[←e,cW]
  have O:(out.map qo).Perm y:=by
   have:=o1.map qo;rw[ad]at this;exact this
  generalize out.map qo=B at eo O;subst eo;have es:B.map (yk y rs)=uf rs:=by
   refine yR ?_ ?_
   .have:=O.map (yk y rs);rw[Qg P.nd P.len]at this;exact this
   .rw [aF];rw[aF]at o2;exact o2
  have szl:s.heap.objs.size<=p:=by rw[←J];exact P.le
  have pq:∀T∈B,T≠p:=λT C=>by
   obtain⟨_,L,_,o,e,_⟩:=P.at (O.mem_iff.mp C);rw[←J];exact aq (ae e)
  have fr:∀T∈B,H T=none:=λT C=>I.hok.fresh (P.ge T (O.mem_iff.mp C))
  have frp:H p=none:=I.hok.fresh szl;have hto:∀G:Hp,(∀T∈B,G T=some (.tup ((yk y rs T).map V.int)))->∀T∈B,su G T=yk y rs T:=λG h T C=>DT (h T C)
  have h2:∀T∈B,(λb=>if b=p then some (HO.lst (B.map V.ref)) else if b∈B then some (HO.tup ((yk y rs b).map V.int)) else H b:Hp) T=some (.tup ((yk y rs T).map V.int)):=λT C=>by
   show (if T=p then _ else _)=_
   rw[qk (pq T C),pQ C]
  have h3:(λb=>if b=p then some (HO.lst (B.map V.ref)) else if b∈B then some (HO.tup ((yk y rs b).map V.int)) else H b:Hp) p=some (.lst (B.map V.ref)):=pQ rfl
  have h4:pJ H (λb=>if b=p then some (HO.lst (B.map V.ref)) else if b∈B then some (HO.tup ((yk y rs b).map V.int)) else H b:Hp):=λb o e=>by
   have n1:b≠p:=λz=>by rw[z,frp]at e;cases e
   have n2:b∉B:=λz=>by rw[fr b z]at e;cases e
   show (if b=p then _ else _)=_
   rw[qk n1,qk n2];exact e
  have h5:∀b o,H b=none->(λb=>if b=p then some (HO.lst (B.map V.ref)) else if b∈B then some (HO.tup ((yk y rs b).map V.int)) else H b:Hp) b=some o->(b=p/\o = .lst (B.map V.ref))∨(b∈B/\o = .tup ((yk y rs b).map V.int)):=λb o n e=>by
   have e:(if b=p then some (HO.lst (B.map V.ref)) else if b∈B then some (HO.tup ((yk y rs b).map V.int)) else H b)=some o:=e
   split at e
   .rename_i z;cases e;exact .inl ⟨z,rfl⟩
   .split at e
    .rename_i z;cases e;exact .inr ⟨z,rfl⟩
    .rw [n]at e;cases e
  generalize (λb=>if b=p then some (HO.lst (B.map V.ref)) else if b∈B then some (HO.tup ((yk y rs b).map V.int)) else H b:Hp)=G at h2 h3 h4 h5
  have tq:=hto G h2;rw[S];refine⟨.ref p,G,Inv.laidS I (λb u e=>o3 b u (P.kp b u e)) h4 λb o n e=>?_,rfl,q G p B h4 frp (λm=>pq p m rfl) fr (O.nodup_iff.mpr P.nd) h3 (λT C=>by rw[tq T C];exact h2 T C) ?_⟩
  .rcases h5 b o n e with ⟨rfl,rfl⟩|⟨hb,rfl⟩
   .exact ⟨szl,by rw[lMq,O.length_eq,P.len];rw[jy];lia,_,n',xY B,o4⟩
   .obtain ⟨m1,L,rv,ob,e1,oY⟩:=P.at (O.mem_iff.mp hb);exact⟨P.ge b (O.mem_iff.mp hb),by rw[lMq];exact(U _ m1).2,L,rv,ob,o3 _ _ e1,oY⟩
  .rw [←es];exact mCq λT C=>tq T C
def Zu(K:W.Frag) (xs:List V) (H:Hp) (Q:VK):Prop:=∃(a b:Addr) (ns ms:List Int),xs=[.ref a,.ref b]/\ns.length<64/\qV K H a (ns.map V.int)/\qV K H b (ms.map V.int)/\ns.length=ms.length/\Za H (cc (λx y=>[x,y]) ns ms) Q
theorem Rq{e f:Expr}{ta:TA}{p0 p n pos:Pos}(hc:X.calm=true) (gl:Gl X "sorted") (ml:X.mg "sorted" = none) (hg:Gl X "zip") (hm:X.mg "zip" = none) (ha:PA X [e,f] ta)
  (he:jv [.Call (.Name "zip" p) [e,f] [] pos] X.env=(false,eval (.Call (.Name "zip" p) [e,f] [] pos) X.env)::jv [] X.env:=by rfl) (hs:jv [e,f] X.env=[(false,eval e X.env),(false,eval f X.env)]:=by rfl) (t:jv [f] X.env=[(false,eval f X.env)]:=by rfl) :
  PE X (.Call (.Name "sorted" p0) [.Call (.Name "zip" p) [e,f] [] pos] [] n) (Hh (Zu X.K) ta):=by
 intro nA s σ H Q I h;refine jS (vm I gl ml boot_sorted ?_ (by decide) (by decide))
 refine fG ?_ he (by rfl)
 rw[he];show jj _ _ (mU ((false,eval (.Call (.Name "zip" p) [e,f] [] pos) X.env)::kC n (jv [] X.env))) _ _ s;refine Calls.spliced_cons ?_;refine Call_ (vm I hg hm boot_zip (bo (sv (ha pos nA s σ H _ I h) λus l C=>?_) (by rw[hs,t]) (by rw[t];rfl)))
 obtain⟨vs,H1,E,G,q1⟩:=C;obtain⟨a,b,ns,ms,J,hf,L,M,hl,q⟩:=q1;subst J;obtain⟨u,v,rfl,ru,rv⟩:=LZ G;cases ru;cases rv;obtain⟨its1,v1,O,z1⟩:=E.list L;obtain⟨its2,v2,P,z2⟩:=E.list M;have n1:=v1.length;have n2:=v2.length;rw[lMq]at n1 n2 z1;have al:a<l.heap.objs.size:=let ⟨_,R,_⟩:=O.isList;ae R
 have bl:b<l.heap.objs.size:=let ⟨_,R,_⟩:=P.isList;ae R
 refine call_zip_2 O.isList P.isList λg hz S U h1 h2 Y hk=>Calls.spliced_nil ?_
 have D:jY (l.heap.objs.size+4) (l.heap.objs.size+2) (l.heap.objs.size+3) l.heap.objs.size (l.heap.objs.size+1) a b:=zipApart_new al bl;have hsz':g.objs.size=l.heap.objs.size+5:=Y;have lz:(cc (λx y=>[x,y]) ns ms).length=ns.length:=by rw[eW];lia
 refine Ky (s0:={ l with heap:=g }) hc E (λ_ _=>rfl) (λr hr=>?_) (by rw[lz];exact hf) (λA' E' Q' hA k=>?_) q
 .obtain ⟨i,z⟩:=ay.mp hr;rw[du]at z;split at z
  .cases z;exact⟨by simp,by rw[jy];simp⟩
  .cases z
 .refine Mo.IP (s:={ l with heap:=g }) hA D hz S ⟨_,_,U⟩ h1 h2 (O.isList.at λo e=>hk _ o e) (P.isList.at λo e=>hk _ o e) (by lia) (by lia) λh' Ts a1 a2 a3 a4 a5 a6=>?_
  have a3:∀T∈Ts,g.objs.size<=T:=a3;have a6:g.objs.size<h'.objs.size:=a6;refine k h' _ Ts ⟨by lia,a2,λT hT=>by have:=a3 T hT;lia,λi T r J B=>?_,λb o e=>?_,by lia⟩
  .rw [du]at B;split at B
   .rename_i x y ex ey;cases B;obtain⟨u1,g1,G⟩:=v1.get (i:=i) (x:=.int x) (by rw[gMq,ex];rfl)
    obtain⟨u2,g2,r2⟩:=v2.get (i:=i) (x:=.int y) (by rw[gMq,ey];rfl)
    exact⟨[u1,u2],.cons G (.cons r2 .nil),_,a4 i T u1 u2 J g1 g2,rfl,_,rfl⟩
   .cases B
  .have lt:b<l.heap.objs.size:=ae e;exact a5 b o (aq (dm 4 lt)) (aq (dm 3 lt)) (aq lt) (aq (dm 1 lt)) (hk b o e)
end
end Mr
namespace HT
open PySem PyProof.Rows
open PySem.SeqAt
open PySem.AutoSeq1 (wpAny_loadPart')
open PySem.MeetsSeq PySem.MeetsSeq2 PySem.MeetsSeq3
def CA(h:Heap) (ps:List Addr) (rs:List (List Int)):Prop:=∀(i:Nat) (p:Addr) (r:List Int),ps[i]?=some p->rs[i]?=some r->vU h p r
theorem K2{h:Heap}{ps:List Addr}{rs:List (List Int)}(hr:CA h ps rs) {items:Array Value}(s:items.toList=ps.map aE) (hl:ps.length=rs.length) {i:Nat}(h1:i<items.size):∃p r,items[i]?=some (.ref p)/\rs.drop i=r::rs.drop (i+1)/\vU h p r:=by
 have z:ps.length=items.size:=by
  have:=congrArg bp s;rw[lMq,bI]at this;exact this.symm
 obtain⟨p,t⟩:∃p,ps[i]?=some p:=⟨_,gEg (by lia)⟩
 obtain⟨r,l⟩:∃r,rs[i]?=some r:=⟨_,gEg (by lia)⟩
 refine⟨p,r,?_,?_,hr i p r t l⟩
 .rw [←dr,s,gMq,t];rfl
 .obtain ⟨n,e⟩:=gSq.mp l;rw[aX n,e]
theorem EJ(l b:Addr) (items items2:Array Value) (n n2:Nat) (dd I:Option Addr) (sl J:Array (Option Value)) (ps L:List Addr) (rs u:List (List Int)) (X:items.toList=ps.map aE) (Y:items2.toList=L.map aE) (lr:ps.length=rs.length) (ls:L.length=u.length) (k:Nat) :
  ∀i:Nat,min items.size items2.size-i=k->i<=items.size->i<=items2.size->Meets (Builtin.«list.__eq__.loop» ⟨[.ref l,.ref b,mD i,mD 0],[]⟩)
   (λA R s=>A.units+32<jD/\CA s.heap ps rs/\CA s.heap L u/\s.heap.get? l=some { cls:=.type "list", dict:=dd,data:=.seq items n,slots:=sl }/\s.heap.get? b=some { cls:=.type "list", dict:=I,data:=.seq items2 n2,slots:=J } /\
    R (.ok (.ret (.bool (xG (rs.drop i) (u.drop i))))) s):=by
 have z1:rs.length=items.size:=by
  have:=congrArg bp X;rw[lMq,bI]at this;lia
 have z2:u.length=items2.size:=by
  have:=congrArg bp Y;rw[lMq,bI]at this;lia
 induction k with
 |zero =>
  intro i hk h1 h2 prog w A R s h;obtain⟨C,g,d,G,os⟩:=s;obtain⟨hu,M,O,hl,B,h⟩:=h
  wp_walk using wpAny_loadPart' hl,wpAny_loadPart' B
  have P:xG (rs.drop i) (u.drop i)=decide (items.size<items2.size):=by
   by_cases c:i=items.size
   .have e1:rs.drop i=[]:=bz (by lia)
    rw[e1]
    by_cases c2:i<items2.size
    .rw [aX (by lia:i<u.length)]
     exact(decide_eq_true (by lia)).symm
    .rw [bz (by lia:u.length<=i)]
     exact(decide_eq_false (by lia)).symm
   .have c2:i=items2.size:=by lia
    rw[bz (by lia:u.length<=i)]
    have e0:xG (rs.drop i) []=false:=by cases rs.drop i <;> rfl
    rw[e0];exact(decide_eq_false (by lia)).symm
  rw[P]at h
  by_cases c:i=items.size
  .have r:items[((i:Nat):Int).toNat]?=none:=by simp;lia
   rw[r]
   wp_walk using wpAny_loadPart' hl,wpAny_loadPart' B
   exact h
  .have c2:i=items2.size:=by lia
   have r:items[((i:Nat):Int).toNat]?=some (items[i]'(by lia)):=by simp
   have t:items2[((i:Nat):Int).toNat]?=none:=by simp;lia
   rw[r,t]
   wp_walk using wpAny_loadPart' hl,wpAny_loadPart' B
   exact h
 |succ k ih =>
  intro i hk h1 h2 prog w A R s h;obtain⟨C,g,d,G,os⟩:=s;obtain⟨hu,M,O,hl,B,h⟩:=h
  wp_walk using wpAny_loadPart' hl,wpAny_loadPart' B
  have S:i<items.size:=by lia
  have H:i<items2.size:=by lia
  obtain⟨p,x,ex,dx,px⟩:=K2 M X lr S;obtain⟨q,y,ey,dy,py⟩:=K2 O Y ls H;have r:items[((i:Nat):Int).toNat]?=some (.ref p):=by
   rw[←ex];simp
  have t:items2[((i:Nat):Int).toNat]?=some (.ref q):=by
   rw[←ey];simp
  have hc:((i:Int)+1)=((i+1:Nat):Int):=by push_cast;rfl
  rw[dx,dy,xG]at h;rw[r,t];have he:SeqAt.EqAt A.in1 ⟨C,g,d,G,os⟩ (.ref p) (.ref q) (decide (x=y)):=vU.eq (s:=⟨C,g,d,G,os⟩) px py (by show A.units+1+4<jD;lia)
  refine ji (he prog w _ _ ?_)
  by_cases e:x=y
  .rw [pQ e]at h;rw[decide_eq_true e]
   wp_walk
   rw[hc];exact⟨jJ plain_eq_loop _,jz entry_eq_loop (by
    rw[Around.under_plainId plain_eq_loop _];exact ih (i+1) (by lia) (by lia) (by lia) prog w A R _ ⟨hu,M,O,hl,B,h⟩)⟩
  .rw [qk e]at h;rw[decide_eq_false e];have U:∀(E:Value->Shared->Prop) (Q:Value->Shared->Prop),Q (.bool (qw x y)) ⟨C,g,d,G,os⟩->jj (jm prog w) A.in1 (mV .Lt (.ref p) (.ref q)) Q E ⟨C,g,d,G,os⟩:=λE Q z=>vU.lt (s:=⟨C,g,d,G,os⟩) px py (by show A.units+1+4<jD;lia) prog w E Q z
   wp_walk using wpAny_loadPart' hl,wpAny_loadPart' B
   rw[r,t]
   wp_walk using U
   exact h
theorem Ph(l b:Addr) (items items2:Array Value) (n y:Nat) (dd r:Option Addr) (sl t:Array (Option Value)) (ps u:List Addr) (rs x:List (List Int)) (B:items.toList=ps.map aE) (C:items2.toList=u.map aE) (E:ps.length=rs.length) (G:u.length=x.length) :
  Meets (Builtin.«list.__lt__» ⟨[.ref l,.ref b],[]⟩)
   (λA R s=>A.units+32<jD/\CA s.heap ps rs/\CA s.heap u x/\s.heap.get? l=some { cls:=.type "list", dict:=dd,data:=.seq items n,slots:=sl }/\s.heap.get? b=some { cls:=.type "list", dict:=r,data:=.seq items2 y,slots:=t } /\
    R (.ok (.ret (.bool (xG rs x)))) s):=by
 intro prog w A R s h;obtain⟨L,g,d,M,os⟩:=s;obtain⟨H,I,J,hl,z,h⟩:=h;have O:=AutoSeq1.sub_list_list
 wp_walk using wpAny_loadPart' hl,wpAny_loadPart' z
 exact⟨jJ plain_eq_loop _,jz entry_eq_loop (by
  rw[Around.under_plainId plain_eq_loop _];exact EJ l b items items2 n y dd r sl t ps u rs x B C E G _ 0 rfl (ba _) (ba _) prog w A R _ ⟨H,I,J,hl,z,h⟩)⟩
end HT
namespace Mr
open PySem PySem.Spec PyProof.Rows L2
def Cv(h:Heap) (p:Addr) (m:List (List Int)):Prop:=∃l:List Addr,mF h p (l.map aE).toArray/\HT.CA h l m/\l.length=m.length
theorem XC{prog:jo}{w:jt}{A:Around}{s:Shared}{ps:List Addr}{r:Addr->List (List Int)}(hu:A.units+40<jD)
  (h:∀p∈ps,Cv s.heap p (r p)):MrS.B2 prog w A s ko (λx=>∃p,x.1 = .ref p/\p∈ps) (ZH r) where
 ask:=by
  rintro⟨_,x⟩ ⟨_,y⟩ ⟨p,l,P⟩ ⟨q,t,R⟩ E Q k;dsimp only at l t;subst l t;obtain⟨us,⟨o,n,H,L,B,hd⟩,S,U⟩:=h p P;obtain⟨ws,⟨X,Y,I,C,u,G⟩,hj,lj⟩:=h q R;obtain⟨cls,dd,data,sl⟩:=o;obtain⟨M,dd2,data2,J⟩:=X;simp only at L B hd C u G;subst L B hd C u G;rw[lq,oneLt'_eq];simp only[if_true];refine ji (wpAny_cRoomFor (by lia) ?_)
  refine ji (kT ⟨_,H,rfl⟩ F.slot_list_lt (ki F.slot_list_lt ⟨_,H,rfl⟩ F.entry_list_lt (F.args_list_lt_2 _ _)
   (HT.Ph p q _ _ n Y none none sl J us ws (r p) (r q) (by simp) (by simp) U lj) ⟨?_,S,hj,H,I,?_⟩))
  .first
    | (show A.units+32<jD;lia)
    | (show A.units+1+32<jD;lia)
    | (show A.units+1+1+32<jD;lia)
  .exact jE k
 asym:=by
  rintro⟨_,x⟩ ⟨_,y⟩ ⟨a,l,_⟩ ⟨b,t,_⟩ h;dsimp only at l t;subst l t;exact HT.Cf _ _ h
 trans:=by
  rintro⟨_,x⟩ ⟨_,y⟩ ⟨_,z⟩ ⟨a,l,_⟩ ⟨b,t,_⟩ ⟨c,O,_⟩ h1 h2;dsimp only at l t O;subst l t O;exact HT.A5 _ _ _ h1 h2
def Je(H:Hp) (p:Addr) (m:List (List Int)):Prop:=∃l:List Addr,H p=some (.lst (l.map V.ref))/\CO H l m
def AG(H:Hp) (p:Addr):List (List Int):=match H p with
 |some (.lst vs)=>vs.map λv=>match v with|.ref q=>su H q|_=>[]
 |_=>[]
theorem Je.eq{H:Hp}{p:Addr}{m:List (List Int)}(h:Je H p m):AG H p=m:=by
 obtain⟨l,h1,h2⟩:=h;unfold AG;rw[h1,h2.1];show (l.map V.ref).map _=_;rw[mPq];rfl
theorem CO.same{H n:Hp}{ps:List Addr}{rs:List (List Int)}(h:CO H ps rs) (s:pJ H n):CO n ps rs:=by
 have e:∀p∈ps,su n p=su H p:=λp l=>DT (s _ _ (h.2 p l))
 exact⟨by rw[h.1];exact mCq λp l=>(e p l).symm,λp l=>by rw[e p l];exact s _ _ (h.2 p l)⟩
def Qo(H:Hp) (ps:List Addr) (ms:List (List (List Int))):Prop:=ms=ps.map (AG H)/\∀p∈ps,Je H p (AG H p)
section
variable {X:Cx}
theorem Ws{n:List (Addr×Obj)}{σ:St}{H:Hp}{s:Shared}(I:Inv X n σ H s) {p:Addr}{m:List (List Int)}(h:Je H p m):Cv s.heap p m:=by
 obtain⟨t,h1,h2,u⟩:=h;obtain⟨x,y,z,_⟩:=I.list (qV.of h1);have B:=wz y;subst B;refine⟨t,z,λi q r l hr=>?_,by rw[h2,lMq]⟩
 rw[h2,gMq,l]at hr;have hr:su H q=r:=by simpa using hr
 rw[←hr];exact WJ I (u q (mGq l))
theorem Cv.keep{h h':Heap}(k:∀b o,h.get? b=some o->h'.get? b=some o) {p:Addr}{m:List (List Int)}(x:Cv h p m):Cv h' p m:=by
 obtain⟨s,⟨o,n,t,oY⟩,hr,hl⟩:=x;exact⟨s,⟨o,n,k _ _ t,oY⟩,λi q r u l=>(hr i q r u l).keep k,hl⟩
theorem G5(hu:X.A.units+64<jD):xv X (.builtin "sorted") (λxs H Q=>∃(a:Addr) (ps:List Addr) (ms:List (List (List Int))),xs=[.ref a]/\ps.length<64/\qV X.K H a (ps.map V.ref)/\Qo H ps ms /\
  ∀(p:Addr) (y:List Addr),H p=none->y.Perm ps->y.map (AG H)=BY ms->Q (.ref p) (qG H p (.lst (y.map V.ref)))):=by
 intro nA s σ H xs us Q I r h;obtain⟨a,ps,ms,rfl,O,P,⟨R,S⟩,q⟩:=h;obtain⟨u,rfl,U⟩:=wQ r;cases U;obtain⟨Y,rv,hl,hz⟩:=I.list P;have ei:=wz rv;subst ei;have n:∀(z:Shared),(∀b o,s.heap.get? b=some o->z.heap.get? b=some o)->∀p∈ps,Cv z.heap p (AG H p):=λz k p t=>(Ws I (S p t)).keep k
 refine MrS.AO (Pk:=λx=>∃p,x.1 = .ref p/\p∈ps) (lt:=ZH (AG H)) hl.isList (by simpa using O) (λz k=>⟨λh2 Q q=>?_,XC (by show X.A.units+1+1+40<jD;lia) (n z k)⟩) (λv m=>?_) λout h' n' L M o3 o4=>?_
 .refine K5 (T := "list") h2 (λv C=>?_) (by rfl) (by rfl) q
  obtain⟨p,t,rfl⟩:=mMq.mp C;obtain⟨vs,pl,_⟩:=n z k p t;intro A Q E s2 k2 q2;obtain⟨o,G,hc,_⟩:=pl.isList;exact jL (T := "list") ⟨o,k2 _ _ G,hc⟩ q2
 .obtain ⟨p,t,rfl⟩:=mMq.mp m;exact⟨p,rfl,t⟩
 .have G:∀v∈out,∃p∈ps,v = .ref p:=λv m=>by
   obtain⟨p,t,rfl⟩:=mMq.mp (L.mem_iff.mp m);exact⟨p,t,rfl⟩
  have J:out=(out.map qo).map aE:=by
   rw[mPq];have e:=mCq (l:=out) (f:=id) (g:=aE∘qo) λv C=>by
    obtain⟨p,_,rfl⟩:=G v C;rfl
   rw[←e,cW]
  have B:(out.map qo).Perm ps:=by
   have:=L.map qo;rw[mPq,show qo∘aE=id from rfl,cW]at this
   exact this
  have t:H (s.heap.objs.size+1)=none:=I.hok.fresh (bR _);generalize out.map qo=y at J B;have es:y.map (AG H)=BY ms:=by
   refine LU (by rw[R];exact B.map _) ?_
   rw[aF];rw[J,aF]at M;exact M
  refine⟨.ref (s.heap.objs.size+1),_,I.laid (t':=s.toks) o3 (bR _) (show qT X.prog X.w _ h' _ (.lst (y.map V.ref)) from ⟨?_,out,n',?_,o4⟩),rfl,q _ y t B es⟩
  .rw [lMq,B.length_eq];simpa using hz
  .rw [J];exact xY y
end
end Mr
namespace Z
open PySem L2 Mr
noncomputable abbrev ve(r:List Int):D:=.tup (r.map .int)
abbrev aP(m:List (List Int)):AV:=.ow (m.map λr=>.sh (ve r))
def Sq:List D->Option (List (List Int))
 | [.list as,.list bs]=>(qC as).bind λns=>(qC bs).bind λms=>if ns.length=ms.length then some (cc (λx y=>[x,y]) ns ms) else none
 |_=>none
def Ys(m:ML):MK:=λS=>(m S).bind λx=>(Sq x.1).bind λrs=>uu (rs.length<64) (some (aP (uf rs),x.2))
theorem Zj(m:ML) (S:AS):Ys m S=(m S).bind λx=>(Sq x.1).bind λrs=>uu (rs.length<64) (some (aP (uf rs),x.2)):=rfl
theorem MJ{ns ms:List Int}(h:ns.length=ms.length):Sq [.list (ns.map D.int),.list (ms.map D.int)]=some (cc (λx y=>[x,y]) ns ms):=by
 show ((qC (ns.map D.int)).bind λns=>(qC (ms.map D.int)).bind λms=>if ns.length=ms.length then some (cc (λx y=>[x,y]) ns ms) else none)=_
 rw[qR,qR];simp[h]
noncomputable def kvI:List (oq×D)->Option (List (Int×Int))
 | []=>some []
 | (.inl k,.int v)::r=>(kvI r).map ((k,v) :: ·)
 |_=>none
section
variable {K:W.Frag}{ta:TA}{te:TE}{m:ML}{b:ME}{H₀ Hf₀ Hf Hf1:Hp}{S':AS}{σ:St}{H H1:Hp}{Fs Fs1:List (List Addr)}{rs:List (List Int)}{Q:VK}
theorem JX{l:Hp}:∀{n:List Addr}{rs:List (List Int)},n.map (su l)=rs->(∀q∈n,l q=some (.tup ((su l q).map V.int)))->pK K l (rs.map ve) (n.map V.ref)
 | [],_,rfl,_=>pK.nil
 |q::n,_,rfl,h=>pK.cons (rD.mk_tup (h q (aw ..)) (uE _)) (JX rfl λp r=>h p (mCo _ r))
theorem Vh(y:pP K H₀ Hf₀ Hf1 S' σ H1 Fs1) (B:ze Hf H Fs Hf1 H1 Fs1)
  (q:∀u s x v F,ze Hf H Fs u s x->pP K H₀ Hf₀ u S' σ s x->oZ K u s (aP (uf rs)) v F->xN H₀ H Fs x F->Q v s):Za H1 rs Q:=by
 intro s p t I J G E nd h1 h2 M;have n:∀z∈t,Hf1 z=none:=λz l=>y.sub.free (E z l)
 have O:=(y.laid I).frz (F:=t) (λz l=>⟨y.fr.free (E z l),λm=>(y.mem m).1 (E z l)⟩) n
 have C:∀z∈t,Z.frz Hf1 s t z=s z:=λz l=>Bd l
 have L:∀z∈t,su (Z.frz Hf1 s t) z=su s z:=λz l=>by unfold su;rw[C z l]
 have P:(uf rs).map (λr=>AV.sh (ve r))=((uf rs).map ve).map AV.sh:=by rw[mPq];rfl
 refine q (Z.frz Hf1 s t) s Fs1 (.ref p) [p] ⟨B.sf.trans (sS n),B.sh.trans I,B.own,λb h g=>?_⟩ O ?_ ((xN.one y J).back B)
 .by_cases m:b∈t
  .exact .inl (B.sh.free (E b m))
  .rw [um m]at g;exact B.gr b h g
 .show oZ K _ s (.ow ((uf rs).map λr=>AV.sh (ve r))) (.ref p) [p]
  rw[P];refine oZ.new h1 (by rw[um G];exact y.sub.free J) (JX ?_ λz l=>?_)
  .rw [←M];exact mCq λz l=>L z l
  .rw [L z l,C z l];exact h2 z l
theorem RE(B:Rm K ta m):SK K (Hh (Zu K) ta) (Ys m):=by
 intro H₀ Hf₀ Hf S σ H Fs av S' R e Q q;obtain⟨x,C,e⟩:=oBq.mp e;obtain⟨rs,r,e⟩:=oBq.mp e;obtain⟨s,e⟩:=Bj e;cases e;refine B R (ds:=x.1) (S':=x.2) C _ λHf1 H1 Fs1 vs E G z=>?_
 have sh:∃l n,x.1=[.list (l.map D.int),.list (n.map D.int)]/\l.length=n.length/\rs=cc (λx y=>[x,y]) l n:=by
  unfold Sq at r;split at r
  .rename_i as bs t;obtain⟨l,I,J⟩:=oBq.mp r;obtain⟨n,L,u⟩:=oBq.mp J;split at u
   .rename_i hl;cases u;exact⟨l,n,by rw[t,sY I,sY L],hl,rfl⟩
   .cases u
  .cases r
 obtain⟨l,n,t,hl,rfl⟩:=sh;rw[t]at z;obtain⟨va,w1,rfl,M,O⟩:=z.cons_inv;obtain⟨vb,w2,rfl,P,U⟩:=O.cons_inv;have:=U.nil_inv;subst this;obtain⟨a,X,rfl,Y,g2⟩:=M.list_inv;obtain⟨b,us2,rfl,g3,g4⟩:=P.list_inv;have u1:=qJ g2;have u2:=qJ g4;subst u1;subst u2;exact⟨a,b,l,n,rfl,by rw[eW]at s;lia,qV.of Y,qV.of g3,hl,Vh G E q⟩
def Wi:AV->Option (List Int)
 | .sh (.tup ds)=>qC ds
 |_=>none
def CK:List AV->Option (List (List Int))
 | []=>some []
 |a::r=>(Wi a).bind λt=>(CK r).map (t :: ·)
def JW:List AV->Option (List (List (List Int)))
 | []=>some []
 | .ow as::r=>(CK as).bind λl=>(JW r).map (l :: ·)
 |_=>none
theorem S9{a:AV}{t:List Int}(h:Wi a=some t):a = .sh (ve t):=by
 cases a with
 |sh d =>
  cases d with
  |tup l=>rw[sY (show qC l=some t from h)]
  |_=>cases h
 |_=>cases h
theorem IF:∀{as:List AV}{m:List (List Int)},CK as=some m->as=m.map λr=>.sh (ve r)
 | [],m,h=>by cases h;rfl
 |a::as,m,h=>by
  obtain⟨t,h1,h⟩:=oBq.mp (show ((Wi a).bind λt=>(CK as).map (t :: ·))=some m from h)
  obtain⟨n,h2,l⟩:=oMq.mp h;subst l;rw[IF h2,S9 h1];rfl
theorem LB:∀{as:List AV}{ms:List (List (List Int))},JW as=some ms->as=ms.map aP
 | [],ms,h=>by cases h;rfl
 |a::as,ms,h=>by
  cases a with
  |ow l =>
   obtain⟨r,h1,h⟩:=oBq.mp (show (CK l).bind (λn=>(JW as).map (n :: ·))=some ms from h)
   obtain⟨t,h2,s⟩:=oMq.mp h;subst s;rw[LB h2,IF h1];rfl
  |_=>cases h
theorem EV:∀m:List (List Int),CK (m.map λr=>.sh (ve r))=some m
 | []=>rfl
 |r::m=>by
  show (qC (r.map D.int)).bind (λt=>(CK (m.map λr=>.sh (ve r))).map (t :: ·))=_
  rw[qR,EV m];rfl
theorem HG:∀ms:List (List (List Int)),JW (ms.map aP)=some ms
 | []=>rfl
 |m::ms=>by
  show (CK (m.map λr=>.sh (ve r))).bind (λt=>(JW (ms.map aP)).map (t :: ·))=_
  rw[EV,HG ms];rfl
def GN(k:MK):MK:=λS=>(k S).bind λx=>(QH x.1).bind λl=>(JW l).bind λms=>uu (ms.length<64) (some (.ow ((BY ms).map aP),x.2))
theorem Rl(k:MK) (S:AS):GN k S=(k S).bind λx=>(QH x.1).bind λl=>(JW l).bind λms=>uu (ms.length<64) (some (.ow ((BY ms).map aP),x.2)):=rfl
theorem zF{s:Hp}:∀{m:List (List Int)}{vs:List V},pK K s (m.map ve) vs->∃l,vs=l.map V.ref/\CO s l m
 | [],vs,h=>⟨[],h.nil_inv,rfl,λp t=>by cases t⟩
 |r::m,vs,h=>by
  obtain⟨v,B,rfl,h1,h2⟩:=h.cons_inv;obtain⟨l,rfl,u,x⟩:=zF h2;obtain⟨p,C,rfl,n,g2⟩:=h1.tup_inv;rw[qJ g2]at n;refine⟨p::l,rfl,by rw[ax,DT n,←u],λq y=>?_⟩
  rcases ar.mp y with z|z
  .rw [z,DT n];exact n
  .exact x q z
theorem JH{l:List (List Int)}{v:V}{F:List Addr}(sub:pJ Hf H) (h:oZ K Hf H (aP l) v F):∃p,v = .ref p/\F=[p]/\Je H p l:=by
 obtain⟨p,s,t,rfl,rfl,h1,h2,u⟩:=h.ow_inv;have key:∀{l:List (List Int)}{s:List V}{t:List (List Addr)},pb K Hf H (l.map λr=>AV.sh (ve r)) s t->pK K Hf (l.map ve) s/\t.flatten=[]:=by
  intro l
  induction l with
  |nil =>
   intro s t h;obtain⟨a,b⟩:=h.nil_inv;exact⟨by rw[a];exact pK.nil,by rw[b];rfl⟩
  |cons n O x =>
   intro s t h;obtain⟨v,P,F,y,rfl,rfl,z,B⟩:=pb.cons_inv (a:=.sh (ve n)) h;obtain⟨C,E⟩:=z.sh_inv;subst C;obtain⟨G,g2⟩:=x B;exact⟨pK.cons E G,by rw[fCq,g2];rfl⟩
 obtain⟨I,J⟩:=key u;obtain⟨L,rfl,M⟩:=zF I;rw[J];exact⟨p,rfl,rfl,L,h1,M.same sub⟩
theorem CG(sub:pJ Hf H):∀{ms:List (List (List Int))}{vs:List V}{l:List (List Addr)},pb K Hf H (ms.map aP) vs l->∃ps,vs=ps.map V.ref/\l=ps.map (λp=>[p])/\Qo H ps ms/\∀p∈ps,oZ K Hf H (aP (AG H p)) (.ref p) [p]
 | [],vs,l,h=>by
  obtain⟨a,b⟩:=h.nil_inv;exact⟨[],a,b,⟨rfl,λp n=>by cases n⟩,λp n=>by cases n⟩
 |r::rs,vs,l,h=>by
  obtain⟨v,E,F,u,rfl,rfl,t,x⟩:=pb.cons_inv (a:=aP r) (as:=rs.map aP) h;obtain⟨p,rfl,rfl,h1⟩:=JH sub t;obtain⟨ps,rfl,rfl,⟨y,B⟩,C⟩:=CG sub x;refine⟨p::ps,rfl,rfl,⟨by rw[ax,h1.eq,←y],λq s=>?_⟩,λq s=>?_⟩
  .rcases ar.mp s with z|z
   .rw [z,h1.eq];exact h1
   .exact B q z
  .rcases ar.mp s with z|z
   .rw [z,h1.eq];exact t
   .exact C q z
theorem K7{f:Addr->List (List Int)}:∀{ps:List Addr},(∀p∈ps,oZ K Hf H (aP (f p)) (.ref p) [p])->pb K Hf H ((ps.map f).map aP) (ps.map V.ref) (ps.map λp=>[p])
 | [],_=>.nil
 |p::ps,h=>.cons (h p (aw ..)) (K7 λq l=>h q (mCo _ l))
theorem N5{k:MK}(Y:SK K te k):SK K (Hh (λxs H Q=>∃(a:Addr) (ps:List Addr) (ms:List (List (List Int))),xs=[.ref a]/\ps.length<64/\qV K H a (ps.map V.ref)/\Qo H ps ms /\
  ∀(p:Addr) (n:List Addr),H p=none->n.Perm ps->n.map (AG H)=BY ms->Q (.ref p) (qG H p (.lst (n.map V.ref)))) (tP te wM)) (GN k):=by
 intro H₀ Hf₀ Hf S σ H Fs av S' R e Q q;obtain⟨x,e1,e⟩:=oBq.mp e;obtain⟨avs,u,e⟩:=oBq.mp e;obtain⟨ms,e2,e⟩:=oBq.mp e;obtain⟨s,e⟩:=Bj e;cases e;refine Y R (a:=x.1) (S':=x.2) e1 _ λHf1 H1 Fs1 v F M O P t=>?_
 have B:x.1 = .ow (ms.map aP):=by
  cases B:x.1 with
  |ow as=>rw[B]at u;cases u;rw[LB e2]
  |_=>rw[B]at u;cases u
 rw[B]at P;obtain⟨U,vs,Gs,rfl,rfl,h1,h2,h3⟩:=P.ow_inv;obtain⟨ps,rfl,rfl,E,hn⟩:=CG O.sub h3;rw[BX]at t;refine⟨U,ps,ms,rfl,by rw[E.1,lMq]at s;exact s,qV.of h1,E,λp n G C I=>?_⟩
 obtain⟨t4,R4,n1,n2,n3⟩:=O.new (o:=.lst (n.map V.ref)) G;have X:∀z∈n,z≠p:=λz m e=>by
  obtain⟨_,g,_⟩:=E.2 z (C.mem_iff.mp m);rw[e,G]at g;cases g
 have J:∀z∈n,z∈U::ps:=λz l=>mCo _ (C.mem_iff.mp l)
 rw[←I]at q;refine q _ _ _ (.ref p) (p::(n.map λp=>[p]).flatten) (M.trans t4) R4 (oZ.news oC n1 (K7 λz l=>?_)) ?_
 .have r:=hn z (C.mem_iff.mp l);exact r.keep (.refl _) (λy L=>by rw[mSq.mp L];exact oz (X z l)) λy L=>(r.owned y L).2
 .rw [BX];refine⟨aB.mpr ⟨λm=>X p m rfl,C.nodup_iff.mpr (aB.mp t.nd).2⟩,λz l=>?_,λz l=>?_,λz l=>?_⟩
  .rcases ar.mp l with y|y
   .rw [y];exact n2
   .exact t.fr z (J z y)
  .rcases ar.mp l with y|y
   .rw [y];exact n3
   .exact t.out z (J z y)
  .rcases ar.mp l with y|y
   .rw [y];exact .inl (M.sh.free G)
   .exact t.new z (J z y)
end
end Z
namespace Mr
open PySem PySem.Spec PyProof.Rows L2
section
variable {X:Cx}
theorem QY(B:X.calm=true):xv X (.builtin "any") (λxs H Q=>∃(a:Addr) (bs:List Bool),xs=[.ref a]/\qV X.K H a (bs.map V.bl)/\Q (.bl (bs.any id)) H):=by
 intro R s σ H xs S Q I r h;obtain⟨a,bs,rfl,C,q⟩:=h;obtain⟨u,rfl,E⟩:=wQ r;cases E;obtain⟨G,J,p,U⟩:=I.list C;obtain rfl:=DU J;have hl:=p.isList;have x:a<s.heap.objs.size:=by obtain⟨_,e,_⟩:=hl;exact ae e
 refine call_any_walk (kH hl ?_);refine⟨s.heap.objs.size,[s.heap.objs.size,a],[s.heap.objs.size],(bs.map dQ).toArray.size,_,_,λi=>(bs[i]?).getD true,rfl,Walks.list (A:=X.A.in1) (I.ok.hd B) _ a (aq x) _,⟨⟨_,aL _ rfl,rfl,rfl⟩,hl.push _⟩,λi v Y Q' E' L y=>?_,λh' M O=>?_⟩
 .have e:(bs.map dQ)[i]?=some v:=by simpa using L
  rw[gMq]at e;cases l:bs[i]? with
  |none=>rw[l]at e;cases e
  |some b =>
   rw[l]at e;cases e;simp only[l,cw]at y;exact jE y
 .have e:((aS (bs.map dQ).toArray.size).any λi=>(bs[i]?).getD true)=bs.any id:=by
   rw[aA,lMq,bx,cM,cM];constructor
   .rintro ⟨i,t,z⟩;have n:=aN.mp t;rw[gEg n]at z;exact⟨bs[i],gRq n,z⟩
   .rintro ⟨b,l,z⟩;obtain⟨i,t,rfl⟩:=gZ l;exact⟨i,aN.mpr t,by rw[gEg t];exact z⟩
  rw[e];refine⟨.bl _,H,I.kept (t':=M) λb P z=>O b P (λm=>?_) (aj _ z),rfl,q⟩
  have:b=s.heap.objs.size:=by simpa using m
  exact absurd (ae z) (by rw[this];exact bV _)
end
end Mr
namespace Z
open PySem L2 Mr
def Jy:List D->Option D
 | [.list ds]=>(wo ds).map λbs=>.bl (bs.any id)
 |_=>none
theorem V7{K:W.Frag}:WH K (λxs H Q=>∃(a:Addr) (bs:List Bool),xs=[.ref a]/\qV K H a (bs.map V.bl)/\Q (.bl (bs.any id)) H) Jy:=by
 intro t H Q u d r e q;unfold Jy at e;split at e
 .obtain ⟨bs,n,e⟩:=oMq.mp e;cases e;obtain⟨v,x,rfl,h1,h2⟩:=r.cons_inv;rw[h2.nil_inv];rw[Bc n]at h1;obtain⟨p,y,rfl,l,s⟩:=h1.list_inv;rw[xh s]at l;exact⟨p,bs,rfl,qV.of l,q _ .bl⟩
 .cases e
theorem WT(ds:List D):Jy [.list ds]=(wo ds).map λbs=>.bl (bs.any id):=rfl
end Z
namespace Z
open PySem PySem.Spec PyProof.Rows L2 Mr
inductive Ce:Nat->D->PyData->Prop
 |non {n}:Ce n .non .none
 |bl {n b}:Ce n (.bl b) (.bool b)
 |int {n i}:Ce n (.int i) (.int i)
 |str {n x} (h:PyData.canLay0 (.str x)=true):Ce n (.str x) (.str x)
 |list {n} {ds:List D}{ps:List PyData}(l:ds.length=ps.length) (e:∀(i:Nat) (d:D) (p:PyData),ds[i]?=some d->ps[i]?=some p->Ce n d p):Ce (n+1) (.list ds) (.list ps)
 |tup {n} {ds:List D}{ps:List PyData}(l:ds.length=ps.length) (e:∀(i:Nat) (d:D) (p:PyData),ds[i]?=some d->ps[i]?=some p->Ce n d p):Ce (n+1) (.tup ds) (.tuple ps)
theorem Cm{α:Type}{ds:List D}{ps:List α}(l:ds.length=ps.length) {p:α}(h:p∈ps):∃(i:Nat) (d:D),ds[i]?=some d/\ps[i]?=some p:=by
 obtain⟨i,n⟩:=ay.mp h;have hl:=(gSq.mp n).1;exact⟨i,_,gEg (l ▸ hl),n⟩
theorem LH{ps:List PyData}(h:∀p∈ps,p.canLay0=true):PyData.canLayAll0 ps=true:=by
 induction ps with
 |nil=>rfl
 |cons p ps l=>rw[PyData.canLayAll0,h p (aw ..),l λq n=>h q (mCo _ n)];rfl
theorem Ma{ps:List PyData}(h:∀p∈ps,SeqAt.noMix p p=true):SeqAt.noMixAll ps ps=true:=by
 induction ps with
 |nil=>simp[SeqAt.noMixAll]
 |cons p ps l=>rw[SeqAt.noMixAll,h p (aw ..),l λq n=>h q (mCo _ n)];rfl
theorem IV{n:Nat}{ps:List PyData}(h:∀p∈ps,p.depth<=n):PyData.depthAll ps<=n:=by
 induction ps with
 |nil=>rw[PyData.depthAll];exact ba _
 |cons p ps l =>
  rw[PyData.depthAll];have:=h p (aw ..);have:=l λq r=>h q (mCo _ r)
  lia
theorem Ce.lay{n:Nat}{d:D}{p:PyData}(h:Ce n d p):p.canLay0=true:=by
 induction h with
 |str h=>exact h
 |list l _ r=>rw[PyData.canLay0];exact LH λp s=>let ⟨i,d,h1,h2⟩:=Cm l s;r i d p h1 h2
 |tup l _ r=>rw[PyData.canLay0];exact LH λp s=>let ⟨i,d,h1,h2⟩:=Cm l s;r i d p h1 h2
 |_=>rfl
theorem Ce.mix{n:Nat}{d:D}{p:PyData}(h:Ce n d p):SeqAt.noMix p p=true:=by
 induction h with
 |list l _ r=>rw[SeqAt.noMix];exact Ma λp s=>let ⟨i,d,h1,h2⟩:=Cm l s;r i d p h1 h2
 |tup l _ r=>rw[SeqAt.noMix];exact Ma λp s=>let ⟨i,d,h1,h2⟩:=Cm l s;r i d p h1 h2
 |_=>simp[SeqAt.noMix]
theorem Ce.deep{n:Nat}{d:D}{p:PyData}(h:Ce n d p):p.depth<=n:=by
 induction h with
 |list l _ r=>rw[PyData.depth];exact gn (IV λp s=>let ⟨i,d,h1,h2⟩:=Cm l s;r i d p h1 h2)
 |tup l _ r=>rw[PyData.depth];exact gn (IV λp s=>let ⟨i,d,h1,h2⟩:=Cm l s;r i d p h1 h2)
 |_=>simp[PyData.depth]
theorem Ca{h:Heap}:∀{ds:List D}{ps:List PyData}{vs:List V}{us:List Value},oV vs us->ds.length=ps.length->ds.length=vs.length->(∀(i:Nat) (d:D) (p:PyData) (v:V) (u:Value),ds[i]?=some d->ps[i]?=some p->vs[i]?=some v->qc v u->∃as,Reads h u p as)->∃as,ReadsAll h us ps as
 | [],[],[],us,r,_,_,_=>by cases r;exact⟨_,.nil⟩
 |d::ds,p::ps,v::vs,us,r,l1,l2,e=>by
  cases r with
  | @cons _ u _ us l n =>
   obtain⟨as,h1⟩:=e 0 d p v u rfl rfl rfl l;obtain⟨bs,h2⟩:=Ca n (by simpa using l1) (by simpa using l2) λi d p v u a b c=>e (i+1) d p v u (by simpa using a) (by simpa using b) (by simpa using c)
   exact⟨_,.cons h1 h2⟩
 | [],_::_,_,_,_,h,_,_=>by simp at h
 |_::_,[],_,_,_,h,_,_=>by simp at h
 | [],_,_::_,_,_,_,h,_=>by simp at h
 |_::_,_,[],_,_,_,h,_=>by simp at h
theorem Ce.reads{X:Cx}{G:List (Addr×Obj)}{σ:L2.St}{H:Hp}{s:Shared}(I:Inv X G σ H s) {n:Nat}{d:D}{p:PyData}(h:Ce n d p):∀{v:V}{u:Value},rD X.K H d v->qc v u->∃as,Reads s.heap u p as:=by
 induction h with
 |non=>intro v u r x;cases r;cases x;exact⟨_,.none⟩
 |bl=>intro v u r x;cases r;cases x;exact⟨_,.bool _⟩
 |int=>intro v u r x;cases r;obtain⟨t,rfl⟩:=x;exact⟨_,.int _ _⟩
 |str=>intro v u r x;cases r;obtain⟨t,rfl⟩:=x;exact⟨_,.str _ _⟩
 |list l _ y =>
  intro v u r x;obtain⟨q,J,rfl,h1,h2⟩:=r.list_inv;cases x;obtain⟨z,B,hl,L⟩:=I.list (qV.of h1);obtain⟨o,C,E,n,hd⟩:=hl.isList;obtain⟨as,e⟩:=Ca B l h2.1 λi d p v u a b c x=>y i d p a b (h2.2 i d v a c) x
  exact⟨_,Reads.list C E hd (by simpa using e)⟩
 |tup l _ y =>
  intro v u r x;obtain⟨q,J,rfl,h1,h2⟩:=r.tup_inv;cases x;obtain⟨z,B,⟨o,C,E,n,hd⟩,L⟩:=I.tuple (EO.of h1);obtain⟨as,e⟩:=Ca B l h2.1 λi d p v u a b c x=>y i d p a b (h2.2 i d v a c) x
  exact⟨_,Reads.tuple C E hd (by simpa using e)⟩
theorem Ce.shaped{n:Nat}{d:D}{p:PyData}(h:Ce n d p) (hn:n<=64):SeqAt.shaped p=true:=by
 show (PyData.canLay0 p && decide (PyData.depth p<=64))=true;rw[h.lay,decide_eq_true (bw h.deep hn)];rfl
end Z
namespace Z
open PySem L2 Mr
def AZ(l:ML):MK:=λS=>(l S).bind λx=>(qW x.1).bind λrs=>uu ((∀r∈rs,r≠[])/\rs.length<64) (some (aP (uf rs),x.2))
theorem GB(l:ML) (S:AS):AZ l S=(l S).bind λx=>(qW x.1).bind λrs=>uu ((∀r∈rs,r≠[])/\rs.length<64) (some (aP (uf rs),x.2)):=rfl
section
variable {K:W.Frag}{ta:TA}{te:TE}{m l:ML}{H₀ Hf₀ Hf Hf1:Hp}{S':AS}{σ:St}{H H1:Hp}{Fs Fs1:List (List Addr)}{rs:List (List Int)}{Q:VK}
theorem BI(hl:SQ K te l):SK K (Hh (λxs H Q=>∃(a:Addr) (ps:List Addr) (rs:List (List Int)),xs=[.ref a]/\ps.length<64/\qV K H a (ps.map V.ref)/\CO H ps rs/\(∀r∈rs,r≠[]) /\
  ∀(p:Addr) (t:List Addr),H p=none->t.Perm ps->t.map (su H)=uf rs->Q (.ref p) (qG H p (.lst (t.map V.ref)))) (tP te wM)) (AZ l):=by
 intro H₀ Hf₀ Hf S σ H Fs av S' R e Q q;obtain⟨x,U,e⟩:=oBq.mp e;obtain⟨u,X,e⟩:=oBq.mp e;rcases oT e with ⟨⟨G,y⟩,e⟩|e
 .cases e;refine hl R (ds:=x.1) (S':=x.2) U _ λHf1 H1 Fs1 Y vs1 L B h1 M=>?_
  rw[wO X]at M;obtain⟨ps,rfl,C⟩:=zF (m:=u) M;have I:=C.same B.sub;refine⟨Y,ps,u,rfl,by rw[C.1,lMq]at y;exact y,h1,I,G,λp t O P es=>?_⟩
  obtain⟨t4,R4,n1,n2,n3⟩:=B.new (o:=.lst (t.map V.ref)) O;have same:∀b∈t,su H1 b=su Hf1 b:=λb J=>DT (B.sub _ _ (C.2 b (P.mem_iff.mp J)))
  have e3:(uf u).map (λr=>AV.sh (ve r))=((uf u).map ve).map AV.sh:=by rw[mPq];rfl
  have q:∀n E s v F,ze Hf H Fs n E s->pP K H₀ Hf₀ n x.2 σ E s->oZ K n E (.ow ((uf u).map λr=>AV.sh (ve r))) v F->xN H₀ H Fs s F->Q v E:=q
  rw[e3]at q;refine q _ _ _ (.ref p) [p] (L.trans t4) R4 (oZ.new oC n1 (JX ?_ λz hz=>C.2 z (P.mem_iff.mp hz))) ((xN.one B O).back L)
  rw[←es];exact mCq λb J=>(same b J).symm
 .cases e
end
end Z
namespace Mo
open PySem PyProof.Rows Mr
theorem J9:jZ (.type "list") "keys" = pure none:=by rw[jU,jG];kernel_rfl
section
variable {prog:jo}{w:jt}{A:Around}{E:Value->Shared->Prop}{s:Shared}
theorem Q2{l:Addr}{xs:Array Value}{k:Nat}{sl:Array (Option Value)}{u:Tok}{Q:Value->Shared->Prop}(t:s.heap.get? l=some { cls:=.type "list", dict:=none,data:=.seq xs k,slots:=sl }) (z:A.handled=none)
  (h:∀h' x e,iW s.heap h' e "AttributeError" -> E (.ref e) { s with heap:=h',toks:=x }):jj (jm prog w) A (mT (.ref l) (.str "keys" u) false) Q E s:=by
 obtain⟨B,g,d,x,os⟩:=s;have y:∀n,(⟨B,g,d,n,os⟩:Shared).TypeIs (.ref l) "list" := λ_=>⟨_,t,rfl⟩
 have C:=kx;have G:=F.slot_list_getattribute.lookup;have H:=F.slot_list_getattribute.bind (.ref l);have I:=am_list_getattr_none;unfold mT
 repeat (any_goals (first|assumption|exact y _|((with_reducible show jj _ _ (call (iX "list.__getattribute__") _ _) _ _ _);refine ki F.slot_list_getattribute (y _) am_entry_list_getattribute (F.args_list_getattribute_2 _ _) (meets_getattribute_miss_list l xs k sl "keys" _ J9 (by decide +kernel)) ⟨t,z,λh' n e r=>?_⟩)|wp_step))
 obtain⟨J,L,M⟩:=r.there;show jj _ _ (ky _ _ _ _ _ _ _) _ _ _;unfold ky
 repeat (any_goals (first|assumption|wp_step))
 exact h _ _ _ r.of
theorem O5{l:Addr}{xs:Array Value}{Q:Option Value->Shared->Prop}(u:mF s.heap l xs) (H:A.handled=none)
  (h:∀h' x,(∀b o,s.heap.get? b=some o->h'.get? b=some o)->Q none { s with heap:=h',toks:=x }):jj (jm prog w) A (getAttr? (.ref l) "keys") Q E s:=by
 obtain⟨⟨c,y,z,B⟩,k,u,r,hd,n⟩:=u;simp only at r n hd;subst r n hd;unfold getAttr? getAttrBy?;obtain⟨I,g,d,x,os⟩:=s;have C:=kx
 repeat (any_goals (first|assumption|(with_reducible refine Q2 (xs:=xs) (k:=k) (sl:=B) ?_ ?_ ?_)|wp_step))
 intro h' t e q;obtain⟨o,k,G,r,_⟩:=q.there;refine ji (kO (T := "AttributeError") (b:=true) ⟨_,G,r⟩ C ?_);exact jk (h h' t q.keeps)
end
section
variable {prog:jo}{w:jt}{A:Around}{E:Value->Shared->Prop}{s:Shared}{K:Type} [DecidableEq K] {knd:KeyKind prog w K}{R:mE->Shared->Prop}{I l d:Addr}{qs:List Addr}{us ws:List Value}{ks:List K}
theorem T1(hh:A.handled=none) (nI:l≠I) (nd:I≠d) (ld:l≠d) (hq:∀q∈qs,q≠I/\q≠d) (hk:∀(j:Nat) (u:Value),us[j]?=some u->∃k,ks[j]?=some k/\knd.is k u=true) (L:us.length=qs.length) (hlen:us.length=ws.length) (hsz:us.length<=jn) :
  ∀(m j:Nat) (i:Int) (s:Shared),us.length-j=m->j<=us.length->s.heap.IsListIter I l j/\s.heap.IsList l (qs.map aE).toArray->(∀(j:Nat) (q:Addr) (u v:Value),qs[j]?=some q->us[j]?=some u->ws[j]?=some v->s.heap.IsTuple q #[u,v])->s.heap.DictOf knd d (fz ks ws j) ->
   (∀h' tk,h'.DictOf knd d (fz ks ws us.length)->(∀b o,b≠I->b≠d->s.heap.get? b=some o->h'.get? b=some o)->R (.ok (.ret .none)) { s with heap:=h',toks:=tk }) ->
   kr (jm prog w) A (.builtin "dict.update.loop" ⟨[.ref d,.ref I,.int i 0,.none],[]⟩) R s:=by
 have W:=Walks.list (prog:=prog) (w:=w) (A:=A.in1) hh I l nI (qs.map aE).toArray;have vl:(qs.map aE).toArray.size=us.length:=by simp[L]
 intro m
 induction m with
 |zero =>
  intro j i s hm hj S tp dd M;have B:j=us.length:=by lia
  refine jz Am ?_;rw[Around.under_plainId uD _];show jj _ A.in1 (kj (.ref I) >>= _) _ _ s;refine ji (W.done _ _ _ (by rw[vl,←B];exact S) λh' t kp=>?_)
  show jj _ A.in1 (Builtin.Dict.addKeywords d [] >>= _) _ _ _;refine ji (jk (jk (M h' t ?_ λb o b1 _ e=>kp b o (by simpa using b1) e)))
  subst B;obtain⟨o,O,P,x,r⟩:=dd;exact⟨o,O,P,kp d o (by simpa using nd.symm) x,r⟩
 |succ m ih =>
  intro j i s hm hj S tp dd M;obtain⟨u,hu⟩:∃u,us[j]?=some u:=⟨_,gEg (by lia)⟩
  obtain⟨v,hv⟩:∃v,ws[j]?=some v:=⟨_,gEg (by lia)⟩
  obtain⟨q,C⟩:∃q,qs[j]?=some q:=⟨_,gEg (by lia)⟩
  obtain⟨k,Q,U⟩:=hk j u hu;refine jz Am ?_;rw[Around.under_plainId uD _];show jj _ A.in1 (kj (.ref I) >>= _) _ _ s;refine ji (W.item j _ _ _ (by lia) S λz h' t hP S' kp=>?_)
  have ez:z = .ref q:=by
   have:(qs.map aE)[j]?=some z:=by simpa using hP
   rw[gMq,C]at this;exact(aT.inj this).symm
  subst ez;have y:∀b o,b≠I->s.heap.get? b=some o->h'.get? b=some o:=λb o b1 e=>kp b o (by simpa using b1) e
  have X:h'.DictOf knd d (fz ks ws j):=by
   obtain⟨o,O,P,x,r⟩:=dd;exact⟨o,O,P,y d o nd.symm x,r⟩
  have G:∀(j:Nat) (q:Addr) (u v:Value),qs[j]?=some q->us[j]?=some u->ws[j]?=some v->h'.IsTuple q #[u,v]:=λj q u v a b c=>by
   obtain⟨o,x,oY⟩:=tp j q u v a b c;exact⟨o,y q o (hq q (mGq a)).1 x,oY⟩
  refine ji (jA ?_);obtain⟨o,hT,hc,n,Y⟩:=G j q u v C hu hv;have tT:Shared.TypeIs { s with heap:=h',toks:=t } (.ref q) "tuple" := ⟨_,hT,hc⟩
  refine ji (wpAny_tryCatch ?_);unfold Builtin.Dict.pairItems;refine ji (jL tT ?_);rw[pQ (by decide)]
  refine ji (kE hT Y ?_);refine jk ?_;refine jA ?_;refine mP (hsz:=by have:=Pi ks ws j;lia) U X λh2 H J=>?_
  rw[←L0 Q hv]at H;refine jk ⟨jJ uD _,ih (j+1) (i+1) _ (by lia) (by lia) ⟨S'.1.at λo e=>J.extBut I o nd e,S'.2.at λo e=>J.extBut l o ld e⟩ (λj q u v a b c=>?_) H λh3 tk3 dd3 kp3=>?_⟩
  .obtain ⟨o,x,oY⟩:=G j q u v a b c;exact⟨o,J.extBut q o (hq q (mGq a)).2 x,oY⟩
  .exact M h3 tk3 dd3 λb o b1 b5 e=>kp3 b o b1 b5 (J.extBut b o b5 (y b o b1 e))
theorem Sb{Q:Value->Shared->Prop}(hh:A.handled=none) (hl:mF s.heap l (qs.map aE).toArray) (tp:∀(j:Nat) (q:Addr) (u v:Value),qs[j]?=some q->us[j]?=some u->ws[j]?=some v->s.heap.IsTuple q #[u,v])
  (hk:∀(j:Nat) (u:Value),us[j]?=some u->∃k,ks[j]?=some k/\knd.is k u=true) (O:us.length=qs.length) (H:us.length=ws.length) (hsz:us.length<=jn)
  (h:∀h' tk,h'.DictOf knd s.heap.objs.size (fz ks ws us.length)->(∀b o,s.heap.get? b=some o->h'.get? b=some o)->Q (.ref s.heap.objs.size) { s with heap:=h',toks:=tk }) :
  jj (jm prog w) A (call (.type "dict") [.ref l]) Q E s:=by
 refine mq (Q₁:=λobj B=>obj = .ref s.heap.objs.size/\B={ s with heap:=s.heap.push { cls:=.type "dict", data:=.dict #[] } }) F.kt_called_dict (F.kt_typeCall_dict_1 _) F.entry_dict_init (kt_code_dict_new _ ⟨rfl,rfl⟩) ?_
 rintro obj B ⟨rfl,rfl⟩;have t:(s.heap.push { cls:=.type "dict", data:=.dict #[] }).DictOf knd s.heap.objs.size []:=iA.new s.heap;refine⟨t.typeIs,F.args_dict_init_2 _ _,?_⟩;have P:∀b o,s.heap.get? b=some o->(s.heap.push { cls:=.type "dict", data:=.dict #[] }).get? b=some o:=λb o e=>aj _ e
 have J:l<s.heap.objs.size:=hl.lt;have hT:Shared.TypeIs { s with heap:=s.heap.push { cls:=.type "dict", data:=.dict #[] } } (.ref l) "list" := by
  obtain⟨o,n,x,hc,_⟩:=hl;exact⟨_,P _ _ x,hc⟩
 unfold Builtin.«dict.__init__»;refine ji ?_;unfold Builtin.Dict.selfAndRest;refine ji (mi t.typeIs ?_);show jj _ _ (pure (s.heap.objs.size,[aE l])) _ _ _;refine jk ?_;show jj _ _ (Builtin.Dict.updateFrom "dict.__init__" s.heap.objs.size (.ref l) [] .none) _ _ _;unfold Builtin.Dict.updateFrom;refine ji (jL hT ?_);rw[pQ (by decide)]
 refine ji (O5 (hl.keeps P) (by simp[hh]) λG tk3 C=>?_)
 rw[pQ (by rfl)]
 refine ji (mL ?_);have kp:∀b o,s.heap.get? b=some o->G.get? b=some o:=λb o e=>C b o (P b o e)
 have L:G.IsList l (qs.map aE).toArray:=(hl.keeps kp).isList;have y:s.heap.objs.size<G.objs.size:=by
  obtain⟨o,es,ep,x,r⟩:=t;exact ae (C _ _ x)
 refine ji (kH L ?_);have z:∀b o,G.get? b=some o->(G.push { cls:=.type "list_iterator", data:=.fields #[.ref l,.int 0 0] }).get? b=some o:=λb o e=>aj _ e
 have S:(G.push { cls:=.type "list_iterator", data:=.fields #[.ref l,.int 0 0] }).DictOf knd s.heap.objs.size (fz ks ws 0):=by
  obtain⟨o,es,ep,x,r⟩:=t;exact⟨o,es,ep,z _ _ (C _ _ x),r⟩
 have tl:∀q∈qs,q<s.heap.objs.size:=λq M=>by
  obtain⟨j,hj⟩:=ay.mp M;have jl:=(gSq.mp hj).1;obtain⟨o,x,_⟩:=tp j q _ _ hj (gEg (by lia:j<us.length)) (gEg (by lia:j<ws.length))
  exact ae x
 refine jk ⟨jJ uD _,T1 (by simp[hh]) (aq (gA J y)) (aR y) (aq J) (λq M=>⟨aq (gA (tl q M) y),aq (tl q M)⟩) hk O H hsz us.length 0 0 _ (fP _) (ba _) ⟨⟨_,aL _ rfl,rfl,rfl⟩,L.at λo e=>z _ o e⟩ (λj q u v a b c=>?_) S λh4 U X Y=>⟨rfl,h h4 U X λb o e=>?_⟩⟩
 .obtain ⟨o,x,oY⟩:=tp j q u v a b c;exact⟨o,z _ _ (kp _ _ x),oY⟩
 .have lt:=ae e;exact Y b o (aq (gA lt y)) (aq lt) (z _ _ (kp _ _ e))
end
end Mo
namespace Mr
open PySem PySem.W PySem.Spec PyProof.Rows L2 Mo
section
variable {X:Cx}
def ZI(K:W.Frag) (xs:List V) (H:Hp) (Q:VK):Prop:=∃(a:Addr) (ps:List Addr) (ns ms:List Int),xs=[.ref a]/\qV K H a (ps.map V.ref)/\CO H ps (cc (λx y=>[x,y]) ns ms)/\ns.length=ms.length/\∀l,H l=none->Q (.ref l) (qG H l (.dK (fv ns ms)))
theorem Lm{e:Expr}{ta:TA}{p0 B:Pos}(hc:X.calm=true) (gl:Gl X "dict") (ml:X.mg "dict" = none) (ha:PA X [e] ta)
  (he:jv [e] X.env=(false,eval e X.env)::jv [] X.env:=by rfl) :
  PE X (.Call (.Name "dict" p0) [e] [] B) (Hh (ZI X.K) ta):=by
 intro nA s σ H Q I h;refine Call_ (vm I gl ml boot_dict (bo (sv (ha B nA s σ H _ I h) λr s1 hz1=>?_) he (by rfl)) (by decide) (by decide))
 obtain⟨vs,H1,G,r1,q1⟩:=hz1;obtain⟨a,C,l,z,e1,hq1,⟨M,hE2⟩,hl,q⟩:=q1;subst e1;obtain⟨u,rfl,O⟩:=wQ r1;cases O;obtain⟨its,rv,pl,hz⟩:=G.list hq1;have ei:=wz rv;subst ei;have lp:C.length=l.length:=by
  have:=congrArg bp M;rw[eW,lMq]at this;lia
 have at_:∀(j:Nat) (q:Addr) (n m:Int),C[j]?=some q->l[j]?=some n->z[j]?=some m->su H1 q=[n,m]:=λj q n m a b c=>by
  have:=congrArg (·[j]?) M;simp only[du,gMq,a,b,c,cj]at this;exact(aT.inj this).symm
 obtain⟨r,y,vu,vw,hus⟩:∃r y:List Value,oV (l.map V.int) r/\oV (z.map V.int) y/\∀(j:Nat) (q:Addr) (u v:Value),C[j]?=some q->r[j]?=some u->y[j]?=some v->s1.heap.IsTuple q #[u,v]:=by
  have key:∀k,k<=C.length->∃r y:List Value,oV ((l.take k).map V.int) r/\oV ((z.take k).map V.int) y/\∀(j:Nat) (q:Addr) (u v:Value),C[j]?=some q->r[j]?=some u->y[j]?=some v->s1.heap.IsTuple q #[u,v]:=by
   intro k
   induction k with
   |zero=>exact λ_=>⟨[],[],.nil,.nil,λj q u v _ h=>by simp at h⟩
   |succ k ih =>
    intro hk;obtain⟨r,y,P,R,h⟩:=ih (by lia)
    have E:C[k]?=some C[k]:=gEg (by lia)
    have S:l[k]?=some l[k]:=gEg (by lia)
    have U:z[k]?=some z[k]:=gEg (by lia)
    obtain⟨its,rt,pt,_⟩:=G.tuple (EO.of (hE2 C[k] (mGq E)));rw[at_ k _ _ _ E S U]at rt;obtain⟨u0,v0,rfl,O,rv0⟩:=oV.two rt;have l1:r.length=k:=by rw[←P.length,lMq,lTq];lia
    have l2:y.length=k:=by rw[←R.length,lMq,lTq];lia
    refine⟨r++[u0],y++[v0],?_,?_,λj q u v a1 J L=>?_⟩
    .rw [eC,S,fZ,mBq];exact P.append (.cons O .nil)
    .rw [eC,U,fZ,mBq];exact R.append (.cons rv0 .nil)
    rw[List.getElem?_append]at J L;split at J
    .rw [pQ (by lia)]at L
     exact h j q u v a1 J L
    .rw [qk (by lia)]at L
     have ej:j=k:=by
      have:=(gSq.mp J).1;simp at this;lia
     subst ej;rw[E]at a1;cases a1;simp[l1]at J;simp[l2]at L;subst J L;exact pt
  obtain⟨r,y,P,R,h⟩:=key _ (ai _);rw[bA (by lia)]at P R
  exact⟨r,y,P,R,h⟩
 have lu:=vu.length;have lw:=vw.length;rw[lMq]at lu lw hz;refine Sb (knd:=qH X.prog X.w) (ks:=l.map ao) (us:=r) (ws:=y) (G.ok.hd hc) pl hus (λj u hu=>?_) (by lia) (by lia) (by lia) λh' tk dd kp=>?_
 .have hj:j<l.length:=by have:=(gSq.mp hu).1;lia
  obtain⟨u',Y,O⟩:=vu.get (i:=j) (x:=.int l[j]) (by rw[gMq,gEg hj];rfl)
  rw[hu]at Y;cases Y;obtain⟨t,rfl⟩:=O;exact⟨.inl l[j],by rw[gMq,gEg hj];rfl,Ci _ t⟩
 .have kv:KV (fv l z) (fz (l.map ao) y r.length):=by
   have:=FO l z y [] [] vw .nil;unfold fz;rw[bA (by rw[fJ,lMq];lia)]
   exact this
  exact⟨.ref s1.heap.objs.size,qG H1 s1.heap.objs.size (.dK (fv l z)),G.laid (t':=tk) kp (ai _) (Ge (by have:=QO l z;lia) (beq_eq_false_iff_ne.mpr (aR G.big)) kv dd),rfl,q _ (G.hok.fresh (ai _))⟩
end
end Mr
namespace Z
open PySem L2 Mr
def Wh(l:ML):MK:=λS=>(l S).bind λx=>(qW x.1).bind λrs=>uu (∀r∈rs,r.length=2) (some (.owd (dz (rs.map (·.getD 0 0)) (rs.map (·.getD 1 0))),x.2))
theorem RZ(l:ML) (S:AS):Wh l S=(l S).bind λx=>(qW x.1).bind λrs=>uu (∀r∈rs,r.length=2) (some (.owd (dz (rs.map (·.getD 0 0)) (rs.map (·.getD 1 0))),x.2)):=rfl
theorem Yb:∀{rs:List (List Int)},(∀r∈rs,r.length=2)->cc (λx y=>[x,y]) (rs.map (·.getD 0 0)) (rs.map (·.getD 1 0))=rs
 | [],_=>rfl
 | [a,b]::rs,h=>by
  rw[ax,ax,gK,Yb λr hr=>h r (mCo _ hr)]
  rfl
 | []::rs,h=>by simpa using h [] (aw ..)
 | [_]::rs,h=>by simpa using h [_] (aw ..)
 | (_::_::_::_)::rs,h=>by simpa using h _ (aw ..)
section
variable {K:W.Frag}{te:TE}{l:ML}
theorem LK(hl:SQ K te l):SK K (Hh (ZI K) (tP te wM)) (Wh l):=by
 intro H₀ r O S σ H P U X R e Q q;obtain⟨x,y,e⟩:=oBq.mp e;obtain⟨n,z,e⟩:=oBq.mp e;rcases oT e with ⟨h2,e⟩|e
 .cases e;refine hl R (ds:=x.1) (S':=x.2) y _ λB Y Fs1 C E t s h1 u=>?_
  rw[wO z]at u;obtain⟨G,rfl,I⟩:=zF (m:=n) u;refine⟨C,G,n.map (·.getD 0 0),n.map (·.getD 1 0),rfl,h1,by rw[Yb h2];exact I.same s.sub,by simp,λl hn=>?_⟩
  obtain⟨J,L,M,n2,n3⟩:=s.new (o:=.dK (fv (n.map (·.getD 0 0)) (n.map (·.getD 1 0)))) hn;exact q _ _ _ (.ref l) [l] (t.trans J) L (.owd oC M (Pr _ _)) ((xN.one s hn).back t)
 .cases e
end
end Z
namespace Z
open PySem PySem.Spec PyProof.Rows L2 Mr
abbrev dP(c:List (List Int)):D:=.list (c.map ve)
theorem WQ(r:List Int):Ce 1 (ve r) (HT.tRow r):=.tup (by simp) λi d p h1 h2=>by
 simp only[gMq,oMq]at h1 h2;obtain⟨a,n,rfl⟩:=h1;obtain⟨b,l,rfl⟩:=h2;rw[n]at l;cases l;exact .int
theorem Fm(c:List (List Int)):Ce 2 (dP c) (.list (c.map HT.tRow)):=.list (by simp) λi d p h1 h2=>by
 simp only[gMq,oMq]at h1 h2;obtain⟨a,n,rfl⟩:=h1;obtain⟨b,l,rfl⟩:=h2;rw[n]at l;cases l;exact WQ a
def Py(H:Hp) (p:Addr):List (List Int):=match H p with
 |some (.lst vs)=>vs.map λv=>match v with|.ref q=>su H q|_=>[]
 |_=>[]
section
variable {X:Cx}{K:W.Frag}{H:Hp}
theorem OS{c:List (List Int)}{v:V}(r:rD K H (dP c) v):∃p,v = .ref p/\Py H p=c:=by
 obtain⟨p,s,rfl,h1,h2⟩:=r.list_inv;obtain⟨l,rfl,n,_⟩:=zF h2;refine⟨p,rfl,?_⟩;unfold Py;rw[h1];show (l.map V.ref).map _=c;rw[mPq,n];rfl
theorem YY{x:List (Addr×Obj)}{σ:L2.St}{s:Shared}{A:Around}{c d:List (List Int)}{v t:V}{u l:Value}(I:Inv X x σ H s) (r:rD X.K H (dP c) v) (r':rD X.K H (dP d) t) (y:qc v u) (n:qc t l) (E:A.units+8<jD):SeqAt.EqAt A s u l (decide (c=d)):=by
 have e:PyData.eqv (.list (c.map HT.tRow)) (.list (d.map HT.tRow))=decide (c=d):=by
  rw[←SeqAt.same_eq_eqv _ _ (by simp only[SeqAt.noMix];exact noMix_C c d)]
  simp only[PySem.Spec.same,same_C]
 rw[←e];obtain⟨z,B⟩:=(Fm c).reads I r y;obtain⟨bs,C⟩:=(Fm d).reads I r' n;have:=(Fm c).deep;exact SeqAt.eqAt_reads _ _ A s u l z bs B C (Fm c).lay (Fm d).lay (by lia)
def Uo(K:W.Frag):R2:=λx y H Q=>∃(c:List (List Int)) (cs:List (List (List Int))),rD K H (dP c) x/\rD K H (.list (cs.map dP)) y/\Q (.bl (!decide (c∈cs))) H
theorem E6(hu:X.A.units+64<jD):EL X (jQ .NotIn) (Uo X.K):=by
 intro nA s σ H x y v u Q I rx M h;obtain⟨c,L,r1,r2,q⟩:=h;obtain⟨b,O,rfl,h1,h2⟩:=r2.list_inv;cases M;obtain⟨l,P,pl,hz⟩:=I.list (qV.of h1);have n:∀(i:Nat) (y:Value),l[i]?=some y->∃v d,O[i]?=some v/\L[i]?=some d/\qc v y/\rD X.K H (dP d) v:=λi y r=>by
  have il:=(gSq.mp r).1;have l1:=P.length;have l2:=h2.1;rw[lMq]at l2;have R:O[i]?=some (O[i]'(by lia)):=gEg (by lia)
  have S:L[i]?=some (L[i]'(by lia)):=gEg (by lia)
  obtain⟨y',E,M⟩:=P.get R;rw[r]at E;cases E;exact⟨_,_,R,S,M,h2.2 i _ _ (by rw[gMq,S];rfl) R⟩
 refine SeqAt.notIn_listAt (λy=>decide (Py H (qo y)=c)) pl.isList (λy r=>?_) ?_
 .rw [List.mem_toArray]at r;obtain⟨i,B⟩:=ay.mp r;obtain⟨U,d,Y,G,t,C⟩:=n i y B;obtain⟨p,rfl,J⟩:=OS C;have:=YY I C r1 t rx (A:=X.A.in1) (by show X.A.units+1+8<jD;lia)
  cases t;rw[←J]at this;exact this
 .have ea:l.toArray.any (λy=>decide (Py H (qo y)=c))=decide (c∈L):=by
   rw[List.any_toArray,bx,cM,decide_eq_true_iff];refine⟨λ⟨y,r,z⟩=>?_,λhc=>?_⟩
   .obtain ⟨i,B⟩:=ay.mp r;obtain⟨U,d,Y,G,t,C⟩:=n i y B;obtain⟨p,rfl,J⟩:=OS C;cases t;have z':Py H p=c:=of_decide_eq_true z;rw[←z',J];exact mGq G
   .obtain ⟨i,B⟩:=ay.mp hc;have il:=(gSq.mp B).1;have l1:=P.length;have l2:=h2.1;rw[lMq]at l2;have ey:l[i]?=some (l[i]'(by lia)):=gEg (by lia)
    obtain⟨U,d,Y,G,t,C⟩:=n i _ ey;rw[B]at G;cases G;obtain⟨p,rfl,J⟩:=OS C;refine⟨_,mGq ey,?_⟩;generalize l[i]'_=y at t;cases t;exact decide_eq_true J
  rw[ea];exact⟨.bl _,H,I,rfl,q⟩
end
def Hs:List D->Option (List (List (List Int)))
 | []=>some []
 | .list ds::es=>(qW ds).bind λc=>(Hs es).map (c :: ·)
 |_=>none
theorem L8:∀{ds:List D}{cs:List (List (List Int))},Hs ds=some cs->ds=cs.map dP
 | [],cs,h=>by cases h;rfl
 |d::ds,cs,h=>by
  cases d with
  |list l =>
   obtain⟨c,h1,h⟩:=oBq.mp (show (qW l).bind (λc=>(Hs ds).map (c :: ·))=some cs from h)
   obtain⟨n,h2,rfl⟩:=oMq.mp h;rw[L8 h2,wO h1];rfl
  |_=>cases h
theorem Hv:∀cs:List (List (List Int)),Hs (cs.map dP)=some cs
 | []=>rfl
 |c::cs=>by
  show (qW (c.map ve)).bind (λc=>(Hs (cs.map dP)).map (c :: ·))=_
  rw[qM,Hv cs];rfl
def HH(x y:D):Option D:=match x,y with
 | .list a,.list b=>(qW a).bind λc=>(Hs b).map λcs=>.bl (!decide (c∈cs))
 |_,_=>none
theorem Pz(c:List (List Int)) (cs:List (List (List Int))):HH (dP c) (.list (cs.map dP))=some (.bl (!decide (c∈cs))):=by
 show (qW (c.map ve)).bind (λc=>(Hs (cs.map dP)).map λcs=>D.bl (!decide (c∈cs)))=_
 rw[qM,Hv];rfl
theorem Fh{K:W.Frag}:Fv K (Uo K) HH:=by
 intro x y H Q s t d n r e q;cases s with
 |list a =>
  cases t with
  |list b =>
   obtain⟨c,u,e⟩:=oBq.mp (show (qW a).bind (λc=>(Hs b).map λl=>D.bl (!decide (c∈l)))=some d from e)
   obtain⟨l,z,rfl⟩:=oMq.mp e;rw[wO u]at n;rw[L8 z]at r;exact⟨c,l,n,r,q _ .bl⟩
  |_=>cases e
 |_=>cases e
end Z
namespace Zl
open PySem L2 Mr Z
def B5:MS:=(nW (xH (rA (oN C0 (tX qu (nD (nC 0) nV)) (rC (.int 0)))) (qh (sJ oB)) qa)
 (nW (oD 1 (kSc (Yw "list" B6 (nC 0) (nD (tX RA (nD (nC 0) nV)) nV))))
 (qh (OM (lOf (Rp (sZ 0) (zu (nC 1)) Bz)) (lOf (Rp (sZ 0) Bz (zu (nC 1))))))))
def vc:MF:=rR 1 2 B5
def xl:MS:=(Kd 1 (Jr 2))
def BE:MS:=(nW (oD 1 (sJ oB))
 (nW (zm 2 (og 0) xl)
 (qh (zB 1))))
def pI:MF:=rR 1 3 BE
def yY:MS:=(nW (xH (rA (oN Si (nC 1) (tX qu (nD (nC 0) nV)))) (qh (kSc (oN CV (nC 0) (nC 1)))) qa)
 (qh (kSc (rC (.int 0)))))
def oj:MF:=rR 2 2 yY
def yi:MS:=(qh (Gc (rY (vS (og 0)) [] qz (oJ Zl.vc (nQ (og 0) oB)))))
def om:MF:=rR 1 1 yi
def DN:MS:=(qh (GA (lOf (oJ Zl.pI (nQ (og 0) oB)))))
def yd:MF:=rR 1 1 DN
def wW:MS:=(vf 1 (nC 4) (og 2))
def wH:MS:=(zm 4 (og 3) wW)
def Bl:MS:=(nW (oD 1 ym)
 (nW (Ig 2 3 (og 0) wH)
 (qh (zB 1))))
def tM:MF:=rR 1 5 Bl
theorem C5(ns:List Int) {k:Int}(h:0<=k):oj [.scr ns,.int k]=some (.sh (.int (cell ns k.toNat))):=by
 by_cases c:k<(ns.length:Int)
 .have l:k.toNat<ns.length:=by lia
  have e:ns.getD k.toNat 0=ns[k.toNat]:=xB l
  simp_arith [oj,yY,c,Lj h,gEg l,cell,e]
 .have l:ns.length<=k.toNat:=by lia
  have e:ns.getD k.toNat 0=0:=by rw[gDq,bb l];rfl
  simp_arith [oj,yY,c,cell,e]
theorem Me(ns:List Int):oj [.scr ns,.int 0]=some (.sh (.int (cell ns 0))):=C5 ns (by decide)
theorem LY(ns:List Int):oj [.scr ns,.int 1]=some (.sh (.int (cell ns 1))):=C5 ns (by decide)
theorem IZ(ns:List Int):oj [.scr ns,.int 2]=some (.sh (.int (cell ns 2))):=C5 ns (by decide)
theorem M9{n:Int}{ns:List Int}:ns.foldl min n∈n::ns/\∀x∈n::ns,ns.foldl min n<=x:=⟨vy ns n,λx l=>(ar.mp l).elim (λe=>e ▸ (vd ns n).1) ((vd ns n).2 x)⟩
theorem Nf{ns:List Int}(hl:ns.length<=500000):vc [dI ns]=some (aI (good ns)):=by
 cases ns with
 |nil =>
  have h1:((0:Nat):Int)=0:=rfl
  simp_arith [vc,B5,h1]
  rfl
 |cons n ns =>
  obtain⟨h1,h2⟩:=M9 (n:=n) (ns:=ns);have e:=zA h1 h2;have l:=D8 (n::ns);have s:¬ ((n::ns).length:Int)=0:=by simp only[lCq];lia
  have t:RA [dI (n::ns)]=some (.int (ns.foldl min n)):=by
   show (qC ((n::ns).map D.int)).bind (λns=>(KU ns).map D.int)=_
   rw[qR];rfl
  have u:B6 (dI (n::ns)) [.int (ns.foldl min n)]=some (.int (qd (n::ns) (n::ns).length:Nat)):=by
   show (qC ((n::ns).map D.int)).bind _=_;rw[qR];show (if _ then _ else _)=_
   rw[pQ h1,e]
  generalize x:n::ns=N at *;have r:(N.drop (qd N N.length)).length+(N.take (qd N N.length)).length<=qK:=by rw[aO,lTq];show _<=16777216;lia
  simp_arith [vc,B5,s,t,u,zy,FM N _ l,Ao N _ l,r,←mBq,Dj]
  rfl
theorem qm{rs:List (List Int)}{i:Nat}{r:List Int}(h:rs[i]?=some r):(rs.take (i+1)).flatten=(rs.take i).flatten++r:=by
 rw[eC,h,fAq];simp
theorem sU(rs:List (List Int)) (i:Nat):(rs.take i).flatten.length<=rs.flatten.length:=by
 have:=congrArg bp (congrArg List.flatten (bq i rs));rw[fAq,lAq]at this;lia
theorem BN{rs:List (List Int)}{i:Nat}{d:D}(h:(rs.map dI)[i]?=some d):∃r,rs[i]?=some r/\d=dI r:=by
 rw[gMq]at h;obtain⟨r,h1,h2⟩:=oMq.mp h;exact⟨r,h1,h2.symm⟩
theorem Di{ns:List Int}{i:Nat}{d:D}(h:(ns.map D.int)[i]?=some d):∃z,ns[i]?=some z/\d = .int z:=by
 rw[gMq]at h;obtain⟨r,h1,h2⟩:=oMq.mp h;exact⟨r,h1,h2.symm⟩
theorem yE{rs:List (List Int)}(hl:rs.flatten.length<=500000):pI [dM rs]=some (aI rs.flatten):=by
 have key:=tx (x:=2) (body:=xl) (λi S=>∃v,S=[some (.sh (dM rs)),some (aI (rs.take i).flatten),v]) (ds:=rs.map dI) (S:=[some (.sh (dM rs)),some (.ow []),none]) ⟨none,by simp⟩ (by
  rintro i d S hd ⟨v,rfl⟩;obtain⟨r,hr,rfl⟩:=BN hd;have h1:=qm hr;have h2:=sU rs (i+1);rw[h1,lAq]at h2;have l:(rs.take i).flatten.length+r.length<=qK:=by show _<=16777216;lia
  refine⟨_,?_,some (.sh (dI r)),rfl⟩;rw[h1]
  simp_arith [xl,l,Dj,←mBq])
 obtain⟨n,e,v,rfl⟩:=key;rw[lMq,aZ]at e
 simp_arith [pI,BE,e]
theorem J0{rs:List (List Int)}{d:D}(h:d∈rs.map dI):∃r∈rs,d=dI r:=by
 obtain⟨r,h1,h2⟩:=mMq.mp h;exact⟨r,h1,h2.symm⟩
def Hu:D->List Int
 | .list ds=>(qC ds).getD []
 |_=>[]
theorem BF(r:List Int):Hu (dI r)=r:=by
 show (qC (r.map D.int)).getD []=r;rw[qR];rfl
theorem Hm{β:Type}(g:List Int->β) (rs:List (List Int)):(rs.map dI).map (λd=>g (Hu d))=rs.map g:=by
 rw[mPq];exact mCq λr _=>by show g (Hu (dI r))=g r;rw[BF]
theorem Jb{rs:List (List Int)}(hl:∀r∈rs,r.length<=500000):qA qz (oJ vc (nQ (og 0) oB)) [] (rs.map dI)=some ((rs.map good).map aI):=by
 rw[rL (λd=>aI (good (Hu d)))]
 .rw [Hm (λr=>aI (good r)),mPq]
  rfl
 .intro d hd;obtain⟨r,hr,rfl⟩:=J0 hd;refine⟨[some (.sh (dI r))],?_⟩
  simp_arith [Nf (hl r hr),BF]
theorem X2{l:List (List Int)}{a:Nat}(h:a<l.length):atI (l.map dI) (a:Int)=some (dI (l.getD a [])):=by
 rw[TF,Lj (by lia),cT,gDq,gEg h]
 rfl
theorem tU{rs:List (List Int)}(hl:∀r∈rs,r.length<=500000) (t:rs.length<=63):om [dM rs]=some (.ow ((uf (rs.map good)).map aI)):=by
 have n:=Jb (rs:=rs) hl;have s:rs.length<=qK:=by show _<=16777216;lia
 have l:(rs.length<64)=True:=eq_true (by lia)
 simp_arith [om,yi,n,s,l]
end Zl
namespace Zl
open PySem L2 Mr Z Xe
section
variable {rs:List (List Int)}(hl:rs.flatten.length<=500000)
include hl
end
theorem Ml(r:List Int) (h:r.Nodup):good (good r)=good r:=Dy h _
theorem Eu{T:List (List Int)}(h:T.flatten.Nodup):uf ((uf (T.map good)).map good)=uf (T.map good):=by
 have q:(uf (T.map good)).map good=uf (T.map good):=by
  have:∀r∈uf (T.map good),good r=r:=λr hr=>by
   obtain⟨s,l,rfl⟩:=mMq.mp ((qj _).mem_iff.mp hr);exact Ml s (Nq h l)
  exact(mCq this).trans (cW _)
 rw[q];exact(yR (.refl _) (ur _)).symm
end Zl
namespace Zl
open PySem L2 Mr Z
theorem Rx{rs:List (List Int)}(hl:rs.flatten.length<=63):yd [dM rs]=some (aI (qN rs.flatten)):=by
 have l:(rs.flatten.length<64)=True:=eq_true (by lia)
 simp_arith [yd,DN,yE (bw hl (by decide)),l]
noncomputable def sL(p:Nat) (r:List Int):List (oq×D):=r.map λe=>(.inl e,.int (p:Int))
def oU:Nat->List (List Int)->List (oq×D)
 |_,[]=>[]
 |p,r::rs=>sL p r++oU (p+1) rs
theorem Af(r:List Int):∀(rs:List (List Int)) (p:Nat),oU p (rs++[r])=oU p rs++sL (p+rs.length) r
 | [],p=>by simp[oU]
 |s::rs,p=>by
  show sL p s++oU (p+1) (rs++[r])=(sL p s++oU (p+1) rs)++_;rw[Af r rs (p+1),aM,lCq,show p+1+rs.length=p+(rs.length+1) by lia]
theorem xp:∀(rs:List (List Int)) (p:Nat),(oU p rs).map (·.1)=rs.flatten.map ao
 | [],p=>rfl
 |r::rs,p=>by
  show (sL p r++oU (p+1) rs).map (·.1)=_;rw[mBq,xp rs (p+1),fCq,mBq];congr 1;unfold sL;rw[mPq];rfl
theorem Ek(rs:List (List Int)) (p:Nat):(oU p rs).length=rs.flatten.length:=by
 have:=congrArg bp (xp rs p)
 rwa [lMq,lMq]at this
theorem vF{kvs:List (oq×D)}{k:oq}{d:D}(h:k∉kvs.map (·.1)):vH kvs k d=kvs++[(k,d)]:=by
 unfold vH;rw[qk];intro e;obtain⟨kv,l,e⟩:=cM.mp e;exact h (mMq.mpr ⟨kv,l,of_decide_eq_true e⟩)
theorem getD_app{k:oq}:∀{a b:List (oq×D)},k∉a.map (·.1)->Z.getD (a++b) k=Z.getD b k
 | [],b,_=>rfl
 |x::a,b,h=>by
  unfold Z.getD;rw[gu,cG (by
   intro e;exact h (by rw[←of_decide_eq_true e];simp))]
  exact getD_app (k:=k) (a:=a) (b:=b) λm=>h (by simp only[ax,ar];exact .inr m)
theorem Ij{p:Nat}{e:Int}{b:List (oq×D)}:∀{r:List Int},e∈r->Z.getD (sL p r++b) (.inl e)=some (.int p)
 | [],h=>by cases h
 |x::r,h=>by
  unfold Z.getD;show ((((ao x:oq),D.int (p:Int))::(sL p r++b)).find? _).map _=_
  by_cases c:x=e
  .subst c;rw[bT (by simp)]
   rfl
  .rw [cG (by simp[c])]
   exact Ij (r:=r) ((ar.mp h).resolve_left λz=>c z.symm)
theorem yI{e:Int}{r:List Int}:∀{rs:List (List Int)}{i:Nat}(p:Nat),rs.flatten.Nodup->rs[i]?=some r->e∈r->Z.getD (oU p rs) (.inl e)=some (.int ((p+i:Nat):Int))
 | [],i,p,_,h,_=>by simp at h
 |s::rs,0,p,hn,h,he=>by
  simp at h;subst h;exact Ij he
 |s::rs,i+1,p,hn,h,he=>by
  rw[fCq,nAq]at hn;have l:rs[i]?=some r:=by simpa using h
  have:=yI (rs:=rs) (i:=i) (p+1) hn.2.1 l he;rw[show p+1+i=p+(i+1) by lia]at this
  rw[←this];refine getD_app ?_;unfold sL;rw[mPq];intro m;obtain⟨x,n,t⟩:=mMq.mp m;cases t;exact hn.2.2 _ n _ (mFq.mpr ⟨r,mGq l,he⟩) rfl
theorem Bu{rs:List (List Int)}(hn:rs.flatten.Nodup) (hl:rs.flatten.length<=500000):tM [dM rs]=some (.owd (oU 0 rs)):=by
 have key:=K8 (x:=2) (y:=3) (k:=0) (body:=wH) (λi S=>∃C E l,S=[some (.sh (dM rs)),some (.owd (oU 0 (rs.take i))),C,E,l]) (ds:=rs.map dI) (S:=[some (.sh (dM rs)),some (.owd []),none,none,none]) ⟨none,none,none,rfl⟩ (by
  rintro i d S hd ⟨C,E,l,rfl⟩;rw[bh];obtain⟨r,hr,rfl⟩:=BN hd;have s:=qm hr;have G:=sU rs (i+1);have P:i<rs.length:=(gSq.mp hr).1;have t:((rs.take i).flatten++r).Nodup:=by
   rw[←s];have I:rs.flatten=(rs.take (i+1)).flatten++(rs.drop (i+1)).flatten:=by rw[←fAq,bq]
   rw[I]at hn;exact(nAq.mp hn).1
  rw[s,lAq]at G;have J:=tx (x:=4) (body:=wW) (λj S=>∃l,S=[some (.sh (dM rs)),some (.owd (oU 0 (rs.take i)++sL i (r.take j))),some (.sh (.int i)),some (.sh (dI r)),l]) (ds:=r.map D.int) (S:=[some (.sh (dM rs)),some (.owd (oU 0 (rs.take i))),some (.sh (.int i)),some (.sh (dI r)),l]) ⟨l,by simp[sL]⟩ (by
   rintro j d S hd ⟨l,rfl⟩;obtain⟨z,B,rfl⟩:=Di hd;have Q:j<r.length:=(gSq.mp B).1;have L:(oU 0 (rs.take i)++sL i (r.take j)).length<qK:=Kp (by
    rw[lAq,Ek];unfold sL;rw[lMq,lTq];lia)
   have u:vH (oU 0 (rs.take i)++sL i (r.take j)) (.inl z) (.int (i:Int))=oU 0 (rs.take i)++sL i (r.take (j+1)):=by
    rw[vF]
    .unfold sL;rw[oW B,mBq,aM];rfl
    .rw [mBq,xp];intro m;have M:r.take (j+1)=r.take j++[z]:=oW B;rcases mAq.mp m with m|m
     .obtain ⟨x,H,n⟩:=mMq.mp m;cases n;exact(nAq.mp t).2.2 _ H _ (mGq B) rfl
     .unfold sL at m;rw[mPq]at m;obtain⟨x,H,n⟩:=mMq.mp m;cases n;have:=bj.sublist (bW (j+1) r) (nAq.mp t).2.1;rw[M]at this;exact(nAq.mp this).2.2 _ H _ (by simp) rfl
   refine⟨_,?_,some (.sh (.int z)),rfl⟩
   simp_arith [wW,L,u])
  obtain⟨R,n,O,rfl⟩:=J;rw[lMq,aZ]at n;refine⟨_,?_,some (.sh (.int i)),some (.sh (dI r)),O,rfl⟩;rw[oW hr,Af,lTq,dA (by lia),bh]
  simp_arith [wH,n])
 obtain⟨U,e,C,E,l,rfl⟩:=key;rw[bh,lMq,aZ]at e
 simp_arith [tM,Bl,e]
theorem xj{c:MT}{body:MS}(P:AS->Prop) (μ:AS->Nat) (t:AS->Prop) (h:∀S,P S->∃b r,c S=some (b,r)/\(b=true->∃s,body r=some (.nx s)/\P s/\μ s<μ S)/\(b=false->t r)) :
  ∀(l:Nat) (S:AS),P S->μ S<l->∃S',sj c body l S=some (.nx S')/\t S'
 |0,S,_,u=>absurd u (bK _)
 |n+1,S,x,u=>by
  obtain⟨b,r,y,h1,h2⟩:=h S x;rw[Sl,y,iD];cases b with
  |true =>
   obtain⟨s,z,B,C⟩:=h1 rfl;rw[pQ rfl,z];exact xj P μ t h n s B (by lia)
  |false =>
   rw[qk (by simp)]
   exact⟨r,rfl,h2 rfl⟩
end Zl
namespace Zl
open PySem L2 Mr Z Xe
noncomputable def kd(ks:List Nat):List (oq×D):=ks.map λk:Nat=>((ao (k:Int):oq),D.bl true)
theorem kd_any(ks:List Nat) (t:Nat):(kd ks).any (λkv=>decide (kv.1=(ao (t:Int):oq)))=decide (t∈ks):=by
 induction ks with
 |nil=>simp[kd]
 |cons k ks l =>
  unfold kd at l ⊢;rw[ax,eS,l]
  by_cases h:t=k
  .subst h;simp
  .have n:¬ (ao (k:Int):oq)=ao (t:Int):=λq=>h (by have:=ao.inj q;lia)
   simp[n,h]
theorem kd_get(ks:List Nat) (t:Nat):(Z.getD (kd ks) (ao (t:Int))).isSome=decide (t∈ks):=by
 unfold Z.getD;rw[eB,←kd_any,bx,gi,cM]
noncomputable def addN(kn:List Nat) (t:Nat):List Nat:=if t∈kn then kn else kn++[t]
theorem kd_put2(ks:List Nat) (t:Nat):vH (kd ks) (ao (t:Int)) (.bl true)=kd (addN ks t):=by
 unfold addN
 by_cases h:t∈ks
 .rw [pQ h];unfold vH;rw[kd_any,decide_eq_true h,pQ rfl];unfold kd;rw[mPq];refine mCq λk _=>?_
  show (if _ then _ else _)=_
  split <;> rfl
 .rw [qk h];unfold vH;rw[kd_any,decide_eq_false h,qk (by simp)]
  simp[kd]
noncomputable def plc(rs:List (List Int)) (e:Int):Nat:=rs.findIdx λr=>decide (e∈r)
theorem same_place{rs:List (List Int)}(hn:rs.flatten.Nodup) {i j:Nat}{r s:List Int}{e:Int}(l:rs[i]?=some r) (n:rs[j]?=some s) (h1:e∈r) (h2:e∈s):i=j:=by
 have a:=yI 0 hn l h1;have b:=yI 0 hn n h2;rw[a]at b;have:=D.int.inj (aT.inj b);lia
theorem plc_eq{rs:List (List Int)}(hn:rs.flatten.Nodup) {i:Nat}{r:List Int}{e:Int}(l:rs[i]?=some r) (h1:e∈r):plc rs e=i:=by
 have hl:rs.findIdx (λr=>decide (e∈r))<rs.length:=fx ⟨r,mGq l,decide_eq_true h1⟩
 have h2:=gW (xs:=rs) (p:=λr=>decide (e∈r)) (w:=hl)
 exact same_place hn (gEg hl) l (of_decide_eq_true h2) h1
structure Mp (rs:List (List Int)):Prop where
 hn:rs.flatten.Nodup
 hl:rs.flatten.length<=63
 hr:rs.length<=63
 hneg:∀e∈rs.flatten, -e∈rs.flatten
theorem Mp.at{rs:List (List Int)}(h:Mp rs) {e:Int}(n:e∈rs.flatten):∃r,rs[plc rs e]?=some r/\e∈r:=by
 obtain⟨r,h1,h2⟩:=mFq.mp n;obtain⟨i,l⟩:=ay.mp h1;exact⟨r,by rw[plc_eq h.hn l h2];exact l,h2⟩
theorem Mp.other{rs:List (List Int)}(h:Mp rs) {k:Nat}{r:List Int}{e:Int}(l:rs[k]?=some r) (n:e∈r):-e∈rs.flatten:=h.hneg e (mFq.mpr ⟨r,mGq l,n⟩)
theorem Mp.kv{rs:List (List Int)}(h:Mp rs) {e:Int}(l:e∈rs.flatten):Z.getD (oU 0 rs) (ao e)=some (.int (plc rs e:Int)):=by
 obtain⟨r,h1,h2⟩:=h.at l;have:=yI 0 h.hn h1 h2
 rwa [bh]at this
theorem Mp.lt{rs:List (List Int)}(h:Mp rs) {e:Int}(l:e∈rs.flatten):plc rs e<rs.length:=by
 obtain⟨r,h1,_⟩:=h.at l;exact(gSq.mp h1).1
theorem Mp.row{rs:List (List Int)}(h:Mp rs) {k:Nat}{r:List Int}(l:rs[k]?=some r):r.length<=1000:=by
 have:=cf.length_le (aK (mGq l));have:=h.hl;lia
theorem N2{α β:Type}{f:α->β->α}{a:α}{r:List β}{i:Nat}{e:β}(l:r[i]?=some e):(r.take (i+1)).foldl f a=f ((r.take i).foldl f a) e:=by
 obtain⟨n,h2⟩:=gSq.mp l;rw[dH n,eD,h2];rfl
noncomputable def itr(f:Int->Int):Nat->Int->Int
 |0,e=>e
 |n+1,e=>f (itr f n e)
theorem wm(f:Int->Int) (m:Nat) (e:Int):∀n:Nat,itr f (n+m) e=itr f n (itr f m e)
 |0=>by rw[bh];rfl
 |n+1=>by rw[Nat.add_right_comm];show f (itr f (n+m) e)=f (itr f n (itr f m e));rw[wm f m e n]
theorem J6:∀(l E:List Int),l.Nodup->(∀x∈l,x∈E)->l.length<=E.length
 | [],E,_,_=>ba _
 |x::l,E,hn,h=>by
  have n:=aB.mp hn;have r:=h x (aw ..);have h2:=J6 l (E.erase x) n.2 (λy s=>by
   refine(dD ?_).mpr (h y (mCo _ s));intro e;exact n.1 (e ▸ s))
  rw[eZ r]at h2;have:=bH r;rw[lCq];lia
theorem PK{p:Nat->Prop}:∀n,p n->∃m,m<=n/\p m/\∀j,j<m->¬ p j:=by
 intro n
 induction n using gL with
 |_ n s =>
  intro h
  by_cases c:∃j,j<n/\p j
  .obtain ⟨j,l,r⟩:=c;obtain⟨m,h1,h2,t⟩:=s j l r;exact⟨m,by lia,h2,t⟩
  .exact ⟨n,ai _,h,λj l r=>c ⟨j,l,r⟩⟩
structure Hg (f:Int->Int) (E:List Int):Prop where
 nd:E.Nodup
 to:∀e∈E,f e∈E
 inj:∀a∈E,∀b∈E,f a=f b->a=b
section
variable {f:Int->Int}{E:List Int}
theorem Hg.itr_mem(h:Hg f E) {e:Int}(l:e∈E):∀n,itr f n e∈E
 |0=>l
 |n+1=>h.to _ (h.itr_mem l n)
theorem Hg.itr_inj(h:Hg f E) {a b:Int}(l:a∈E) (r:b∈E):∀n,itr f n a=itr f n b->a=b
 |0,e=>e
 |n+1,e=>h.itr_inj l r n (h.inj _ (h.itr_mem l n) _ (h.itr_mem r n) e)
theorem Hg.cut(h:Hg f E) {e:Int}(l:e∈E) {i j:Nat}(n:i<=j) (q:itr f i e=itr f j e):itr f (j-i) e=e:=by
 have r:itr f j e=itr f i (itr f (j-i) e):=by rw[←wm];congr 1;lia
 rw[r]at q;exact(h.itr_inj l (h.itr_mem l _) i q).symm
structure Cy (f:Int->Int) (e:Int) (l:List Int):Prop where
 len:1<=l.length
 get:l=(aS l.length).map λn=>itr f n e
 back:itr f l.length e=e
 nd:l.Nodup
theorem Hg.cy(h:Hg f E) {e:Int}(s:e∈E):∃l,Cy f e l/\l.length<=E.length/\∀j,0<j->j<l.length->itr f j e≠e:=by
 have t:∃k,1<=k/\k<=E.length/\itr f k e=e:=by
  by_cases c:((aS (E.length+1)).map λn=>itr f n e).Nodup
  .have:=J6 _ E c (λx B=>by obtain⟨n,_,rfl⟩:=mMq.mp B;exact h.itr_mem s n)
   rw[lMq,aD]at this;lia
  .rw [az,aF]at c;have:∃i j,i<j/\j<E.length+1/\itr f i e=itr f j e:=by
    by_cases d:∃i j,i<j/\j<E.length+1/\itr f i e=itr f j e
    .exact d
    .exfalso;refine c ?_;refine bj.imp_of_mem (R:=λa b=>a<b) (λ{a b} ha hb hab q=>d ⟨a,b,hab,aN.mp hb,q⟩) fu
   obtain⟨i,j,u,y,q⟩:=this;exact⟨j-i,by lia,by lia,h.cut s (bZ u) q⟩
 obtain⟨k,h1,h2,C⟩:=t;obtain⟨m,J,⟨G,H⟩,z⟩:=PK (p:=λk=>1<=k/\itr f k e=e) k ⟨h1,C⟩
 refine⟨(aS m).map λn=>itr f n e,⟨by rw[lMq,aD];exact G,by rw[lMq,aD],by rw[lMq,aD];exact H,?_⟩,by rw[lMq,aD];lia,λj y r q=>?_⟩
 .rw [az,aF];refine bj.imp_of_mem (R:=λa b=>a<b) (λ{a b} ha hb hab q=>?_) fu
  have I:=aN.mp hb;exact z (b-a) (by lia) ⟨by lia,h.cut s (bZ hab) q⟩
 .rw [lMq,aD]at r;exact z j r ⟨y,q⟩
theorem Cy.at{e:Int}{l:List Int}(h:Cy f e l) {i:Nat}(r:i<l.length):l[i]?=some (itr f i e):=by
 have s:l[i]?=((aS l.length).map λn=>itr f n e)[i]?:=congrArg (λx:List Int=>x[i]?) h.get
 rw[s,gMq,bY r];rfl
theorem Cy.one{e:Int}{l n:List Int}(h:Cy f e l) (h':Cy f e n):l=n:=by
 have key:∀{l n:List Int},Cy f e l->Cy f e n->¬ l.length<n.length:=λ{l n} h h' hlt=>by
  have s:=h'.at (i:=0) (by lia)
  have r:=h'.at (i:=l.length) hlt;rw[h.back]at r;have:=h'.nd;have t:=(iw (i:=0) (j:=l.length) (by lia) this).mp (by rw[s,r];rfl)
  have:=h.len;lia
 have h1:=key h h';have h2:=key h' h;have hl:l.length=n.length:=by lia
 rw[h.get,h'.get,hl]
theorem Cy.self{e:Int}{l:List Int}(h:Cy f e l):e∈l:=mGq (h.at (i:=0) (by have:=h.len;lia))
theorem Cy.rot{e:Int}{l:List Int}(h:Cy f e l) {j:Nat}(u:j<l.length):Cy f (itr f j e) (l.drop j++l.take j):=by
 have n:(l.drop j++l.take j).length=l.length:=by rw[lAq,aO,lTq];lia
 refine⟨by rw[n];exact h.len,?_,?_,?_⟩
 .refine dC λi=>?_
  rw[n,gMq]
  by_cases s:i<l.length
  .rw [bY s,cj,←wm]
   by_cases r:i<l.length-j
   .rw [gZq (by rw[aO];exact r),dY,h.at (by lia),gB j i]
   .rw [gYq (by rw[aO];lia),aO,dJ (by lia),h.at (by lia)]
    congr 1;have t:i+j=(i-(l.length-j))+l.length:=by lia
    rw[t,wm,h.back]
  .rw [bb (by rw[n];lia),bb (by rw[aD];lia)]
   rfl
 .rw [n,←wm,gB,wm,h.back]
 .exact dt.nodup_iff.mpr (by rw[bq];exact h.nd)
theorem Cy.good{e x:Int}{l t:List Int}(h:Cy f e l) (u:x∈l) (h':Cy f x t):Mr.good t=Mr.good l:=by
 obtain⟨j,s⟩:=ay.mp u;have n:=(gSq.mp s).1;rw[h.at n]at s;have r:=h.rot n;rw[aT.inj s]at r;rw[h'.one r];exact Dy h.nd j
structure Jl (f:Int->Int) (E:List Int) (L:List (List Int)):Prop where
 cy:∀l∈L,∃e,Cy f e l
 dj:L.flatten.Nodup
 all:∀x,x∈L.flatten↔x∈E
theorem LP:∀{L:List (List Int)},L.flatten.Nodup->L.Pairwise λa b=>∀x∈a,∀y∈b,x≠y
 | [],_=>bj.nil
 |a::L,h=>by
  rw[fCq,nAq]at h;exact gb.mpr ⟨λb l x n y r=>h.2.2 x n y (mFq.mpr ⟨b,l,r⟩),LP h.2.1⟩
theorem Jl.nd{L:List (List Int)}(h:Jl f E L):(L.map Mr.good).Nodup:=by
 rw[az,aF];have hd:=LP h.dj;refine bj.imp_of_mem (λ{a b} ha hb hab q=>?_) hd
 obtain⟨e,c⟩:=h.cy a ha;have h1:e∈Mr.good a:=(si a).mem_iff.mpr c.self;rw[q]at h1;exact hab e c.self e ((si b).mem_iff.mp h1) rfl
theorem Jl.sub(x:Hg f E) {L M:List (List Int)}(h:Jl f E L) (h':Jl f E M) {y:List Int}(s:y∈L.map Mr.good):y∈M.map Mr.good:=by
 obtain⟨l,hl,rfl⟩:=mMq.mp s;obtain⟨e,c⟩:=h.cy l hl;have t:e∈E:=(h.all e).mp (mFq.mpr ⟨l,hl,c.self⟩);obtain⟨m,r,n⟩:=mFq.mp ((h'.all e).mpr t);obtain⟨z,u⟩:=h'.cy m r;exact mMq.mpr ⟨m,r,(u.good n c).symm⟩
theorem Jl.perm(l:Hg f E) {L M:List (List Int)}(h:Jl f E L) (h':Jl f E M):(L.map Mr.good).Perm (M.map Mr.good) :=
 (bS h.nd h'.nd).mpr λy=>⟨h.sub l h',h'.sub l h⟩
end
end Zl
namespace K51
open PySem L2 Mr Z Xe
def A8:MS:=(vf 1 (nC 3) (og 4))
def A0:MS:=(Pf 3 4 (og 2) (OM (lOf (Rp (sZ 2) (zu (rC (.int 1))) Bz)) (lOf (Rp (sZ 2) Bz (zu (rC (.int 1)))))) A8)
def HV:MS:=(nW (oD 1 ym)
 (nW (zm 2 (og 0) A0)
 (qh (zB 1))))
def BD:MF:=rR 1 5 HV
def tW:MS:=(nW (oD 7 (kSc (ro (nC 2) (Cs vA (nC 6))))) (xH (rA (uK (nC 7) (nC 3))) (nW (vf 3 (nC 7) (kSc (rC (.bl true)))) (yQ 4 (og 7))) qa))
def wg:MS:=(nW (E9 5 (Du 4)) (zm 6 (FJ (sZ 0) (nC 5)) tW))
def DD:MS:=(nW (oD 2 (oJ Zl.tM (nQ (og 0) oB)))
 (nW (oD 3 (Gy (nC 1) (kSc (rC (.bl true)))))
 (nW (oD 4 (sJ (nQ (og 1) oB)))
 (nW (sj (rA (oN Kh (tX qu (nD (nC 4) nV)) (rC (.int 0)))) wg 100000)
 (qh (Cb (nC 3)))))))
def wG:MF:=rR 2 8 DD
def xD:MS:=(vf 1 (nC 5) (kSc (rC (.bl true))))
def xq:MS:=(xH (rA (uK (nC 3) (nC 1))) (nW (oD 4 (oJ K51.wG (nQ (og 0) (nQ (og 3) oB)))) (nW (zm 5 (og 4) xD) (yQ 2 (rY (vS (og 4)) [0] qz (AM (lOf (FJ (sZ 1) (nC 0)))))))) qa)
def EZ:MS:=(nW (oD 1 ym)
 (nW (oD 2 (sJ oB))
 (nW (zb 3 (nD (tX qu (nD (nC 0) nV)) nV) xq)
 (qh (zB 2)))))
def zV:MF:=rR 1 6 EZ
def EU:MS:=(qh (rY (vS (og 0)) [] qz (AM (sZ 0))))
def xX:MF:=rR 1 1 EU
end K51
namespace K31
open PySem L2 Mr Z Xe
def BP:MS:=(nW (oD 2 (kSc (Yw "list" B6 (nC 0) (nD (nC 1) nV))))
 (qh (OM (lOf (Rp (sZ 0) (zu (nC 2)) Bz)) (lOf (Rp (sZ 0) Bz (zu (nC 2)))))))
def tD:MF:=rR 2 3 BP
def mb_round_turns_0:MS:=(nW (oD 7 (kSc (Cs vA (oN CV (nC 4) (nC 6))))) (nW (oD 8 (kSc (ro (nC 2) (nC 7)))) (nW (xH (rA (uK (nC 8) (nC 5))) (nW (vf 5 (nC 8) (kSc (rC (.bl true)))) (nW (yQ 3 (oJ K31.tD (nQ (FJ (sZ 0) (nC 8)) (nQ (og 7) oB)))) (Kd 4 (lOf (FJ (sZ 3) (Cs vA (rC (.int 1)))))))) qa) (R7 6 (λa b=>a+b) (rC (.int 1))))))
def Cg:MS:=(nW (oD 3 (kSc (rC (.int 1))))
 (nW (oD 4 (kSc (rC (.int 0))))
 (nW (xH (rA (oN Kh (oN tS (nC 0) (rC (.int 3))) (rC (.int 0)))) (nW (oD 3 (kSc (oN Ba (rC (.int 1)) (oN tS (oN zS (nC 0) (rC (.int 3))) (oN HF (rC (.int 10)) (rC (.int 40))))))) (oD 4 (kSc (oN tS (oN zS (nC 1) (rC (.int 66))) (oN HF (rC (.int 10)) (rC (.int 40))))))) qa)
 (qh (kSc (oN Ba (oN CS (nC 3) (oN Ba (oN tS (oN Ba (oN CS (oN Ba (rC (.int 1)) (oN tS (nC 1) (rC (.int 66)))) (nC 2)) (nC 0)) (rC (.int 67))) (rC (.int 1)))) (nC 4)))))))
def rO:MF:=rR 3 5 Cg
def sA:MS:=(S7 8 3 (WI 3 (Nj 3) (oN CV (nC 4) (oN Dw (tX qu (nD (nC 4) nV)) (rC (.int 1))))) (IM 3 (FE (rA (oN C0 (oN tS (nC 7) (rC (.int 4))) (rC (.int 1)))) (rA (oN Kh (tX qu (nD (nC 4) nV)) (rC (.int 1))))) (λ_=>(G8 (Du 4))) (IM 3 (FE (rA (oN C0 (oN tS (nC 7) (rC (.int 4))) (rC (.int 2)))) (rA (oN Kh (tX qu (nD (nC 5) nV)) (rC (.int 0))))) (FY 3 (oD 9 (kSc (oN Dw (tX qu (nD (nC 5) nV)) (rC (.int 1))))) (FY 3 (xH (rA (nC 2)) (oD 9 (kSc (oN tS (oN zS (nC 7) (rC (.int 8))) (tX qu (nD (nC 5) nV))))) qa) (FL 3 (yP 5 (nC 9))))) (IM 3 (rA (oN Kh (tX qu (nD (nC 6) nV)) (rC (.int 0)))) (FY 3 (E9 10 (Tt CS (yP 6 (rC (.int 0))) (oN Dw (rC (.int 1)) (oN CS (rC (.int 2)) (oN tS (oN zS (nC 7) (rC (.int 4))) (rC (.int 2))))))) (λpath=>nW ((K1 3 (og 10)) path) (xH (rA (oN C0 (oN tS (nC 7) (rC (.int 4))) (rC (.int 0)))) (nW (yQ 3 (sJ (nQ (kSc (Cs vA (nC 10))) oB))) (yQ 4 (kSc (oN Dw (tX qu (nD (nC 3) nV)) (rC (.int 1)))))) (yQ 5 (kSc (Cs vA (nC 10))))))) (λ_=>qa)))))
def wj:MS:=(Kz 3 (WI 3 (Nj 3) (oN CV (nC 4) (oN Dw (tX qu (nD (nC 4) nV)) (rC (.int 1))))) (Du 5))
def DP:MS:=(nW (oD 3 (sJ (nQ (sJ oB) oB)))
 (nW (oD 4 (sJ (nQ (kSc (rC (.int 0))) oB)))
 (nW (oD 5 (sJ oB))
 (nW (oD 6 (AM (sZ 1)))
 (nW (zm 7 (og 0) sA)
 (nW (sj (rA (oN Kh (tX qu (nD (nC 5) nV)) (rC (.int 0)))) wj 100000)
 (qh (zB 3))))))))
def yz:MF:=rR 3 11 DP
end K31
namespace K33
open PySem L2 Mr Z Xe
def Bx:MS:=(qh (Gr (lOf (rY (vS (og 1)) [0] qz (kSc (ro (nC 1) (Cs vA (nC 0))))))))
def sq:MF:=rR 2 2 Bx
def yH:MS:=(vf 1 (nC 3) (og 2))
def DL:MS:=(nW (oD 1 ym)
 (nW (Ig 2 3 (oJ Zl.pI (nQ (og 0) oB)) yH)
 (qh (Gr (lOf (rY (vS (og 0)) [1] qz (oJ K33.sq (nQ (og 1) (nQ (og 0) oB)))))))))
def xV:MF:=rR 1 4 DL
end K33
namespace K15
open PySem L2 Mr Z
def yG:MS:=(vf 2 (nC 3) (kSc (GT (nC 1) (Cs vA (nC 3)))))
def Eh:MS:=(nW (oD 1 (oJ K51.BD (nQ (og 0) oB)))
 (nW (oD 2 ym)
 (nW (K9 3 1 yG)
 (qh (zB 2)))))
def yo:MF:=rR 1 4 Eh
def vV:MS:=(nW (yQ 2 (og 3)) (oD 3 (kSc (ro (nC 0) (nC 3)))))
def AK:MS:=(nW (oD 2 (sJ (nQ (og 1) oB)))
 (nW (oD 3 (kSc (ro (nC 0) (nC 1))))
 (nW (sj (rA (oN Jn (nC 3) (nC 1))) vV 100000)
 (qh (zB 2)))))
def uV:MF:=rR 2 4 AK
def zc:MS:=(vf 2 (nC 6) (kSc (rC (.bl true))))
def wI:MS:=(xH (rA (uK (nC 4) (nC 2))) (nW (oD 5 (oJ K15.uV (nQ (og 1) (nQ (og 4) oB)))) (nW (zm 6 (og 5) zc) (yQ 3 (og 5)))) qa)
def IE:MS:=(nW (oD 1 (oJ K15.yo (nQ (og 0) oB)))
 (nW (oD 2 ym)
 (nW (oD 3 (rY (vS (og 0)) [] (rA (oN C0 (tX qu (nD (nC 0) nV)) (rC (.int 0)))) (sJ oB)))
 (nW (zm 4 (oJ Zl.yd (nQ (og 0) oB)) wI)
 (qh (oJ Zl.om (nQ (og 3) oB)))))))
def vq:MF:=rR 1 7 IE
def yN:MS:=(vf 1 (oN CV (nC 2) (nC 3)) (kSc (oN CV (nC 2) (oN tS (oN Ba (nC 3) (rC (.int 1))) (tX qu (nD (nC 2) nV))))))
def yK:MS:=(zb 3 (nD (tX qu (nD (nC 2) nV)) nV) yN)
def DZ:MS:=(nW (oD 1 ym)
 (nW (zm 2 (og 0) yK)
 (qh (zB 1))))
def wD:MF:=rR 1 4 DZ
end K15
namespace K72
open PySem L2 Mr Z Xe
def DJ:MS:=(qh (kSc (Sy (tX zr (nD (nC 0) (nD (rC (.ty "int")) nV))) (V8 (tX zr (nD (nC 0) (nD (rC (.ty "bool")) nV)))))))
def uy:MF:=rR 1 1 DJ
end K72
namespace K44
open PySem L2 Mr Z
def vi:MS:=(nW (oD 2 (kSc (oN Ba (oN Ba (nC 2) (rC (.int 1))) (oN tS (nC 0) (oN HF (rC (.int 10)) (rC (.int 57))))))) (nW (oD 0 (kSc (oN OX (nC 0) (oN HF (rC (.int 10)) (rC (.int 57)))))) (yQ 3 (og 2))))
def zR:MS:=(nW (oD 2 (kSc (rC (.int 0))))
 (nW (oD 3 (sJ oB))
 (nW (zb 4 (nD (nC 1) nV) vi)
 (qh (zB 3)))))
def ue:MF:=rR 2 5 zR
def yV:MS:=(nW (PY 3 (yP 2 (oN tS (nC 0) (tX qu (nD (nC 2) nV))))) (oD 0 (kSc (oN zS (nC 0) (oN Ba (tX qu (nD (nC 2) nV)) (rC (.int 1)))))))
def DE:MS:=(nW (oD 2 (AM (sZ 1)))
 (nW (oD 3 (sJ oB))
 (nW (zb 4 (nD (tX qu (nD (nC 1) nV)) nV) yV)
 (qh (zB 3)))))
def xP:MF:=rR 2 5 DE
def uJ:MS:=(Kd 2 (lOf (sJ (nQ (og 3) (nQ (kSc (Cs vA (nC 3))) oB)))))
def uY:MS:=(yQ 8 (kSc (ro (nC 4) (oN CV (nC 8) (Cs vA (rC (.int 1)))))))
def uW:MS:=(vf 6 (nC 9) (kSc (rC (.bl true))))
def tI:MS:=(xH (rA (uK (nC 7) (nC 6))) (nW (oD 8 (sJ (nQ (og 7) oB))) (nW (sj (rA (oN Jn (ro (nC 4) (oN CV (nC 8) (Cs vA (rC (.int 1))))) (nC 7))) uY 100000) (nW (zm 9 (og 8) uW) (yQ 5 (og 8))))) qa)
def Bp:MS:=(nW (oD 2 (sJ oB))
 (nW (zm 3 (og 1) uJ)
 (nW (oD 4 (Zc (nD (nC 2) (nD (rOf (oJ K44.xP (nQ (og 0) (nQ (og 2) oB)))) nV))))
 (nW (oD 5 (sJ oB))
 (nW (oD 6 ym)
 (nW (zm 7 (og 2) tI)
 (qh (zB 5))))))))
def vO:MF:=rR 2 10 Bp
end K44
namespace K19
open PySem L2 Mr Z
def E3:MS:=(qh (oJ Zl.om (nQ (rY (vS (og 0)) [] qz (Ln (sZ 0))) oB)))
def ya:MF:=rR 1 1 E3
end K19
namespace K40
open PySem L2 Mr Z
def uF:MS:=(xH (rA (oN Jn (tX qu (nD (rOf (oJ K51.zV (nQ (og 0) oB))) nV)) (rC (.int 1)))) Gf qa)
def qp:MF:=rR 1 1 uF
def mb_round_turns_0:MS:=(nW (oD 7 (kSc (Cs vA (oN CV (nC 4) (nC 6))))) (nW (oD 8 (kSc (ro (nC 2) (nC 7)))) (nW (xH (rA (uK (nC 8) (nC 5))) (nW (vf 5 (nC 8) (kSc (rC (.bl true)))) (nW (yQ 3 (oJ K31.tD (nQ (FJ (sZ 0) (nC 8)) (nQ (og 7) oB)))) (Kd 4 (lOf (FJ (sZ 3) (Cs vA (rC (.int 1)))))))) qa) (R7 6 (λa b=>a+b) (rC (.int 1))))))
def Aa:MS:=(nW (oD 2 (oJ Zl.tM (nQ (og 0) oB)))
 (nW (xH (rA (uK (nC 1) (nC 2))) Gf qa)
 (nW (oD 3 (sJ (nQ (oJ K31.tD (nQ (FJ (sZ 0) (ro (nC 2) (nC 1))) (nQ (og 1) oB))) oB)))
 (nW (oD 4 (AM (lOf (FJ (sZ 3) (rC (.int 0))))))
 (nW (oD 5 (Gy (ro (nC 2) (nC 1)) (kSc (rC (.bl true)))))
 (nW (oD 6 (kSc (rC (.int 0))))
 (nW (sj (rA (oN Si (nC 6) (tX qu (nD (nC 4) nV)))) mb_round_turns_0 100000)
 (qh (zB 3)))))))))
def rQ:MF:=rR 2 9 Aa
def Ay:MS:=(qh (oJ Zl.pI (nQ (oJ K40.rQ (nQ (og 0) (nQ (og 1) oB))) oB)))
def sI:MF:=rR 2 2 Ay
def AC:MS:=(qh (oJ K33.xV (nQ (oJ K40.rQ (nQ (og 0) (nQ (og 1) oB))) oB)))
def sD:MF:=rR 2 2 AC
def yS:MS:=(nW (QX (kSc (rd K40.qp (nD (nC 0) nV))))
 (nW (xH (rA (oN C0 (tX qu (nD (oN CV (nC 0) (rC (.int 0))) nV)) (rC (.int 0)))) (qh (sJ (nQ (sJ oB) oB))) qa)
 (nW (oD 1 (kSc (oN CV (oN CV (nC 0) (rC (.int 0))) (rC (.int 0)))))
 (nW (oD 2 (oJ K40.sD (nQ (og 0) (nQ (og 1) oB))))
 (nW (oD 3 (oJ K40.sI (nQ (og 0) (nQ (og 1) oB))))
 (qh (GN (rY (vS (og 3)) [3,0,2] (rA (oN wZ (rOf (oJ K40.sD (nQ (og 2) (nQ (og 0) oB)))) (nC 3))) (Ys (nD (nC 1) (nD (rOf (oJ K40.sI (nQ (og 2) (nQ (og 0) oB)))) nV)))))))))))
def pX:MF:=rR 1 4 yS
def mb_L_pairs_0:MS:=(nW (xH (Aq (xg (rA (tX zr (nD (nC 1) (nD (rC (.ty "tuple")) nV))))) (rA (oN Jn (tX qu (nD (nC 1) nV)) (rC (.int 2))))) (qh (kSc (rC (.bl false)))) qa) (xH (Aq (xg (rA (rd K72.uy (nD (oN wa (nC 1) (rC (.int 0))) nV)))) (xg (rA (rd K72.uy (nD (oN wa (nC 1) (rC (.int 1))) nV))))) (qh (kSc (rC (.bl false)))) qa))
def mf_L_pairs:MS:=(nW (xH (xg (rA (tX zr (nD (nC 0) (nD (rC (.ty "list")) nV))))) (qh (kSc (rC (.bl false)))) qa)
 (nW (zm 1 (og 0) mb_L_pairs_0)
 (qh (kSc (rC (.bl true))))))
def f_L_pairs:MF:=rR 1 2 mf_L_pairs
def vo:MS:=(xH (Aq (rA (oN Jn (ro (nC 5) (Cs vA (nC 6))) (Cs vA (ro (nC 5) (nC 6))))) (rA (oN Jn (ro (nC 5) (GT (nC 3) (nC 6))) (ro (nC 4) (ro (nC 5) (nC 6)))))) (qh (kSc (rC (.bl false)))) qa)
def Ad:MS:=(nW (xH (Aq (xg (rA (rd K40.f_L_pairs (nD (nC 0) nV)))) (rA (oN yt (nC 0) (rOf (AZ (sZ 0)))))) (qh (kSc (rC (.bl false)))) qa)
 (nW (oD 3 (oJ K15.wD (nQ (og 1) oB)))
 (nW (oD 4 (oJ K15.wD (nQ (og 2) oB)))
 (nW (oD 5 (Wh (sZ 0)))
 (nW (xH (rA (oN yt (rOf (rY (vS (og 0)) [] qz (kSc (oN wa (nC 0) (rC (.int 0)))))) (rOf (Cb (nC 3))))) (qh (kSc (rC (.bl false)))) qa)
 (nW (xH (rA (oN yt (rOf (GA (lOf (rY (vS (og 0)) [] qz (kSc (oN wa (nC 0) (rC (.int 1)))))))) (rOf (Cb (nC 4))))) (qh (kSc (rC (.bl false)))) qa)
 (nW (K9 6 3 vo)
 (qh (kSc (rC (.bl true)))))))))))
def qI:MF:=rR 3 7 Ad
def xt:MS:=(nW (oD 5 (rY (Ze (nD (nC 3) nV)) [0,4,3] qz (kSc (rd K31.rO (nD (rd Zl.oj (nD (nC 1) (nD (rC (.int 0)) nV))) (nD (rd Zl.oj (nD (nC 1) (nD (rC (.int 1)) nV))) (nD (oN Ba (oN CS (nC 2) (nC 3)) (nC 0)) nV))))))) (nW (oD 6 (oJ K31.yz (nQ (Rp (sZ 0) (zu (rC (.int 3))) (zu (rC (.int 66)))) (nQ (og 5) (nQ (kSc (oN C0 (oN tS (rd Zl.oj (nD (nC 0) (nD (rC (.int 2)) nV))) (rC (.int 2))) (rC (.int 1)))) oB))))) (nW (Qs 2 (WI 2 (Nj 2) (rC (.int 0))) (lOf (FJ (sZ 6) (rC (.int 0))))) (Kd 2 (lOf (Rp (sZ 6) (zu (rC (.int 1))) Bz))))))
def Fc:MS:=(nW (oD 2 (sJ (nQ (sJ oB) oB)))
 (nW (oD 3 (kSc (oN zS (rC (.int 12)) (nC 1))))
 (nW (zb 4 (nD (nC 1) nV) xt)
 (qh (zB 2)))))
def yg:MF:=rR 2 7 Fc
def vh:MS:=(nW (oD 5 (kSc (rd K31.rO (nD (rd Zl.oj (nD (nC 0) (nD (rC (.int 0)) nV))) (nD (rd Zl.oj (nD (nC 0) (nD (rC (.int 1)) nV))) (nD (nC 4) nV)))))) (nW (oD 6 (kSc (rd K31.rO (nD (rd Zl.oj (nD (nC 0) (nD (rC (.int 0)) nV))) (nD (rd Zl.oj (nD (nC 0) (nD (rC (.int 1)) nV))) (nD (oN tS (oN Ba (nC 4) (nC 2)) (rC (.int 12))) nV)))))) (nW (vf 3 (nC 5) (og 6)) (vf 3 (Cs vA (nC 5)) (kSc (Cs vA (nC 6)))))))
def zM:MS:=(nW (oD 2 (kSc (oN zS (rC (.int 12)) (nC 1))))
 (nW (oD 3 ym)
 (nW (zb 4 (nD (rC (.int 12)) nV) vh)
 (qh (zB 3)))))
def sW:MF:=rR 2 7 zM
def yJ:MS:=(vf 1 (nC 4) (og 2))
def wk:MS:=(zm 4 (og 3) yJ)
def sC:MS:=(xH (rA (uK (ro (nC 1) (Cs vA (nC 4))) (nC 5))) (nW (vf 5 (ro (nC 1) (Cs vA (nC 4))) (kSc (rC (.bl true)))) (yQ 8 (kSc (ro (nC 1) (Cs vA (nC 4)))))) qa)
def vY:MS:=(nW (zm 4 (FJ (sZ 0) (oN CV (nC 8) (nC 9))) sC) (oD 9 (kSc (oN Ba (nC 9) (rC (.int 1))))))
def uQ:MS:=(xH (rA (uK (nC 7) (nC 5))) (nW (vf 5 (nC 7) (kSc (rC (.bl true)))) (nW (oD 8 (sJ (nQ (og 7) oB))) (nW (oD 9 (kSc (rC (.int 0)))) (nW (sj (rA (oN Si (nC 9) (tX qu (nD (nC 8) nV)))) vY 100000) (yQ 6 (rY (vS (og 8)) [0] qz (FJ (sZ 1) (nC 0)))))))) qa)
def DQ:MS:=(nW (oD 1 ym)
 (nW (Ig 2 3 (og 0) wk)
 (nW (oD 5 ym)
 (nW (oD 6 (sJ oB))
 (nW (zb 7 (nD (tX qu (nD (nC 0) nV)) nV) uQ)
 (qh (zB 6)))))))
def yr:MF:=rR 1 10 DQ
def xi:MS:=(nW (oD 1 (oJ K44.ue (nQ (kSc (rd Zl.oj (nD (nC 0) (nD (rC (.int 0)) nV)))) (nQ (kSc (oN tS (rd Zl.oj (nD (nC 0) (nD (rC (.int 1)) nV))) (rC (.int 25)))) oB))))
 (nW (oD 2 (oJ K40.yr (nQ (oJ K44.vO (nQ (kSc (rd Zl.oj (nD (nC 0) (nD (rC (.int 3)) nV)))) (nQ (og 1) oB))) oB)))
 (nW (xH (rA (oN wZ (nC 2) (rOf (sJ oB)))) (qh (sJ (nQ (sJ oB) oB))) qa)
 (qh (oJ Zl.om (nQ (FJ (sZ 2) (rC (.int 0))) oB))))))
def rP:MF:=rR 1 3 xi
def D2:MS:=(nW (oD 3 (Wh (lOf (FJ (sZ 0) (oN tS (oN zS (nC 2) (rC (.int 12))) (tX qu (nD (nC 0) nV)))))))
 (nW (oD 4 (Wh (lOf (FJ (sZ 0) (oN tS (oN zS (nC 2) (rC (.int 288))) (tX qu (nD (nC 0) nV)))))))
 (nW (xH (rA (oN HH (rOf (AZ (lOf (rY (vS (og 1)) [4,3] qz (ER (nQ (og 0) (nQ (kSc (ro (nC 1) (ro (nC 2) (nC 0)))) oB))))))) (nC 0))) (qh (kSc (rC (.bl false)))) qa)
 (nW (oD 5 (rY (vS (og 0)) [] (rA (tX Jy (nD (rOf (rY (vS (og 0)) [] qz (kSc (oN C0 (oN wa (nC 0) (rC (.int 0))) (oN wa (nC 0) (rC (.int 1))))))) nV))) (og 0)))
 (qh (kSc (Sy (oN C0 (oN tS (tX qu (nD (nC 1) nV)) (tX qu (nD (nC 0) nV))) (rC (.int 0))) (oN wZ (nC 5) (rOf (sJ (nQ (AZ (lOf (rY (vS (og 1)) [] qz (ER (nQ (og 0) (nQ (og 0) oB)))))) oB)))))))))))
def wy:MF:=rR 3 6 D2
def P1:MS:=(nW (oD 1 (kSc (rd Zl.oj (nD (nC 0) (nD (rC (.int 2)) nV)))))
 (nW (oD 2 (kSc (oN CV (rOf (sJ (nQ (kSc (rC (.int 1))) (nQ (kSc (rC (.int 2))) (nQ (kSc (rC (.int 3))) (nQ (kSc (rC (.int 4))) (nQ (kSc (rC (.int 6))) (nQ (kSc (rC (.int 12))) oB)))))))) (oN tS (oN zS (nC 1) (rC (.int 2))) (rC (.int 6))))))
 (nW (oD 3 (oJ Zl.om (nQ (oJ K40.yg (nQ (og 0) (nQ (og 2) oB))) oB)))
 (nW (oD 4 (oJ K40.sW (nQ (og 0) (nQ (og 2) oB))))
 (nW (xH (rA (oN C0 (oN tS (tX qu (nD (nC 0) nV)) (rC (.int 2))) (rC (.int 0)))) (nW (oD 2 (kSc (rC (.int 1)))) (nW (oD 3 (oJ K40.rP (nQ (og 0) oB))) (oD 4 (Wh (lOf (rY (vS (oJ Zl.pI (nQ (og 3) oB))) [] qz (ER (nQ (og 0) (nQ (og 0) oB))))))))) qa)
 (nW (oD 5 (oJ K51.xX (nQ (og 3) oB)))
 (nW (oD 6 (oJ K40.pX (nQ (og 5) oB)))
 (nW (xH (Aq (rA (oN yt (nC 5) (nC 3))) (Aq (rA (oN yt (rOf (oJ K40.pX (nQ (oJ K15.vq (nQ (og 3) oB)) oB))) (nC 6))) (rA (oN yt (rOf (oJ K40.pX (nQ (oJ K19.ya (nQ (og 3) oB)) oB))) (nC 6))))) (qh (kSc (rC (.bl false)))) qa)
 (nW (oD 7 (oJ Zl.pI (nQ (og 3) oB)))
 (nW (xH (rA (oN C0 (tX qu (nD (nC 7) nV)) (rC (.int 0)))) (qh (kSc (oN wZ (nC 6) (rOf (sJ (nQ (sJ oB) oB)))))) qa)
 (nW (xH (Aq (xg (rA (tX zr (nD (nC 6) (nD (rC (.ty "list")) nV))))) (xg (rA (tX NH (nD (rOf (rY (vS (og 6)) [3] qz (kSc (rd K40.qI (nD (nC 0) (nD (nC 1) (nD (nC 1) nV))))))) nV))))) (qh (kSc (rC (.bl false)))) qa)
 (nW (xH (Aq (rA (oN HH (rOf (AZ (lOf (rY (vS (og 7)) [4] qz (ER (nQ (og 0) (nQ (kSc (ro (nC 1) (nC 0))) oB))))))) (nC 6))) (rA (oN Jn (oN tS (tX qu (nD (nC 6) nV)) (nC 2)) (rC (.int 0))))) (qh (kSc (rC (.bl false)))) qa)
 (qh (kSc (rd K40.wy (nD (nC 6) (nD (nC 7) (nD (nC 1) nV))))))))))))))))))
def FC:MF:=rR 1 8 P1
def yC(i:Nat):Stmt:=PySem.Challenge.pw_mapround_k40_whole_own_turns_kept.main.body.getD i (.Pass ⟨0,0,0,0⟩)
section
variable {P:jo}{w:jt}{K:W.Frag}{mg:Str->Option Value}{base:Heap}
abbrev zK:Stmt:=yC 5
theorem FF:oA ["ends", "start"] ["ends"] (nZ zK):=by trivial
theorem MV     (D:xJ K mg "turned" zK ["ends"] f fd) (B:Bt mg)     : Fn P w K mg base 1 "turned" zK ["ends"] (oK K Zl.vc) f fd :=
 ⟨D,D.F.ok FF (λ_ _ _ _=>oX) λl A outer s H n Q E hr h=>⟨_,(ny (qU (oO zk (nY oE (by rfl) B.len PySem.boot_len (nu (pv 0) nB)) nL (pw _)) (nJ (oy (pU nB))) pB) (ny (nS (i:=1) FF.nd rfl (by trivial) (rN ak dW fj DF (pv 0) (nu (nY (FD rfl) (by rfl) B.min gS (nu (pv 0) nB)) nB))) (nJ (oy (oI G3 (ug vv (pv 0) (uP (pv 1)) we) (ug vv (pv 0) we (uP (pv 1)))))))),oi _ (K:=K) (nH (rK (oQ (nT yq (qf pW (nF (nv 0) nR)) nN)) (ox (pV nX)) pD) (nH (nU (i:=1) (SR.kSc (Q7 (T := "list") DY (nv 0) (nF (qf P7 (nF (nv 0) nR)) nR)))) (ox (Ga (SK.lOf (AE (qB 0) (uO (nv 1)) wt)) (SK.lOf (AE (qB 0) wt (uO (nv 1)))))))) h⟩⟩
abbrev tG:Stmt:=yC 6
theorem zd:oA ["turns", "told", "turn"] ["turns"] (nZ tG):=by trivial
theorem FN     (D:xJ K mg "told_ends" tG ["turns"] f fd) (B:Bt mg)     : Fn P w K mg base 1 "told_ends" tG ["turns"] (oK K Zl.pI) f fd :=
 ⟨D,D.F.ok zd (λ_ _ _ _=>oX) λl A outer s H n Q E hr h=>⟨_,(ny (nS (i:=1) zd.nd rfl (by trivial) (pU nB)) (ny (qv PassesOwn.never rfl (oS (pv 0)) (oP (i:=2) zd.nd rfl (by trivial)) (nJ (qe (rN ak ck cm wC (pv 1) (nu (pv 2) nB))))) (nJ (oy (pv 1))))),oi _ (K:=K) (nH (nU (i:=1) (pV nX)) (nH (ub (nP 0) (Ed (i:=1) (Gx 2))) (ox (uc 1)))) h⟩⟩
abbrev rF:Stmt:=yC 7
theorem Cc:oA ["turns"] ["turns"] (nZ rF):=by trivial
theorem Ct  (D:xJ K mg "in_good_order" rF ["turns"] f fd) (B:Bt mg)   (l:Fn P w K mg base 1 "turned" zK ["ends"] (oK K Zl.vc) fturned fdturned)  : Fn P w K mg base 2 "in_good_order" rF ["turns"] (oK K Zl.om) f fd :=
 ⟨D,D.F.ok Cc (λ_ _ _ _=>oX) λr A outer s H t Q E hr h=>have n:=hr.units;⟨_,(nJ (oy (nY (B0 n) (by rfl) B.sorted bg (nu (rH (cl:=[]) (N:=["turn"]) (fr:=[]) rfl rfl (by decide +kernel) rfl (by decide +kernel) rfl (rV.none (by decide +kernel)) (oS (pv 0)) (λ_ _ _ _=>tK) (λ_ _ _ _=>(oH l (hr.mono (by decide)) (nu (pv 0) nB)))) nB)))),oi _ (K:=K) (ox (E8 (qr (nP 0) tN (ou (nK (nP 0) nX))))) h⟩⟩
abbrev xS:Stmt:=yC 8
theorem Kc:oA ["m"] ["m"] (nZ xS):=by trivial
theorem Kb  (D:xJ K mg "ends_of" xS ["m"] f fd) (B:Bt mg)   (l:Fn P w K mg base 1 "told_ends" tG ["turns"] (oK K Zl.pI) ftold_ends fdtold_ends)  : Fn P w K mg base 2 "ends_of" xS ["m"] (oK K Zl.yd) f fd :=
 ⟨D,D.F.ok Kc (λ_ _ _ _=>oX) λn A outer s H r Q E hr h=>⟨_,(nJ (oy (nY BZ (by rfl) B.sorted bg (nu (oH l (hr.mono (by decide)) (nu (pv 0) nB)) nB)))),oi _ (K:=K) (ox (Ie (SL.q (SK.lOf (ou (nK (nP 0) nX)))))) h⟩⟩
abbrev uG:Stmt:=yC 9
theorem uX:oA ["m", "places", "place", "turn", "end"] ["m"] (nZ uG):=by trivial
theorem GR     (D:xJ K mg "places_at" uG ["m"] f fd) (B:Bt mg)     : Fn P w K mg base 1 "places_at" uG ["m"] (oK K Zl.tM) f fd :=
 ⟨D,D.F.ok uX (λ_ _ _ _=>oX) λl A outer s H n Q E hr h=>⟨_,(ny (nS (i:=1) uX.nd rfl (by trivial) tO) (ny (qv PassesOwn.never rfl (GZ (by rfl) B.enum (nu (pv 0) nB)) (G4 rfl (vN (oP (i:=2) uX.nd rfl (by trivial)) (vN (oP (i:=3) uX.nd rfl (by trivial)) Dg))) (nJ (qv PassesOwn.never rfl (oS (pv 3)) (oP (i:=4) uX.nd rfl (by trivial)) (nJ (sy (pO hr) (pv 1) (pv 4) (pv 2) rfl))))) (nJ (oy (pv 1))))),oi _ (K:=K) (nH (nU (i:=1) uT) (nH (FS (nP 0) (ub (nP 3) (sH (i:=1) (nP 2) (nv 4)))) (ox (uc 1)))) h⟩⟩
abbrev Bw:Stmt:=yC 10
theorem zC:oA ["m", "following", "turn", "end", "behind"] ["m"] (nZ Bw):=by trivial
theorem Qu     (D:xJ K mg "nexts" Bw ["m"] f fd) (B:Bt mg)     : Fn P w K mg base 1 "nexts" Bw ["m"] (oK K K51.BD) f fd :=
 ⟨D,D.F.ok zC (λ_ _ _ _=>oX) λl A outer s H n Q E hr h=>⟨_,(ny (nS (i:=1) zC.nd rfl (by trivial) tO) (ny (qv PassesOwn.never rfl (oS (pv 0)) (oP (i:=2) zC.nd rfl (by trivial)) (nJ (qv PassesOwn.never rfl (Wx (by rfl) B.zip (nu (pv 2) (nu (oI G3 (ug vv (pv 2) (uP nL) we) (ug vv (pv 2) we (uP nL))) nB))) (G4 rfl (vN (oP (i:=3) zC.nd rfl (by trivial)) (vN (oP (i:=4) zC.nd rfl (by trivial)) Dg))) (nJ (sy (pO hr) (pv 1) (pv 3) (pv 4) rfl))))) (nJ (oy (pv 1))))),oi _ (K:=K) (nH (nU (i:=1) uT) (nH (ub (nP 0) (RY (nP 2) (Ga (SK.lOf (AE (qB 2) (uO nN) wt)) (SK.lOf (AE (qB 2) wt (uO nN)))) (sH (i:=1) (nP 4) (nv 3)))) (ox (uc 1)))) h⟩⟩
abbrev xO:Stmt:=yC 12
theorem uq:oA ["m", "start", "place_of", "known", "waiting", "here", "end", "there"] ["m", "start"] (nZ xO):=by trivial
theorem KO  (D:xJ K mg "reached" xO ["m", "start"] f fd) (B:Bt mg)   (l:Fn P w K mg base 1 "places_at" uG ["m"] (oK K Zl.tM) fplaces_at fdplaces_at)  : Fn P w K mg base 2 "reached" xO ["m", "start"] (oK K K51.wG) f fd :=
 ⟨D,D.F.ok uq (λ_ _ _ _=>oX) λn A outer s H r Q E hr h=>⟨_,(ny (nS (i:=2) uq.nd rfl (by trivial) (oH l (hr.mono (by decide)) (nu (pv 0) nB))) (ny (nS (i:=3) uq.nd rfl (by trivial) (L3 (HU (pv 1) tY La) rfl rfl (by simp) (by decide))) (ny (nS (i:=4) uq.nd rfl (by trivial) (pU (nu (pv 1) nB))) (ny (yn PassesOwn.never (oO Fx (nY oE (by rfl) B.len PySem.boot_len (nu (pv 4) nB)) nL (pw _)) (ny (nS (i:=5) uq.nd rfl (by trivial) (KF ak cO cP KL (pv 4))) (nJ (qv PassesOwn.never rfl (oS (qQ pH (pv 0) (pv 5) (λ_ _=>rfl))) (oP (i:=6) uq.nd rfl (by trivial)) (ny (nS (i:=7) uq.nd rfl (by trivial) (qD (pO hr) (pv 2) (vB tH (pv 6)) (by first|rfl|exact trivial|(intro _ _;rfl)))) (nJ (qU (Ag (uB (pO hr) (pv 7) (pv 3))) (ny (sy (pO hr) (pv 3) (pv 7) tY rfl) (nJ (qe (rN ak aH aJ pZ (pv 4) (nu (pv 7) nB))))) pB))))))) (nJ (oy (nY (yX rfl) (by rfl) B.sorted bg (nu (pv 3) nB)))))))),oi _ (K:=K) (nH (nU (i:=2) (ou (nK (nP 0) nX))) (nH (nU (i:=3) (Ic (nv 1) (SR.kSc tZ))) (nH (nU (i:=4) (pV (nK (nP 1) nX))) (nH (xR 100000 (oQ (nT Fq (qf pW (nF (nv 4) nR)) nN)) (nH (RV (i:=5) (Gn (i:=4))) (ub (zh (qB 0) (nv 5)) (nH (nU (i:=7) (SR.kSc (qP (nv 2) (vE tE (nv 6))))) (rK (vg (uA (nv 7) (nv 3))) (nH (sH (i:=3) (SR.kSc tZ) (nv 7)) (vk (i:=4) (nP 7))) pD))))) (ox (Ew (nv 3))))))) h⟩⟩
abbrev zQ:Stmt:=yC 13
theorem wF:oA ["m", "known", "found", "start", "places", "place"] ["m"] (nZ zQ):=by trivial
theorem NX  (D:xJ K mg "pieces" zQ ["m"] f fd) (B:Bt mg)   (l:Fn P w K mg base 2 "reached" xO ["m", "start"] (oK K K51.wG) freached fdreached)  : Fn P w K mg base 3 "pieces" zQ ["m"] (oK K K51.zV) f fd :=
 ⟨D,D.F.ok wF (λ_ _ _ _=>oX) λn A outer s H r Q E hr h=>⟨_,(ny (nS (i:=1) wF.nd rfl (by trivial) tO) (ny (nS (i:=2) wF.nd rfl (by trivial) (pU nB)) (ny (qv PassesOwn.never rfl (uw (by rfl) B.range (nu (nY oE (by rfl) B.len PySem.boot_len (nu (pv 0) nB)) nB)) (oP (i:=3) wF.nd rfl (by trivial)) (nJ (qU (Ag (uB (pO hr) (pv 3) (pv 1))) (ny (nS (i:=4) wF.nd rfl (by trivial) (oH l (hr.mono (by decide)) (nu (pv 0) (nu (pv 3) nB)))) (ny (qv PassesOwn.never rfl (oS (pv 4)) (oP (i:=5) wF.nd rfl (by trivial)) (nJ (sy (pO hr) (pv 1) (pv 5) tY rfl))) (nJ (qe (rN ak aH aJ pZ (pv 2) (nu (rH (N:=["place", "m"]) (fr:=[0]) rfl rfl (by decide +kernel) rfl (by decide +kernel) rfl (rV.of (by decide +kernel) rfl rfl (by exact⟨rfl,trivial⟩) (by repeat (first|exact trivial|refine⟨(by first|exact λ_=>⟨_,rfl⟩|exact λh=>(by rcases h with h|h <;> cases h)),?_⟩)) (by exact⟨⟨rfl,rfl,rfl⟩,trivial⟩)) (oS (pv 4)) (λ_ _ _ _=>tK) (λ_ _ _ _=>(vn uU (by rfl) B.list bU (nu (qQ pH (pv 1) (pv 0) (λ_ _=>rfl)) nB)))) nB)))))) pB))) (nJ (oy (pv 2)))))),oi _ (K:=K) (nH (nU (i:=1) uT) (nH (nU (i:=2) (pV nX)) (nH (wV (nF (qf pW (nF (nv 0) nR)) nR) (rK (vg (uA (nv 3) (nv 1))) (nH (nU (i:=4) (ou (nK (nP 0) (nK (nP 3) nX)))) (nH (ub (nP 4) (sH (i:=1) (SR.kSc tZ) (nv 5))) (vk (i:=2) (qr (nP 4) tN (BW (SL.q (SK.lOf (zh (qB 1) (nv 0))))))))) pD)) (ox (uc 2))))) h⟩⟩
abbrev qq:Stmt:=yC 14
theorem yv:oA ["m"] ["m"] (nZ qq):=by trivial
theorem yf  (D:xJ K mg "refuse_not_one_piece" qq ["m"] f fd) (B:Bt mg)   (l:Fn P w K mg base 3 "pieces" zQ ["m"] (oK K K51.zV) fpieces fdpieces)  : Fn P w K mg base 4 "refuse_not_one_piece" qq ["m"] (oK K K40.qp) f fd :=
 ⟨D,D.F.ok yv (λ_ _ _ _=>oX) λn A outer s H r Q E hr h=>⟨_,(nJ (qU (oO D4 (nY oE (by rfl) B.len PySem.boot_len (nu (oH l (hr.mono (by decide)) (nu (pv 0) nB)) nB)) nL (pw _)) (nJ Hw) pB)),oi _ (K:=K) (rK (oQ (nT DI (qf pW (nF (SK.rOf (ou (nK (nP 0) nX))) nR)) nN)) IR pD) h⟩⟩
abbrev vI:Stmt:=yC 16
theorem Bn:oA ["turn", "end", "start"] ["turn", "end"] (nZ vI):=by trivial
theorem GK     (D:xJ K mg "turn_from" vI ["turn", "end"] f fd) (B:Bt mg)     : Fn P w K mg base 1 "turn_from" vI ["turn", "end"] (oK K K31.tD) f fd :=
 ⟨D,D.F.ok Bn (λ_ _ _ _=>oX) λl A outer s H n Q E hr h=>⟨_,(ny (nS (i:=2) Bn.nd rfl (by trivial) (rN ak dW fj DF (pv 0) (nu (pv 1) nB))) (nJ (oy (oI G3 (ug vv (pv 0) (uP (pv 2)) we) (ug vv (pv 0) we (uP (pv 2))))))),oi _ (K:=K) (nH (nU (i:=2) (SR.kSc (Q7 (T := "list") DY (nv 0) (nF (nv 1) nR)))) (ox (Ga (SK.lOf (AE (qB 0) (uO (nv 2)) wt)) (SK.lOf (AE (qB 0) wt (uO (nv 2))))))) h⟩⟩
abbrev sX:Stmt:=yC 17
theorem qt:oA ["m", "end", "place_of", "turns", "ends", "known", "spot", "other", "there"] ["m", "end"] (nZ sX):=by trivial
theorem Ds  (D:xJ K mg "round_turns" sX ["m", "end"] f fd) (B:Bt mg)   (n:Fn P w K mg base 1 "places_at" uG ["m"] (oK K Zl.tM) fplaces_at fdplaces_at) (l:Fn P w K mg base 1 "turn_from" vI ["turn", "end"] (oK K K31.tD) fturn_from fdturn_from)  : Fn P w K mg base 2 "round_turns" sX ["m", "end"] (oK K K40.rQ) f fd :=
 ⟨D,D.F.ok qt (λ_ _ _ _=>oX) λr A outer s H t Q E hr h=>⟨_,(ny (nS (i:=2) qt.nd rfl (by trivial) (oH n (hr.mono (by decide)) (nu (pv 0) nB))) (ny (qU (Ag (uB (pO hr) (pv 1) (pv 2))) (nJ Hw) pB) (ny (nS (i:=3) qt.nd rfl (by trivial) (pU (nu (oH l (hr.mono (by decide)) (nu (qQ pH (pv 0) (qD (pO hr) (pv 2) (pv 1) (by first|rfl|exact trivial|(intro _ _;rfl))) (λ_ _=>rfl)) (nu (pv 1) nB))) nB))) (ny (nS (i:=4) qt.nd rfl (by trivial) (vn uU (by rfl) B.list bU (nu (qQ pH (pv 3) nL (λ_ _=>rfl)) nB))) (ny (nS (i:=5) qt.nd rfl (by trivial) (L3 (HU (qD (pO hr) (pv 2) (pv 1) (by first|rfl|exact trivial|(intro _ _;rfl))) tY La) rfl rfl (by simp) (by decide))) (ny (nS (i:=6) qt.nd rfl (by trivial) nL) (ny (yn PassesOwn.never (oO ON (pv 6) (nY oE (by rfl) B.len PySem.boot_len (nu (pv 4) nB)) (pw _)) (ny (nS (i:=7) qt.nd rfl (by trivial) (vB tH (qQ pH (pv 4) (pv 6) (λ_ _=>rfl)))) (ny (nS (i:=8) qt.nd rfl (by trivial) (qD (pO hr) (pv 2) (pv 7) (by first|rfl|exact trivial|(intro _ _;rfl)))) (ny (qU (Ag (uB (pO hr) (pv 8) (pv 5))) (ny (sy (pO hr) (pv 5) (pv 8) tY rfl) (ny (qe (rN ak aH aJ pZ (pv 3) (nu (oH l (hr.mono (by decide)) (nu (qQ pH (pv 0) (pv 8) (λ_ _=>rfl)) (nu (pv 7) nB))) nB))) (nJ (qe (rN ak ck cm wC (pv 4) (nu (qQ pH (pv 3) (vB tH nL) (λ_ _=>rfl)) nB)))))) pB) (nJ (U3 (i:=6) qt.nd rfl (by trivial) nL VA)))))) (nJ (oy (pv 3)))))))))),oi _ (K:=K) (nH (nU (i:=2) (ou (nK (nP 0) nX))) (nH (rK (vg (uA (nv 1) (nv 2))) IR pD) (nH (nU (i:=3) (pV (nK (ou (nK (zh (qB 0) (qP (nv 2) (nv 1))) (nK (nP 1) nX))) nX))) (nH (nU (i:=4) (BW (SL.q (SK.lOf (zh (qB 3) nN))))) (nH (nU (i:=5) (Ic (qP (nv 2) (nv 1)) (SR.kSc tZ))) (nH (nU (i:=6) (SR.kSc nN)) (nH (xR 100000 (oQ (nT OO (nv 6) (qf pW (nF (nv 4) nR)))) (nH (nU (i:=7) (SR.kSc (vE tE (nT yu (nv 4) (nv 6))))) (nH (nU (i:=8) (SR.kSc (qP (nv 2) (nv 7)))) (nH (rK (vg (uA (nv 8) (nv 5))) (nH (sH (i:=5) (SR.kSc tZ) (nv 8)) (nH (vk (i:=3) (ou (nK (zh (qB 0) (nv 8)) (nK (nP 7) nX)))) (Ed (i:=4) (SK.lOf (zh (qB 3) (vE tE nN)))))) pD) (Wg (i:=6) nN))))) (ox (uc 3))))))))) h⟩⟩
abbrev uM:Stmt:=yC 18
theorem EM:oA ["m", "end"] ["m", "end"] (nZ uM):=by trivial
theorem Ez  (D:xJ K mg "round_ends" uM ["m", "end"] f fd) (B:Bt mg)   (n:Fn P w K mg base 1 "told_ends" tG ["turns"] (oK K Zl.pI) ftold_ends fdtold_ends) (l:Fn P w K mg base 2 "round_turns" sX ["m", "end"] (oK K K40.rQ) fround_turns fdround_turns)  : Fn P w K mg base 3 "round_ends" uM ["m", "end"] (oK K K40.sI) f fd :=
 ⟨D,D.F.ok EM (λ_ _ _ _=>oX) λr A outer s H t Q E hr h=>⟨_,(nJ (oy (oH n (hr.mono (by decide)) (nu (oH l (hr.mono (by decide)) (nu (pv 0) (nu (pv 1) nB))) nB)))),oi _ (K:=K) (ox (ou (nK (ou (nK (nP 0) (nK (nP 1) nX))) nX))) h⟩⟩
abbrev vD:Stmt:=yC 20
theorem Gb:oA ["spots", "turn"] ["spots", "turn"] (nZ vD):=by trivial
theorem G9     (D:xJ K mg "turn_code" vD ["spots", "turn"] f fd) (B:Bt mg)    (l:mg "tuple" = none)   : Fn P w K mg base 1 "turn_code" vD ["spots", "turn"] (oK K K33.sq) f fd :=
 ⟨D,D.F.ok Gb (λ_ _ _ _=>oX) λn A outer s H r Q E hr h=>⟨_,(nJ (oy (vn AF (by rfl) l fk (nu (rH (N:=["end", "spots"]) (fr:=[0]) rfl rfl (by decide +kernel) rfl (by decide +kernel) rfl (rV.of (by decide +kernel) rfl rfl (by exact⟨rfl,trivial⟩) (by repeat (first|exact trivial|refine⟨(by first|exact λ_=>⟨_,rfl⟩|exact λh=>(by rcases h with h|h <;> cases h)),?_⟩)) (by exact⟨⟨rfl,rfl,rfl⟩,trivial⟩)) (oS (pv 1)) (λ_ _ _ _=>tK) (λ_ _ _ _=>(qD (pO hr) (pv 1) (vB tH (pv 0)) (by first|rfl|exact trivial|(intro _ _;rfl))))) nB)))),oi _ (K:=K) (ox (Jk (SL.q (SK.lOf (qr (nP 1) tN (SR.kSc (qP (nv 1) (vE tE (nv 0))))))))) h⟩⟩
abbrev yw:Stmt:=yC 19
theorem yD:oA ["turns", "spots", "spot", "end"] ["turns"] (nZ yw):=by trivial
theorem Ku  (D:xJ K mg "code_of" yw ["turns"] f fd) (B:Bt mg)    (r:mg "tuple" = none) (l:Fn P w K mg base 1 "told_ends" tG ["turns"] (oK K Zl.pI) ftold_ends fdtold_ends) (n:Fn P w K mg base 1 "turn_code" vD ["spots", "turn"] (oK K K33.sq) fturn_code fdturn_code)  : Fn P w K mg base 2 "code_of" yw ["turns"] (oK K K33.xV) f fd :=
 ⟨D,D.F.ok yD (λ_ _ _ _=>oX) λt A outer s H u Q E hr h=>⟨_,(ny (nS (i:=1) yD.nd rfl (by trivial) tO) (ny (qv PassesOwn.never rfl (GZ (by rfl) B.enum (nu (oH l (hr.mono (by decide)) (nu (pv 0) nB)) nB)) (G4 rfl (vN (oP (i:=2) yD.nd rfl (by trivial)) (vN (oP (i:=3) yD.nd rfl (by trivial)) Dg))) (nJ (sy (pO hr) (pv 1) (pv 3) (pv 2) rfl))) (nJ (oy (vn AF (by rfl) r fk (nu (rH (N:=["turn", "spots"]) (fr:=[1]) rfl rfl (by decide +kernel) rfl (by decide +kernel) rfl (rV.of (by decide +kernel) rfl rfl (by exact⟨rfl,trivial⟩) (by repeat (first|exact trivial|refine⟨(by first|exact λ_=>⟨_,rfl⟩|exact λh=>(by rcases h with h|h <;> cases h)),?_⟩)) (by exact⟨⟨rfl,rfl,rfl⟩,trivial⟩)) (oS (pv 0)) (λ_ _ _ _=>tK) (λ_ _ _ _=>(oH n (hr.mono (by decide)) (nu (pv 1) (nu (pv 0) nB))))) nB)))))),oi _ (K:=K) (nH (nU (i:=1) uT) (nH (FS (ou (nK (nP 0) nX)) (sH (i:=1) (nP 2) (nv 3))) (ox (Jk (SL.q (SK.lOf (qr (nP 0) tN (ou (nK (nP 1) (nK (nP 0) nX)))))))))) h⟩⟩
abbrev uZ:Stmt:=yC 21
theorem EF:oA ["m", "end"] ["m", "end"] (nZ uZ):=by trivial
theorem EN  (D:xJ K mg "round_code" uZ ["m", "end"] f fd) (B:Bt mg)   (n:Fn P w K mg base 2 "code_of" yw ["turns"] (oK K K33.xV) fcode_of fdcode_of) (l:Fn P w K mg base 2 "round_turns" sX ["m", "end"] (oK K K40.rQ) fround_turns fdround_turns)  : Fn P w K mg base 3 "round_code" uZ ["m", "end"] (oK K K40.sD) f fd :=
 ⟨D,D.F.ok EF (λ_ _ _ _=>oX) λr A outer s H t Q E hr h=>⟨_,(nJ (oy (oH n (hr.mono (by decide)) (nu (oH l (hr.mono (by decide)) (nu (pv 0) (nu (pv 1) nB))) nB)))),oi _ (K:=K) (ox (ou (nK (ou (nK (nP 0) (nK (nP 1) nX))) nX))) h⟩⟩
abbrev vK:Stmt:=yC 23
theorem wu:oA ["m", "start", "code", "ends"] ["m"] (nZ vK):=by trivial
theorem Gp  (D:xJ K mg "own_turns" vK ["m"] f fd) (B:Bt mg)   (l:Fn P w K mg base 4 "refuse_not_one_piece" qq ["m"] (oK K K40.qp) frefuse_not_one_piece fdrefuse_not_one_piece) (n:Fn P w K mg base 3 "round_code" uZ ["m", "end"] (oK K K40.sD) fround_code fdround_code) (r:Fn P w K mg base 3 "round_ends" uM ["m", "end"] (oK K K40.sI) fround_ends fdround_ends)  : Fn P w K mg base 5 "own_turns" vK ["m"] (oK K K40.pX) f fd :=
 ⟨D,D.F.ok wu (λ_ _ _ _=>oX) λu A outer s H x Q E hr h=>have t:=hr.units;⟨_,(ny (qe (oH l (hr.mono (by decide)) (nu (pv 0) nB))) (ny (qU (oO zk (nY oE (by rfl) B.len PySem.boot_len (nu (qQ pH (pv 0) nL (λ_ _=>rfl)) nB)) nL (pw _)) (nJ (oy (pU (nu (pU nB) nB)))) pB) (ny (nS (i:=1) wu.nd rfl (by trivial) (qQ pH (qQ pH (pv 0) nL (λ_ _=>rfl)) nL (λ_ _=>rfl))) (ny (nS (i:=2) wu.nd rfl (by trivial) (oH n (hr.mono (by decide)) (nu (pv 0) (nu (pv 1) nB)))) (ny (nS (i:=3) wu.nd rfl (by trivial) (oH r (hr.mono (by decide)) (nu (pv 0) (nu (pv 1) nB)))) (nJ (oy (nY (G5 t) (by rfl) B.sorted bg (nu (rH (N:=["end", "ends", "m", "code"]) (fr:=[3,0,2]) rfl rfl (by decide +kernel) rfl (by decide +kernel) rfl (rV.of (by decide +kernel) rfl rfl (by exact⟨rfl,rfl,rfl,trivial⟩) (by repeat (first|exact trivial|refine⟨(by first|exact λ_=>⟨_,rfl⟩|exact λh=>(by rcases h with h|h <;> cases h)),?_⟩)) (by exact⟨⟨rfl,rfl,rfl⟩,⟨rfl,rfl,rfl⟩,⟨rfl,rfl,rfl⟩,trivial⟩)) (oS (pv 3)) (λ_ _ _ _=>KN (oO (Gj t) (oH n (hr.mono (by decide)) (nu (pv 2) (nu (pv 0) nB))) (pv 3) (pw _))) (λ_ _ _ _=>(Rq rfl (by rfl) B.sorted (by rfl) B.zip (nu (pv 1) (nu (oH r (hr.mono (by decide)) (nu (pv 2) (nu (pv 0) nB))) nB))))) nB))))))))),oi _ (K:=K) (nH (Ss (SR.kSc (qO (nF (nv 0) nR)))) (nH (rK (oQ (nT yq (qf pW (nF (nT yu (nv 0) nN) nR)) nN)) (ox (pV (nK (pV nX) nX))) pD) (nH (nU (i:=1) (SR.kSc (nT yu (nT yu (nv 0) nN) nN))) (nH (nU (i:=2) (ou (nK (nP 0) (nK (nP 1) nX)))) (nH (nU (i:=3) (ou (nK (nP 0) (nK (nP 1) nX)))) (ox (N5 (qr (nP 3) (oQ (nT GQ (SK.rOf (ou (nK (nP 2) (nK (nP 0) nX)))) (nv 3))) (RE (nF (nv 1) (nF (SK.rOf (ou (nK (nP 2) (nK (nP 0) nX)))) nR))))))))))) h⟩⟩
abbrev yp:Stmt:=yC 25
theorem yM:oA ["m", "following", "steps", "end"] ["m"] (nZ yp):=by trivial
theorem Kt  (D:xJ K mg "onwards" yp ["m"] f fd) (B:Bt mg)   (l:Fn P w K mg base 1 "nexts" Bw ["m"] (oK K K51.BD) fnexts fdnexts)  : Fn P w K mg base 2 "onwards" yp ["m"] (oK K K15.yo) f fd :=
 ⟨D,D.F.ok yM (λ_ _ _ _=>oX) λn A outer s H r Q E hr h=>⟨_,(ny (nS (i:=1) yM.nd rfl (by trivial) (oH l (hr.mono (by decide)) (nu (pv 0) nB))) (ny (nS (i:=2) yM.nd rfl (by trivial) tO) (ny (qv PassesOwn.never rfl (Xe.Ly (pv 1)) (oP (i:=3) yM.nd rfl (by trivial)) (nJ (sy (pO hr) (pv 2) (pv 3) (qD (pO hr) (pv 1) (vB tH (pv 3)) (by first|rfl|exact trivial|(intro _ _;rfl))) rfl))) (nJ (oy (pv 2)))))),oi _ (K:=K) (nH (nU (i:=1) (ou (nK (nP 0) nX))) (nH (nU (i:=2) uT) (nH (Lx (x:=3) (i:=1) (sH (i:=2) (SR.kSc (HX (nv 1) (vE tE (nv 3)))) (nv 3))) (ox (uc 2))))) h⟩⟩
abbrev uI:Stmt:=yC 26
theorem vt:oA ["steps", "end", "ends", "step"] ["steps", "end"] (nZ uI):=by trivial
theorem EK     (D:xJ K mg "gone_round" uI ["steps", "end"] f fd) (B:Bt mg)     : Fn P w K mg base 1 "gone_round" uI ["steps", "end"] (oK K K15.uV) f fd :=
 ⟨D,D.F.ok vt (λ_ _ _ _=>oX) λl A outer s H n Q E hr h=>⟨_,(ny (nS (i:=2) vt.nd rfl (by trivial) (pU (nu (pv 1) nB))) (ny (nS (i:=3) vt.nd rfl (by trivial) (qD (pO hr) (pv 0) (pv 1) (by first|rfl|exact trivial|(intro _ _;rfl)))) (ny (yn PassesOwn.never (oO D4 (pv 3) (pv 1) (pw _)) (ny (qe (rN ak aH aJ pZ (pv 2) (nu (pv 3) nB))) (nJ (nS (i:=3) vt.nd rfl (by trivial) (qD (pO hr) (pv 0) (pv 3) (by first|rfl|exact trivial|(intro _ _;rfl))))))) (nJ (oy (pv 2)))))),oi _ (K:=K) (nH (nU (i:=2) (pV (nK (nP 1) nX))) (nH (nU (i:=3) (SR.kSc (qP (nv 0) (nv 1)))) (nH (xR 100000 (oQ (nT DI (nv 3) (nv 1))) (nH (vk (i:=2) (nP 3)) (nU (i:=3) (SR.kSc (qP (nv 0) (nv 3)))))) (ox (uc 2))))) h⟩⟩
abbrev BM:Stmt:=yC 27
theorem xa:oA ["m", "steps", "known", "found", "start", "land", "end"] ["m"] (nZ BM):=by trivial
theorem Oi  (D:xJ K mg "lands" BM ["m"] f fd) (B:Bt mg)   (r:Fn P w K mg base 2 "onwards" yp ["m"] (oK K K15.yo) fonwards fdonwards) (t:Fn P w K mg base 2 "ends_of" xS ["m"] (oK K Zl.yd) fends_of fdends_of) (l:Fn P w K mg base 2 "in_good_order" rF ["turns"] (oK K Zl.om) fin_good_order fdin_good_order) (n:Fn P w K mg base 1 "gone_round" uI ["steps", "end"] (oK K K15.uV) fgone_round fdgone_round)  : Fn P w K mg base 3 "lands" BM ["m"] (oK K K15.vq) f fd :=
 ⟨D,D.F.ok xa (λ_ _ _ _=>oX) λu A outer s H x Q E hr h=>⟨_,(ny (nS (i:=1) xa.nd rfl (by trivial) (oH r (hr.mono (by decide)) (nu (pv 0) nB))) (ny (nS (i:=2) xa.nd rfl (by trivial) tO) (ny (FX (i:=3) (cl:=[]) (N:=["turn"]) (fr:=[]) rfl xa.nd rfl (by trivial) rfl (by decide +kernel) rfl (by decide +kernel) rfl (rV.none (by decide +kernel)) (oS (pv 0)) (λ_ _ _ _=>KN (oO zk (nY oE (by rfl) B.len PySem.boot_len (nu (pv 0) nB)) nL (pw _))) (λ_ _ _ _=>(pU nB))) (ny (qv PassesOwn.never rfl (oS (oH t (hr.mono (by decide)) (nu (pv 0) nB))) (oP (i:=4) xa.nd rfl (by trivial)) (nJ (qU (Ag (uB (pO hr) (pv 4) (pv 2))) (ny (nS (i:=5) xa.nd rfl (by trivial) (oH n (hr.mono (by decide)) (nu (pv 1) (nu (pv 4) nB)))) (ny (qv PassesOwn.never rfl (oS (pv 5)) (oP (i:=6) xa.nd rfl (by trivial)) (nJ (sy (pO hr) (pv 2) (pv 6) tY rfl))) (nJ (qe (rN ak aH aJ pZ (pv 3) (nu (pv 5) nB)))))) pB))) (nJ (oy (oH l (hr.mono (by decide)) (nu (pv 3) nB)))))))),oi _ (K:=K) (nH (nU (i:=1) (ou (nK (nP 0) nX))) (nH (nU (i:=2) uT) (nH (nU (i:=3) (qr (nP 0) (oQ (nT yq (qf pW (nF (nv 0) nR)) nN)) (pV nX))) (nH (ub (ou (nK (nP 0) nX)) (rK (vg (uA (nv 4) (nv 2))) (nH (nU (i:=5) (ou (nK (nP 1) (nK (nP 4) nX)))) (nH (ub (nP 5) (sH (i:=2) (SR.kSc tZ) (nv 6))) (vk (i:=3) (nP 5)))) pD)) (ox (ou (nK (nP 3) nX))))))) h⟩⟩
abbrev Ab:Stmt:=yC 28
theorem NZ:oA ["m"] ["m"] (nZ Ab):=by trivial
theorem Mg  (D:xJ K mg "mirror" Ab ["m"] f fd) (B:Bt mg)   (l:Fn P w K mg base 2 "in_good_order" rF ["turns"] (oK K Zl.om) fin_good_order fdin_good_order)  : Fn P w K mg base 3 "mirror" Ab ["m"] (oK K K19.ya) f fd :=
 ⟨D,D.F.ok NZ (λ_ _ _ _=>oX) λn A outer s H r Q E hr h=>⟨_,(nJ (oy (oH l (hr.mono (by decide)) (nu (rH (cl:=[]) (N:=["turn"]) (fr:=[]) rfl rfl (by decide +kernel) rfl (by decide +kernel) rfl (rV.none (by decide +kernel)) (oS (pv 0)) (λ_ _ _ _=>tK) (λ_ _ _ _=>(TC rfl (by rfl) B.list (by rfl) B.reversed (nu (pv 0) nB)))) nB)))),oi _ (K:=K) (ox (ou (nK (qr (nP 0) tN (Sj (qB 0))) nX))) h⟩⟩
abbrev vC:Stmt:=yC 30
theorem Nu:oA ["_law_script", "_law_k"] ["_law_script", "_law_k"] (nZ vC):=by trivial
theorem Np     (D:xJ K mg "_law_cell" vC ["_law_script", "_law_k"] f fd) (B:Bt mg)     : Fn P w K mg base 1 "_law_cell" vC ["_law_script", "_law_k"] (oK K Zl.oj) f fd :=
 ⟨D,D.F.ok Nu (λ_ _ _ _=>oX) λl A outer s H n Q E hr h=>⟨_,(ny (qU (oO ON (pv 1) (nY oE (by rfl) B.len PySem.boot_len (nu (pv 0) nB)) (pw _)) (nJ (oy (qQ pH (pv 0) (pv 1) (λ_ _=>rfl)))) pB) (nJ (oy nL))),oi _ (K:=K) (nH (rK (oQ (nT OO (nv 1) (qf pW (nF (nv 0) nR)))) (ox (SR.kSc (nT yu (nv 0) (nv 1)))) pD) (ox (SR.kSc nN))) h⟩⟩
abbrev xT:Stmt:=yC 31
theorem yc:oA ["_law_one", "_law_two", "_law_k", "_law_step", "_law_shift"] ["_law_one", "_law_two", "_law_k"] (nZ xT):=by trivial
theorem Nw     (D:xJ K mg "_law_name" xT ["_law_one", "_law_two", "_law_k"] f fd) (B:Bt mg)     : Fn P w K mg base 1 "_law_name" xT ["_law_one", "_law_two", "_law_k"] (oK K K31.rO) f fd :=
 ⟨D,D.F.ok yc (λ_ _ _ _=>oX) λl A outer s H n Q E hr h=>⟨_,(ny (nS (i:=3) yc.nd rfl (by trivial) nL) (ny (nS (i:=4) yc.nd rfl (by trivial) nL) (ny (qU (oO Fx (oI rB (pv 0) nL) nL (pw _)) (ny (nS (i:=3) yc.nd rfl (by trivial) (oI vW nL (oI rB (oI vx (pv 0) nL) (oI GF nL nL)))) (nJ (nS (i:=4) yc.nd rfl (by trivial) (oI rB (oI vx (pv 1) nL) (oI GF nL nL))))) pB) (nJ (oy (oI vW (oI Eg (pv 3) (oI vW (oI rB (oI vW (oI Eg (oI vW nL (oI rB (pv 1) nL)) (pv 2)) (pv 0)) nL) nL)) (pv 4))))))),oi _ (K:=K) (nH (nU (i:=3) (SR.kSc nN)) (nH (nU (i:=4) (SR.kSc nN)) (nH (rK (oQ (nT Fq (nT rq (nv 0) nN) nN)) (nH (nU (i:=3) (SR.kSc (nT vT nN (nT rq (nT xK (nv 0) nN) (nT FT nN nN))))) (nU (i:=4) (SR.kSc (nT rq (nT xK (nv 1) nN) (nT FT nN nN))))) pD) (ox (SR.kSc (nT vT (nT DR (nv 3) (nT vT (nT rq (nT vT (nT DR (nT vT nN (nT rq (nv 1) nN)) (nv 2)) (nv 0)) nN) nN)) (nv 4))))))) h⟩⟩
abbrev yA:Stmt:=yC 32
theorem rS:oA ["_law_cells", "_law_names", "_law_wild", "_law_turns_here", "_law_way", "_law_loose", "_law_left", "_law_cell_here", "_law_here", "_law_at", "_law_end"] ["_law_cells", "_law_names", "_law_wild"] (nZ yA):=by trivial
theorem Kq     (D:xJ K mg "_law_turns" yA ["_law_cells", "_law_names", "_law_wild"] f fd) (B:Bt mg)     : Fn P w K mg base 1 "_law_turns" yA ["_law_cells", "_law_names", "_law_wild"] (oK K K31.yz) f fd :=
 ⟨D,D.F.ok rS (λ_ _ _ _=>oX) λl A outer s H n Q E hr h=>⟨_,(ny (nS (i:=3) rS.nd rfl (by trivial) (pU (nu (pU nB) nB))) (ny (nS (i:=4) rS.nd rfl (by trivial) (pU (nu nL nB))) (ny (nS (i:=5) rS.nd rfl (by trivial) (pU nB)) (ny (nS (i:=6) rS.nd rfl (by trivial) (vn uU (by rfl) B.list bU (nu (pv 1) nB))) (ny (qv PassesOwn.never rfl (oS (pv 0)) (oP (i:=7) rS.nd rfl (by trivial)) (ny (nS (i:=8) rS.nd rfl (by trivial) (qQ pH (pv 3) (qQ pH (pv 4) (oI DH (nY oE (by rfl) B.len PySem.boot_len (nu (pv 4) nB)) nL) (λ_ _=>rfl)) (λ_ _=>rfl))) (nJ (qU (PW.pt (Qt (oO zk (oI rB (pv 7) nL) nL (pw _)) (K0 (oO Fx (nY oE (by rfl) B.len PySem.boot_len (nu (pv 4) nB)) nL (pw _))))) (nJ (qe (KF ak cO cP KL (pv 4)))) (nJ (qU (PW.pt (Qt (oO zk (oI rB (pv 7) nL) nL (pw _)) (K0 (oO Fx (nY oE (by rfl) B.len PySem.boot_len (nu (pv 5) nB)) nL (pw _))))) (ny (nS (i:=9) rS.nd rfl (by trivial) (oI DH (nY oE (by rfl) B.len PySem.boot_len (nu (pv 5) nB)) nL)) (ny (qU (yZ (pv 2)) (nJ (nS (i:=9) rS.nd rfl (by trivial) (oI rB (oI vx (pv 7) nL) (nY oE (by rfl) B.len PySem.boot_len (nu (pv 5) nB))))) pB) (nJ (qe (rN ak aH aJ pZ (pv 8) (nu (rN ak cO cP Eo (pv 5) (nu (pv 9) nB)) nB)))))) (nJ (qU (oO Fx (nY oE (by rfl) B.len PySem.boot_len (nu (pv 6) nB)) nL (pw _)) (ny (nS (i:=10) rS.nd rfl (by trivial) (oI Eg (rN ak cO cP Eo (pv 6) (nu nL nB)) (oI DH nL (oI Eg nL (oI rB (oI vx (pv 7) nL) nL))))) (ny (qe (rN ak aH aJ pZ (pv 8) (nu (pv 10) nB))) (nJ (qU (oO zk (oI rB (pv 7) nL) nL (pw _)) (ny (qe (rN ak aH aJ pZ (pv 3) (nu (pU (nu (vB tH (pv 10)) nB)) nB))) (nJ (qe (rN ak aH aJ pZ (pv 4) (nu (oI DH (nY oE (by rfl) B.len PySem.boot_len (nu (pv 3) nB)) nL) nB))))) (nJ (qe (rN ak aH aJ pZ (pv 5) (nu (vB tH (pv 10)) nB)))))))) pB)))))))) (ny (yn PassesOwn.never (oO Fx (nY oE (by rfl) B.len PySem.boot_len (nu (pv 5) nB)) nL (pw _)) (nJ (qe (rN ak aH aJ pZ (qQ pH (pv 3) (qQ pH (pv 4) (oI DH (nY oE (by rfl) B.len PySem.boot_len (nu (pv 4) nB)) nL) (λ_ _=>rfl)) (λ_ _=>rfl)) (nu (KF ak cO cP KL (pv 5)) nB))))) (nJ (oy (pv 3))))))))),oi _ (K:=K) (nH (nU (i:=3) (pV (nK (pV nX) nX))) (nH (nU (i:=4) (pV (nK (SR.kSc nN) nX))) (nH (nU (i:=5) (pV nX)) (nH (nU (i:=6) (BW (qB 1))) (nH (ub (nP 0) (Va (Jz (FZ 3) (nT yu (nv 4) (nT DX (qf pW (nF (nv 4) nR)) nN))) (OT (PD (oQ (nT yq (nT rq (nv 7) nN) nN)) (oQ (nT Fq (qf pW (nF (nv 4) nR)) nN))) (Uc (P4 (Gn (i:=4)))) (OT (PD (oQ (nT yq (nT rq (nv 7) nN) nN)) (oQ (nT Fq (qf pW (nF (nv 5) nR)) nN))) (KH (K6 (SR.kSc (nT DX (qf pW (nF (nv 5) nR)) nN)) (by decide)) (KH (U8 (vg (nv 2)) (K6 (SR.kSc (nT rq (nT xK (nv 7) nN) (qf pW (nF (nv 5) nR)))) (by decide)) (Q9 (λ_ _ _ h=>h))) (Sw (DC (i:=5) (nv 9))))) (OT (oQ (nT Fq (qf pW (nF (nv 6) nR)) nN)) (KH (P6 (Xv DR (DC (i:=6) nN) (nT DX nN (nT DR nN (nT rq (nT xK (nv 7) nN) nN)))) (by decide)) (UP (VC (nP 10)) (rK (oQ (nT yq (nT rq (nv 7) nN) nN)) (nH (vk (i:=3) (pV (nK (SR.kSc (vE tE (nv 10))) nX))) (vk (i:=4) (SR.kSc (nT DX (qf pW (nF (nv 3) nR)) nN)))) (vk (i:=5) (SR.kSc (vE tE (nv 10))))))) (Uc pD)))))) (nH (xR 100000 (oQ (nT Fq (qf pW (nF (nv 5) nR)) nN)) (OG (Jz (FZ 3) (nT yu (nv 4) (nT DX (qf pW (nF (nv 4) nR)) nN))) (Gn (i:=5)))) (ox (uc 3)))))))) h⟩⟩
abbrev wY:Stmt:=yC 33
theorem CJ:oA ["_law_turn", "_law_at"] ["_law_turn"] (nZ wY):=by trivial
theorem Iq     (D:xJ K mg "_law_turned" wY ["_law_turn"] f fd) (B:Bt mg)     : Fn P w K mg base 1 "_law_turned" wY ["_law_turn"] (oK K Zl.vc) f fd :=
 ⟨D,D.F.ok CJ (λ_ _ _ _=>oX) λl A outer s H n Q E hr h=>⟨_,(ny (qU (oO zk (nY oE (by rfl) B.len PySem.boot_len (nu (pv 0) nB)) nL (pw _)) (nJ (oy (pU nB))) pB) (ny (nS (i:=1) CJ.nd rfl (by trivial) (rN ak dW fj DF (pv 0) (nu (nY (FD rfl) (by rfl) B.min gS (nu (pv 0) nB)) nB))) (nJ (oy (oI G3 (ug vv (pv 0) (uP (pv 1)) we) (ug vv (pv 0) we (uP (pv 1)))))))),oi _ (K:=K) (nH (rK (oQ (nT yq (qf pW (nF (nv 0) nR)) nN)) (ox (pV nX)) pD) (nH (nU (i:=1) (SR.kSc (Q7 (T := "list") DY (nv 0) (nF (qf P7 (nF (nv 0) nR)) nR)))) (ox (Ga (SK.lOf (AE (qB 0) (uO (nv 1)) wt)) (SK.lOf (AE (qB 0) wt (uO (nv 1)))))))) h⟩⟩
abbrev xQ:Stmt:=yC 34
theorem Nz:oA ["_law_turns_here"] ["_law_turns_here"] (nZ xQ):=by trivial
theorem Mu  (D:xJ K mg "_law_good" xQ ["_law_turns_here"] f fd) (B:Bt mg)   (l:Fn P w K mg base 1 "_law_turned" wY ["_law_turn"] (oK K Zl.vc) fL_turned fdL_turned)  : Fn P w K mg base 2 "_law_good" xQ ["_law_turns_here"] (oK K Zl.om) f fd :=
 ⟨D,D.F.ok Nz (λ_ _ _ _=>oX) λr A outer s H t Q E hr h=>have n:=hr.units;⟨_,(nJ (oy (nY (B0 n) (by rfl) B.sorted bg (nu (rH (cl:=[]) (N:=["_law_turn"]) (fr:=[]) rfl rfl (by decide +kernel) rfl (by decide +kernel) rfl (rV.none (by decide +kernel)) (oS (pv 0)) (λ_ _ _ _=>tK) (λ_ _ _ _=>(oH l (hr.mono (by decide)) (nu (pv 0) nB)))) nB)))),oi _ (K:=K) (ox (E8 (qr (nP 0) tN (ou (nK (nP 0) nX))))) h⟩⟩
abbrev Ae:Stmt:=yC 35
theorem N1:oA ["_law_m"] ["_law_m"] (nZ Ae):=by trivial
theorem NW     (D:xJ K mg "_law_copy" Ae ["_law_m"] f fd) (B:Bt mg)     : Fn P w K mg base 1 "_law_copy" Ae ["_law_m"] (oK K K51.xX) f fd :=
 ⟨D,D.F.ok N1 (λ_ _ _ _=>oX) λl A outer s H n Q E hr h=>⟨_,(nJ (oy (rH (cl:=[]) (N:=["_law_turn"]) (fr:=[]) rfl rfl (by decide +kernel) rfl (by decide +kernel) rfl (rV.none (by decide +kernel)) (oS (pv 0)) (λ_ _ _ _=>tK) (λ_ _ _ _=>(vn uU (by rfl) B.list bU (nu (pv 0) nB)))))),oi _ (K:=K) (ox (qr (nP 0) tN (BW (qB 0)))) h⟩⟩
abbrev yl:Stmt:=yC 36
theorem KJ:oA ["_law_found"] ["_law_found"] (nZ yl):=by trivial
theorem Jp     (D:xJ K mg "_law_whole" yl ["_law_found"] f fd) (B:Bt mg)     : Fn P w K mg base 1 "_law_whole" yl ["_law_found"] (oK K K72.uy) f fd :=
 ⟨D,D.F.ok KJ (λ_ _ _ _=>oX) λl A outer s H n Q E hr h=>⟨_,(nJ (oy (Om (nY zH (by rfl) B.isi cB (nu (pv 0) (nu (Bi (v:=.ty "int") (by rfl) B.int je rfl) nB))) (Pn (WB (nY zH (by rfl) B.isi cB (nu (pv 0) (nu (Bi (v:=.ty "bool") (by rfl) B.bool jb rfl) nB)))))))),oi _ (K:=K) (ox (SR.kSc (QW (qf D3 (nF (nv 0) (nF HZ nR))) (Wu (qf D3 (nF (nv 0) (nF HZ nR))))))) h⟩⟩
abbrev wL:Stmt:=yC 37
theorem xu:oA ["_law_m", "_law_follow_here", "_law_turn", "_law_k"] ["_law_m"] (nZ wL):=by trivial
theorem H0     (D:xJ K mg "_law_follow" wL ["_law_m"] f fd) (B:Bt mg)     : Fn P w K mg base 1 "_law_follow" wL ["_law_m"] (oK K K15.wD) f fd :=
 ⟨D,D.F.ok xu (λ_ _ _ _=>oX) λl A outer s H n Q E hr h=>⟨_,(ny (nS (i:=1) xu.nd rfl (by trivial) tO) (ny (qv PassesOwn.never rfl (oS (pv 0)) (oP (i:=2) xu.nd rfl (by trivial)) (nJ (qv PassesOwn.never rfl (uw (by rfl) B.range (nu (nY oE (by rfl) B.len PySem.boot_len (nu (pv 2) nB)) nB)) (oP (i:=3) xu.nd rfl (by trivial)) (nJ (sy (pO hr) (pv 1) (qQ pH (pv 2) (pv 3) (λ_ _=>rfl)) (qQ pH (pv 2) (oI rB (oI vW (pv 3) nL) (nY oE (by rfl) B.len PySem.boot_len (nu (pv 2) nB))) (λ_ _=>rfl)) rfl))))) (nJ (oy (pv 1))))),oi _ (K:=K) (nH (nU (i:=1) uT) (nH (ub (nP 0) (wV (nF (qf pW (nF (nv 2) nR)) nR) (sH (i:=1) (SR.kSc (nT yu (nv 2) (nT rq (nT vT (nv 3) nN) (qf pW (nF (nv 2) nR))))) (nT yu (nv 2) (nv 3))))) (ox (uc 1)))) h⟩⟩
abbrev yj:Stmt:=yC 38
theorem D6:oA ["_law_found", "_law_pair"] ["_law_found"] (nZ yj):=by trivial
theorem KI  (D:xJ K mg "_law_pairs" yj ["_law_found"] f fd) (B:Bt mg)    (l:mg "tuple" = none) (n:Fn P w K mg base 1 "_law_whole" yl ["_law_found"] (oK K K72.uy) fL_whole fdL_whole)  : Fn P w K mg base 2 "_law_pairs" yj ["_law_found"] (oK K K40.f_L_pairs) f fd :=
 ⟨D,D.F.ok D6 (λ_ _ _ _=>oX) λr A outer s H t Q E hr h=>⟨_,(ny (qU (A3 (yZ (nY zH (by rfl) B.isi cB (nu (pv 0) (nu (Bi (v:=.ty "list") (by rfl) B.list bU rfl) nB))))) (nJ (oy tY)) pB) (ny (qv PassesOwn.never rfl (oS (pv 0)) (oP (i:=1) D6.nd rfl (by trivial)) (ny (qU (PW.pt (CF (A3 (yZ (nY zH (by rfl) B.isi cB (nu (pv 1) (nu (Bi (v:=.ty "tuple") (by rfl) l fk rfl) nB))))) (AQ (oO D4 (nY oE (by rfl) B.len PySem.boot_len (nu (pv 1) nB)) nL (pw _))))) (nJ (oy tY)) pB) (nJ (qU (PW.pt (CF (A3 (yZ (oH n (hr.mono (by decide)) (nu (qQ Co (pv 1) nL (λ_ _=>rfl)) nB)))) (AQ (A3 (yZ (oH n (hr.mono (by decide)) (nu (qQ Co (pv 1) nL (λ_ _=>rfl)) nB))))))) (nJ (oy tY)) pB)))) (nJ (oy tY)))),oi _ (K:=K) (nH (rK (AR (vg (qf D3 (nF (nv 0) (nF HZ nR))))) (ox (SR.kSc tZ)) pD) (nH (ub (nP 0) (nH (rK (CC (AR (vg (qf D3 (nF (nv 1) (nF HZ nR))))) (oQ (nT DI (qf pW (nF (nv 1) nR)) nN))) (ox (SR.kSc tZ)) pD) (rK (CC (AR (vg (qO (nF (nT Cn (nv 1) nN) nR)))) (AR (vg (qO (nF (nT Cn (nv 1) nN) nR))))) (ox (SR.kSc tZ)) pD))) (ox (SR.kSc tZ)))) h⟩⟩
abbrev ui:Stmt:=yC 39
theorem tF:oA ["_law_found", "_law_m", "_law_n", "_law_ones", "_law_others", "_law_image", "_law_end"] ["_law_found", "_law_m", "_law_n"] (nZ ui):=by trivial
theorem Ef  (D:xJ K mg "_law_is_laying" ui ["_law_found", "_law_m", "_law_n"] f fd) (B:Bt mg)   (n:Fn P w K mg base 1 "_law_follow" wL ["_law_m"] (oK K K15.wD) fL_follow fdL_follow) (r:Fn P w K mg base 2 "_law_pairs" yj ["_law_found"] (oK K K40.f_L_pairs) fL_pairs fdL_pairs)  : Fn P w K mg base 3 "_law_is_laying" ui ["_law_found", "_law_m", "_law_n"] (oK K K40.qI) f fd :=
 ⟨D,D.F.ok tF (λ_ _ _ _=>oX) λt A outer s H u Q E hr h=>have l:=hr.units;⟨_,(ny (qU (PW.pt (CF (A3 (yZ (oH r (hr.mono (by decide)) (nu (pv 0) nB)))) (AQ (oO (Cq l) (pv 0) (nY wb (by rfl) B.sorted bg (nu (pv 0) nB)) (pw _))))) (nJ (oy tY)) pB) (ny (nS (i:=3) tF.nd rfl (by trivial) (oH n (hr.mono (by decide)) (nu (pv 1) nB))) (ny (nS (i:=4) tF.nd rfl (by trivial) (oH n (hr.mono (by decide)) (nu (pv 2) nB))) (ny (nS (i:=5) tF.nd rfl (by trivial) (Lm rfl (by rfl) B.dict (nu (pv 0) nB))) (ny (qU (oO (Cq l) (rH (cl:=[]) (N:=["_law_pair"]) (fr:=[]) rfl rfl (by decide +kernel) rfl (by decide +kernel) rfl (rV.none (by decide +kernel)) (oS (pv 0)) (λ_ _ _ _=>tK) (λ_ _ _ _=>(qQ Co (pv 0) nL (λ_ _=>rfl)))) (nY (yX rfl) (by rfl) B.sorted bg (nu (pv 3) nB)) (pw _)) (nJ (oy tY)) pB) (ny (qU (oO (Cq l) (nY BZ (by rfl) B.sorted bg (nu (rH (cl:=[]) (N:=["_law_pair"]) (fr:=[]) rfl rfl (by decide +kernel) rfl (by decide +kernel) rfl (rV.none (by decide +kernel)) (oS (pv 0)) (λ_ _ _ _=>tK) (λ_ _ _ _=>(qQ Co (pv 0) nL (λ_ _=>rfl)))) nB)) (nY (yX rfl) (by rfl) B.sorted bg (nu (pv 4) nB)) (pw _)) (nJ (oy tY)) pB) (ny (qv PassesOwn.never rfl (Xe.Ly (pv 3)) (oP (i:=6) tF.nd rfl (by trivial)) (nJ (qU (PW.pt (CF (oO D4 (qD (pO hr) (pv 5) (vB tH (pv 6)) (by first|rfl|exact trivial|(intro _ _;rfl))) (vB tH (qD (pO hr) (pv 5) (pv 6) (by first|rfl|exact trivial|(intro _ _;rfl)))) (pw _)) (AQ (oO D4 (qD (pO hr) (pv 5) (qD (pO hr) (pv 3) (pv 6) (by first|rfl|exact trivial|(intro _ _;rfl))) (by first|rfl|exact trivial|(intro _ _;rfl))) (qD (pO hr) (pv 4) (qD (pO hr) (pv 5) (pv 6) (by first|rfl|exact trivial|(intro _ _;rfl))) (by first|rfl|exact trivial|(intro _ _;rfl))) (pw _))))) (nJ (oy tY)) pB))) (nJ (oy tY))))))))),oi _ (K:=K) (nH (rK (CC (AR (vg (qO (nF (nv 0) nR)))) (oQ (nT Cu (nv 0) (SK.rOf (BI (qB 0)))))) (ox (SR.kSc tZ)) pD) (nH (nU (i:=3) (ou (nK (nP 1) nX))) (nH (nU (i:=4) (ou (nK (nP 2) nX))) (nH (nU (i:=5) (LK (qB 0))) (nH (rK (oQ (nT Cu (SK.rOf (qr (nP 0) tN (SR.kSc (nT Cn (nv 0) nN)))) (SK.rOf (Ew (nv 3))))) (ox (SR.kSc tZ)) pD) (nH (rK (oQ (nT Cu (SK.rOf (Ie (SL.q (SK.lOf (qr (nP 0) tN (SR.kSc (nT Cn (nv 0) nN))))))) (SK.rOf (Ew (nv 4))))) (ox (SR.kSc tZ)) pD) (nH (Lx (x:=6) (i:=3) (rK (CC (oQ (nT DI (qP (nv 5) (vE tE (nv 6))) (vE tE (qP (nv 5) (nv 6))))) (oQ (nT DI (qP (nv 5) (HX (nv 3) (nv 6))) (qP (nv 4) (qP (nv 5) (nv 6)))))) (ox (SR.kSc tZ)) pD)) (ox (SR.kSc tZ))))))))) h⟩⟩
abbrev zO:Stmt:=yC 40
theorem wB:oA ["_law_script", "_law_many", "_law_turns_here", "_law_each", "_law_part", "_law_names", "_law_copy_here"] ["_law_script", "_law_many"] (nZ zO):=by trivial
theorem N9  (D:xJ K mg "_law_fold" zO ["_law_script", "_law_many"] f fd) (B:Bt mg)   (n:Fn P w K mg base 1 "_law_turns" yA ["_law_cells", "_law_names", "_law_wild"] (oK K K31.yz) fL_turns fdL_turns) (r:Fn P w K mg base 1 "_law_name" xT ["_law_one", "_law_two", "_law_k"] (oK K K31.rO) fL_name fdL_name) (l:Fn P w K mg base 1 "_law_cell" vC ["_law_script", "_law_k"] (oK K Zl.oj) fL_cell fdL_cell)  : Fn P w K mg base 2 "_law_fold" zO ["_law_script", "_law_many"] (oK K K40.yg) f fd :=
 ⟨D,D.F.ok wB (λ_ _ _ _=>oX) λt A outer s H u Q E hr h=>⟨_,(ny (nS (i:=2) wB.nd rfl (by trivial) (pU (nu (pU nB) nB))) (ny (nS (i:=3) wB.nd rfl (by trivial) (oI vx nL (pv 1))) (ny (qv PassesOwn.never rfl (uw (by rfl) B.range (nu (pv 1) nB)) (oP (i:=4) wB.nd rfl (by trivial)) (ny (FX (i:=5) (N:=["_law_k", "_law_script", "_law_part", "_law_each"]) (fr:=[0,4,3]) rfl wB.nd rfl (by trivial) rfl (by decide +kernel) rfl (by decide +kernel) rfl (rV.of (by decide +kernel) rfl rfl (by exact⟨rfl,rfl,rfl,trivial⟩) (by repeat (first|exact trivial|refine⟨(by first|exact λ_=>⟨_,rfl⟩|exact λh=>(by rcases h with h|h <;> cases h)),?_⟩)) (by exact⟨⟨rfl,rfl,rfl⟩,⟨rfl,rfl,rfl⟩,⟨rfl,rfl,rfl⟩,trivial⟩)) (uw (by rfl) B.range (nu (pv 3) nB)) (λ_ _ _ _=>tK) (λ_ _ _ _=>(oH r (hr.mono (by decide)) (nu (oH l (hr.mono (by decide)) (nu (pv 1) (nu nL nB))) (nu (oH l (hr.mono (by decide)) (nu (pv 1) (nu nL nB))) (nu (oI vW (oI Eg (pv 2) (pv 3)) (pv 0)) nB)))))) (ny (nS (i:=6) wB.nd rfl (by trivial) (oH n (hr.mono (by decide)) (nu (ug vv (pv 0) (uP nL) (uP nL)) (nu (pv 5) (nu (Br zk (oI rB (oH l (hr.mono (by decide)) (nu (pv 0) (nu nL nB))) nL) nL (pw _)) nB))))) (ny (qe (rN ak ck cm wC (qQ pH (pv 2) nL (λ_ _=>rfl)) (nu (qQ pH (pv 6) nL (λ_ _=>rfl)) nB))) (nJ (qe (rN ak ck cm wC (pv 2) (nu (ug vv (pv 6) (uP nL) we) nB)))))))) (nJ (oy (pv 2)))))),oi _ (K:=K) (nH (nU (i:=2) (pV (nK (pV nX) nX))) (nH (nU (i:=3) (SR.kSc (nT xK nN (nv 1)))) (nH (wV (nF (nv 1) nR) (nH (nU (i:=5) (NG (nF (nv 3) nR) tN (SR.kSc (qO (nF (qO (nF (nv 1) (nF nN nR))) (nF (qO (nF (nv 1) (nF nN nR))) (nF (nT vT (nT DR (nv 2) (nv 3)) (nv 0)) nR))))))) (nH (nU (i:=6) (ou (nK (AE (qB 0) (uO nN) (uO nN)) (nK (nP 5) (nK (SR.kSc (nT yq (nT rq (qO (nF (nv 0) (nF nN nR))) nN) nN)) nX))))) (nH (Ti (Jz (FZ 2) nN) (SK.lOf (zh (qB 6) nN))) (Ed (i:=2) (SK.lOf (AE (qB 6) (uO nN) wt))))))) (ox (uc 2))))) h⟩⟩
abbrev zW:Stmt:=yC 41
theorem Cr:oA ["_law_turns_here", "_law_ends", "_law_turn"] ["_law_turns_here"] (nZ zW):=by trivial
theorem N8     (D:xJ K mg "_law_flat" zW ["_law_turns_here"] f fd) (B:Bt mg)     : Fn P w K mg base 1 "_law_flat" zW ["_law_turns_here"] (oK K Zl.pI) f fd :=
 ⟨D,D.F.ok Cr (λ_ _ _ _=>oX) λl A outer s H n Q E hr h=>⟨_,(ny (nS (i:=1) Cr.nd rfl (by trivial) (pU nB)) (ny (qv PassesOwn.never rfl (oS (pv 0)) (oP (i:=2) Cr.nd rfl (by trivial)) (nJ (qe (rN ak ck cm wC (pv 1) (nu (pv 2) nB))))) (nJ (oy (pv 1))))),oi _ (K:=K) (nH (nU (i:=1) (pV nX)) (nH (ub (nP 0) (Ed (i:=1) (Gx 2))) (ox (uc 1)))) h⟩⟩
abbrev uk:Stmt:=yC 42
theorem rW:oA ["_law_script", "_law_many", "_law_each", "_law_step", "_law_k", "_law_name_here", "_law_then"] ["_law_script", "_law_many"] (nZ uk):=by trivial
theorem DK  (D:xJ K mg "_law_next_part" uk ["_law_script", "_law_many"] f fd) (B:Bt mg)   (n:Fn P w K mg base 1 "_law_name" xT ["_law_one", "_law_two", "_law_k"] (oK K K31.rO) fL_name fdL_name) (l:Fn P w K mg base 1 "_law_cell" vC ["_law_script", "_law_k"] (oK K Zl.oj) fL_cell fdL_cell)  : Fn P w K mg base 2 "_law_next_part" uk ["_law_script", "_law_many"] (oK K K40.sW) f fd :=
 ⟨D,D.F.ok rW (λ_ _ _ _=>oX) λr A outer s H t Q E hr h=>⟨_,(ny (nS (i:=2) rW.nd rfl (by trivial) (oI vx nL (pv 1))) (ny (nS (i:=3) rW.nd rfl (by trivial) tO) (ny (qv PassesOwn.never rfl (uw (by rfl) B.range (nu nL nB)) (oP (i:=4) rW.nd rfl (by trivial)) (ny (nS (i:=5) rW.nd rfl (by trivial) (oH n (hr.mono (by decide)) (nu (oH l (hr.mono (by decide)) (nu (pv 0) (nu nL nB))) (nu (oH l (hr.mono (by decide)) (nu (pv 0) (nu nL nB))) (nu (pv 4) nB))))) (ny (nS (i:=6) rW.nd rfl (by trivial) (oH n (hr.mono (by decide)) (nu (oH l (hr.mono (by decide)) (nu (pv 0) (nu nL nB))) (nu (oH l (hr.mono (by decide)) (nu (pv 0) (nu nL nB))) (nu (oI rB (oI vW (pv 4) (pv 2)) nL) nB))))) (ny (sy (pO hr) (pv 3) (pv 5) (pv 6) rfl) (nJ (sy (pO hr) (pv 3) (vB tH (pv 5)) (vB tH (pv 6)) rfl)))))) (nJ (oy (pv 3)))))),oi _ (K:=K) (nH (nU (i:=2) (SR.kSc (nT xK nN (nv 1)))) (nH (nU (i:=3) uT) (nH (wV (nF nN nR) (nH (nU (i:=5) (SR.kSc (qO (nF (qO (nF (nv 0) (nF nN nR))) (nF (qO (nF (nv 0) (nF nN nR))) (nF (nv 4) nR)))))) (nH (nU (i:=6) (SR.kSc (qO (nF (qO (nF (nv 0) (nF nN nR))) (nF (qO (nF (nv 0) (nF nN nR))) (nF (nT rq (nT vT (nv 4) (nv 2)) nN) nR)))))) (nH (sH (i:=3) (nP 6) (nv 5)) (sH (i:=3) (SR.kSc (vE tE (nv 6))) (vE tE (nv 5))))))) (ox (uc 3))))) h⟩⟩
abbrev uh:Stmt:=yC 43
theorem rX:oA ["_law_cell_here", "_law_many", "_law_total", "_law_names", "_law_k"] ["_law_cell_here", "_law_many"] (nZ uh):=by trivial
theorem Eb     (D:xJ K mg "_law_gap_names" uh ["_law_cell_here", "_law_many"] f fd) (B:Bt mg)     : Fn P w K mg base 1 "_law_gap_names" uh ["_law_cell_here", "_law_many"] (oK K K44.ue) f fd :=
 ⟨D,D.F.ok rX (λ_ _ _ _=>oX) λl A outer s H n Q E hr h=>⟨_,(ny (nS (i:=2) rX.nd rfl (by trivial) nL) (ny (nS (i:=3) rX.nd rfl (by trivial) (pU nB)) (ny (qv PassesOwn.never rfl (uw (by rfl) B.range (nu (pv 1) nB)) (oP (i:=4) rX.nd rfl (by trivial)) (ny (nS (i:=2) rX.nd rfl (by trivial) (oI vW (oI vW (pv 2) nL) (oI rB (pv 0) (oI GF nL nL)))) (ny (nS (i:=0) rX.nd rfl (by trivial) (oI Pa (pv 0) (oI GF nL nL))) (nJ (qe (rN ak aH aJ pZ (pv 3) (nu (pv 2) nB))))))) (nJ (oy (pv 3)))))),oi _ (K:=K) (nH (nU (i:=2) (SR.kSc nN)) (nH (nU (i:=3) (pV nX)) (nH (wV (nF (nv 1) nR) (nH (nU (i:=2) (SR.kSc (nT vT (nT vT (nv 2) nN) (nT rq (nv 0) (nT FT nN nN))))) (nH (nU (i:=0) (SR.kSc (nT Sv (nv 0) (nT FT nN nN)))) (vk (i:=3) (nP 2))))) (ox (uc 3))))) h⟩⟩
abbrev xW:Stmt:=yC 44
theorem wK:oA ["_law_cell_here", "_law_things", "_law_left", "_law_found", "_law_k"] ["_law_cell_here", "_law_things"] (nZ xW):=by trivial
theorem J7     (D:xJ K mg "_law_dealt" xW ["_law_cell_here", "_law_things"] f fd) (B:Bt mg)     : Fn P w K mg base 1 "_law_dealt" xW ["_law_cell_here", "_law_things"] (oK K K44.xP) f fd :=
 ⟨D,D.F.ok wK (λ_ _ _ _=>oX) λl A outer s H n Q E hr h=>⟨_,(ny (nS (i:=2) wK.nd rfl (by trivial) (vn uU (by rfl) B.list bU (nu (pv 1) nB))) (ny (nS (i:=3) wK.nd rfl (by trivial) (pU nB)) (ny (qv PassesOwn.never rfl (uw (by rfl) B.range (nu (nY oE (by rfl) B.len PySem.boot_len (nu (pv 1) nB)) nB)) (oP (i:=4) wK.nd rfl (by trivial)) (ny (qe (rN ak aH aJ pZ (pv 3) (nu (rN ak cO cP Eo (pv 2) (nu (oI rB (pv 0) (nY oE (by rfl) B.len PySem.boot_len (nu (pv 2) nB))) nB)) nB))) (nJ (nS (i:=0) wK.nd rfl (by trivial) (oI vx (pv 0) (oI vW (nY oE (by rfl) B.len PySem.boot_len (nu (pv 2) nB)) nL)))))) (nJ (oy (pv 3)))))),oi _ (K:=K) (nH (nU (i:=2) (BW (qB 1))) (nH (nU (i:=3) (pV nX)) (nH (wV (nF (qf pW (nF (nv 1) nR)) nR) (nH (Sa (i:=3) (DC (i:=2) (nT rq (nv 0) (qf pW (nF (nv 2) nR))))) (nU (i:=0) (SR.kSc (nT xK (nv 0) (nT vT (qf pW (nF (nv 2) nR)) nN)))))) (ox (uc 3))))) h⟩⟩
abbrev vM:Stmt:=yC 45
theorem qZ:oA ["_law_cell_here", "_law_names", "_law_ends", "_law_name_here", "_law_follow_here", "_law_turns_here", "_law_met", "_law_end", "_law_turn", "_law_each"] ["_law_cell_here", "_law_names"] (nZ vM):=by trivial
theorem Gg  (D:xJ K mg "_law_any_map" vM ["_law_cell_here", "_law_names"] f fd) (B:Bt mg)   (l:Fn P w K mg base 1 "_law_dealt" xW ["_law_cell_here", "_law_things"] (oK K K44.xP) fL_dealt fdL_dealt)  : Fn P w K mg base 2 "_law_any_map" vM ["_law_cell_here", "_law_names"] (oK K K44.vO) f fd :=
 ⟨D,D.F.ok qZ (λ_ _ _ _=>oX) λn A outer s H r Q E hr h=>⟨_,(ny (nS (i:=2) qZ.nd rfl (by trivial) (pU nB)) (ny (qv PassesOwn.never rfl (oS (pv 1)) (oP (i:=3) qZ.nd rfl (by trivial)) (nJ (qe (rN ak ck cm wC (pv 2) (nu (pU (nu (pv 3) (nu (vB tH (pv 3)) nB))) nB))))) (ny (nS (i:=4) qZ.nd rfl (by trivial) (X1 rfl (by rfl) B.dict (by rfl) B.zip (nu (pv 2) (nu (oH l (hr.mono (by decide)) (nu (pv 0) (nu (pv 2) nB))) nB)))) (ny (nS (i:=5) qZ.nd rfl (by trivial) (pU nB)) (ny (nS (i:=6) qZ.nd rfl (by trivial) tO) (ny (qv PassesOwn.never rfl (oS (pv 2)) (oP (i:=7) qZ.nd rfl (by trivial)) (nJ (qU (Ag (uB (pO hr) (pv 7) (pv 6))) (ny (nS (i:=8) qZ.nd rfl (by trivial) (pU (nu (pv 7) nB))) (ny (yn PassesOwn.never (oO D4 (qD (pO hr) (pv 4) (qQ pH (pv 8) (vB tH nL) (λ_ _=>rfl)) (by first|rfl|exact trivial|(intro _ _;rfl))) (pv 7) (pw _)) (nJ (qe (rN ak aH aJ pZ (pv 8) (nu (qD (pO hr) (pv 4) (qQ pH (pv 8) (vB tH nL) (λ_ _=>rfl)) (by first|rfl|exact trivial|(intro _ _;rfl))) nB))))) (ny (qv PassesOwn.never rfl (oS (pv 8)) (oP (i:=9) qZ.nd rfl (by trivial)) (nJ (sy (pO hr) (pv 6) (pv 9) tY rfl))) (nJ (qe (rN ak aH aJ pZ (pv 5) (nu (pv 8) nB))))))) pB))) (nJ (oy (pv 5))))))))),oi _ (K:=K) (nH (nU (i:=2) (pV nX)) (nH (ub (nP 1) (Ed (i:=2) (SK.lOf (pV (nK (nP 3) (nK (SR.kSc (vE tE (nv 3))) nX)))))) (nH (nU (i:=4) (WX (nF (nv 2) (nF (SK.rOf (ou (nK (nP 0) (nK (nP 2) nX)))) nR)))) (nH (nU (i:=5) (pV nX)) (nH (nU (i:=6) uT) (nH (ub (nP 2) (rK (vg (uA (nv 7) (nv 6))) (nH (nU (i:=8) (pV (nK (nP 7) nX))) (nH (xR 100000 (oQ (nT DI (qP (nv 4) (nT yu (nv 8) (vE tE nN))) (nv 7))) (vk (i:=8) (SR.kSc (qP (nv 4) (nT yu (nv 8) (vE tE nN)))))) (nH (ub (nP 8) (sH (i:=6) (SR.kSc tZ) (nv 9))) (vk (i:=5) (nP 8))))) pD)) (ox (uc 5)))))))) h⟩⟩
abbrev yx:Stmt:=yC 46
theorem qS:oA ["_law_turns_here", "_law_at", "_law_place", "_law_turn", "_law_end", "_law_met", "_law_split_here", "_law_first", "_law_ahead", "_law_k"] ["_law_turns_here"] (nZ yx):=by trivial
theorem JA     (D:xJ K mg "_law_split" yx ["_law_turns_here"] f fd) (B:Bt mg)     : Fn P w K mg base 1 "_law_split" yx ["_law_turns_here"] (oK K K40.yr) f fd :=
 ⟨D,D.F.ok qS (λ_ _ _ _=>oX) λl A outer s H n Q E hr h=>⟨_,(ny (nS (i:=1) qS.nd rfl (by trivial) tO) (ny (qv PassesOwn.never rfl (GZ (by rfl) B.enum (nu (pv 0) nB)) (G4 rfl (vN (oP (i:=2) qS.nd rfl (by trivial)) (vN (oP (i:=3) qS.nd rfl (by trivial)) Dg))) (nJ (qv PassesOwn.never rfl (oS (pv 3)) (oP (i:=4) qS.nd rfl (by trivial)) (nJ (sy (pO hr) (pv 1) (pv 4) (pv 2) rfl))))) (ny (nS (i:=5) qS.nd rfl (by trivial) tO) (ny (nS (i:=6) qS.nd rfl (by trivial) (pU nB)) (ny (qv PassesOwn.never rfl (uw (by rfl) B.range (nu (nY oE (by rfl) B.len PySem.boot_len (nu (pv 0) nB)) nB)) (oP (i:=7) qS.nd rfl (by trivial)) (nJ (qU (Ag (uB (pO hr) (pv 7) (pv 5))) (ny (sy (pO hr) (pv 5) (pv 7) tY rfl) (ny (nS (i:=8) qS.nd rfl (by trivial) (pU (nu (pv 7) nB))) (ny (nS (i:=9) qS.nd rfl (by trivial) nL) (ny (yn PassesOwn.never (oO ON (pv 9) (nY oE (by rfl) B.len PySem.boot_len (nu (pv 8) nB)) (pw _)) (ny (qv PassesOwn.never rfl (oS (qQ pH (pv 0) (qQ pH (pv 8) (pv 9) (λ_ _=>rfl)) (λ_ _=>rfl))) (oP (i:=4) qS.nd rfl (by trivial)) (nJ (qU (Ag (uB (pO hr) (qD (pO hr) (pv 1) (vB tH (pv 4)) (by first|rfl|exact trivial|(intro _ _;rfl))) (pv 5))) (ny (sy (pO hr) (pv 5) (qD (pO hr) (pv 1) (vB tH (pv 4)) (by first|rfl|exact trivial|(intro _ _;rfl))) tY rfl) (nJ (qe (rN ak aH aJ pZ (pv 8) (nu (qD (pO hr) (pv 1) (vB tH (pv 4)) (by first|rfl|exact trivial|(intro _ _;rfl))) nB))))) pB))) (nJ (nS (i:=9) qS.nd rfl (by trivial) (oI vW (pv 9) nL))))) (nJ (qe (rN ak aH aJ pZ (pv 6) (nu (rH (N:=["_law_place", "_law_turns_here"]) (fr:=[0]) rfl rfl (by decide +kernel) rfl (by decide +kernel) rfl (rV.of (by decide +kernel) rfl rfl (by exact⟨rfl,trivial⟩) (by repeat (first|exact trivial|refine⟨(by first|exact λ_=>⟨_,rfl⟩|exact λh=>(by rcases h with h|h <;> cases h)),?_⟩)) (by exact⟨⟨rfl,rfl,rfl⟩,trivial⟩)) (oS (pv 8)) (λ_ _ _ _=>tK) (λ_ _ _ _=>(qQ pH (pv 1) (pv 0) (λ_ _=>rfl)))) nB)))))))) pB))) (nJ (oy (pv 6)))))))),oi _ (K:=K) (nH (nU (i:=1) uT) (nH (FS (nP 0) (ub (nP 3) (sH (i:=1) (nP 2) (nv 4)))) (nH (nU (i:=5) uT) (nH (nU (i:=6) (pV nX)) (nH (wV (nF (qf pW (nF (nv 0) nR)) nR) (rK (vg (uA (nv 7) (nv 5))) (nH (sH (i:=5) (SR.kSc tZ) (nv 7)) (nH (nU (i:=8) (pV (nK (nP 7) nX))) (nH (nU (i:=9) (SR.kSc nN)) (nH (xR 100000 (oQ (nT OO (nv 9) (qf pW (nF (nv 8) nR)))) (nH (ub (zh (qB 0) (nT yu (nv 8) (nv 9))) (rK (vg (uA (qP (nv 1) (vE tE (nv 4))) (nv 5))) (nH (sH (i:=5) (SR.kSc tZ) (qP (nv 1) (vE tE (nv 4)))) (vk (i:=8) (SR.kSc (qP (nv 1) (vE tE (nv 4)))))) pD)) (nU (i:=9) (SR.kSc (nT vT (nv 9) nN))))) (vk (i:=6) (qr (nP 8) tN (zh (qB 1) (nv 0)))))))) pD)) (ox (uc 6))))))) h⟩⟩
abbrev ud:Stmt:=yC 47
theorem wU:oA ["_law_script", "_law_names", "_law_some"] ["_law_script"] (nZ ud):=by trivial
theorem Dx  (D:xJ K mg "_law_any_piece" ud ["_law_script"] f fd) (B:Bt mg)   (n:Fn P w K mg base 1 "_law_gap_names" uh ["_law_cell_here", "_law_many"] (oK K K44.ue) fL_gap_names fdL_gap_names) (r:Fn P w K mg base 1 "_law_split" yx ["_law_turns_here"] (oK K K40.yr) fL_split fdL_split) (t:Fn P w K mg base 2 "_law_good" xQ ["_law_turns_here"] (oK K Zl.om) fL_good fdL_good) (l:Fn P w K mg base 1 "_law_cell" vC ["_law_script", "_law_k"] (oK K Zl.oj) fL_cell fdL_cell) (u:Fn P w K mg base 2 "_law_any_map" vM ["_law_cell_here", "_law_names"] (oK K K44.vO) fL_any_map fdL_any_map)  : Fn P w K mg base 3 "_law_any_piece" ud ["_law_script"] (oK K K40.rP) f fd :=
 ⟨D,D.F.ok wU (λ_ _ _ _=>oX) λy A outer s H z Q E hr h=>have x:=hr.units;⟨_,(ny (nS (i:=1) wU.nd rfl (by trivial) (oH n (hr.mono (by decide)) (nu (oH l (hr.mono (by decide)) (nu (pv 0) (nu nL nB))) (nu (oI rB (oH l (hr.mono (by decide)) (nu (pv 0) (nu nL nB))) nL) nB)))) (ny (nS (i:=2) wU.nd rfl (by trivial) (oH r (hr.mono (by decide)) (nu (oH u (hr.mono (by decide)) (nu (oH l (hr.mono (by decide)) (nu (pv 0) (nu nL nB))) (nu (pv 1) nB))) nB))) (ny (qU (oO (Gj x) (pv 2) (pU nB) (pw _)) (nJ (oy (pU (nu (pU nB) nB)))) pB) (nJ (oy (oH t (hr.mono (by decide)) (nu (qQ pH (pv 2) nL (λ_ _=>rfl)) nB))))))),oi _ (K:=K) (nH (nU (i:=1) (ou (nK (SR.kSc (qO (nF (nv 0) (nF nN nR)))) (nK (SR.kSc (nT rq (qO (nF (nv 0) (nF nN nR))) nN)) nX)))) (nH (nU (i:=2) (ou (nK (ou (nK (SR.kSc (qO (nF (nv 0) (nF nN nR)))) (nK (nP 1) nX))) nX))) (nH (rK (oQ (nT GQ (nv 2) (SK.rOf (pV nX)))) (ox (pV (nK (pV nX) nX))) pD) (ox (ou (nK (zh (qB 2) nN) nX)))))) h⟩⟩
abbrev yB:Stmt:=yC 48
theorem yO:oA ["_law_found", "_law_ends", "_law_pick", "_law_one", "_law_other", "_law_still"] ["_law_found", "_law_ends", "_law_pick"] (nZ yB):=by trivial
theorem Kk     (D:xJ K mg "_law_group" yB ["_law_found", "_law_ends", "_law_pick"] f fd) (B:Bt mg)    (l:mg "any" = none)   : Fn P w K mg base 1 "_law_group" yB ["_law_found", "_law_ends", "_law_pick"] (oK K K40.wy) f fd :=
 ⟨D,D.F.ok yO (λ_ _ _ _=>oX) λr A outer s H t Q E hr h=>have n:=hr.units;⟨_,(ny (nS (i:=3) yO.nd rfl (by trivial) (Lm rfl (by rfl) B.dict (nu (qQ pH (pv 0) (oI rB (oI vx (pv 2) nL) (nY oE (by rfl) B.len PySem.boot_len (nu (pv 0) nB))) (λ_ _=>rfl)) nB))) (ny (nS (i:=4) yO.nd rfl (by trivial) (Lm rfl (by rfl) B.dict (nu (qQ pH (pv 0) (oI rB (oI vx (pv 2) nL) (nY oE (by rfl) B.len PySem.boot_len (nu (pv 0) nB))) (λ_ _=>rfl)) nB))) (ny (qU (oO (E6 n) (nY wb (by rfl) B.sorted bg (nu (rH (N:=["_law_end", "_law_other", "_law_one"]) (fr:=[4,3]) rfl rfl (by decide +kernel) rfl (by decide +kernel) rfl (rV.of (by decide +kernel) rfl rfl (by exact⟨rfl,rfl,trivial⟩) (by repeat (first|exact trivial|refine⟨(by first|exact λ_=>⟨_,rfl⟩|exact λh=>(by rcases h with h|h <;> cases h)),?_⟩)) (by exact⟨⟨rfl,rfl,rfl⟩,⟨rfl,rfl,rfl⟩,trivial⟩)) (oS (pv 1)) (λ_ _ _ _=>tK) (λ_ _ _ _=>(FP (nu (pv 0) (nu (qD (pO hr) (pv 1) (qD (pO hr) (pv 2) (pv 0) (by first|rfl|exact trivial|(intro _ _;rfl))) (by first|rfl|exact trivial|(intro _ _;rfl))) nB))))) nB)) (pv 0) rfl) (nJ (oy tY)) pB) (ny (FX (i:=5) (cl:=[]) (N:=["_law_row"]) (fr:=[]) rfl yO.nd rfl (by trivial) rfl (by decide +kernel) rfl (by decide +kernel) rfl (rV.none (by decide +kernel)) (oS (pv 0)) (λ_ _ _ _=>KN (yZ (nY (QY rfl) (by rfl) l jf (nu (rH (cl:=[]) (N:=["_law_pair"]) (fr:=[]) rfl rfl (by decide +kernel) rfl (by decide +kernel) rfl (rV.none (by decide +kernel)) (oS (pv 0)) (λ_ _ _ _=>tK) (λ_ _ _ _=>(Br zk (qQ Co (pv 0) nL (λ_ _=>rfl)) (qQ Co (pv 0) nL (λ_ _=>rfl)) (pw _)))) nB)))) (λ_ _ _ _=>(pv 0))) (nJ (oy (Om (Br zk (oI rB (nY oE (by rfl) B.len PySem.boot_len (nu (pv 1) nB)) (nY oE (by rfl) B.len PySem.boot_len (nu (pv 0) nB))) nL (pw _)) (Pn (Br (Gj n) (pv 5) (pU (nu (nY wb (by rfl) B.sorted bg (nu (rH (cl:=[]) (N:=["_law_end"]) (fr:=[]) rfl rfl (by decide +kernel) rfl (by decide +kernel) rfl (rV.none (by decide +kernel)) (oS (pv 1)) (λ_ _ _ _=>tK) (λ_ _ _ _=>(FP (nu (pv 0) (nu (pv 0) nB))))) nB)) nB)) (pw _)))))))))),oi _ (K:=K) (nH (nU (i:=3) (LK (SL.q (SK.lOf (zh (qB 0) (nT rq (nT xK (nv 2) nN) (qf pW (nF (nv 0) nR)))))))) (nH (nU (i:=4) (LK (SL.q (SK.lOf (zh (qB 0) (nT rq (nT xK (nv 2) nN) (qf pW (nF (nv 0) nR)))))))) (nH (rK (oQ (nT Fh (SK.rOf (BI (SL.q (SK.lOf (qr (nP 1) tN (FV (nK (nP 0) (nK (SR.kSc (qP (nv 1) (qP (nv 2) (nv 0)))) nX)))))))) (nv 0))) (ox (SR.kSc tZ)) pD) (nH (nU (i:=5) (qr (nP 0) (vg (qf V7 (nF (SK.rOf (qr (nP 0) tN (SR.kSc (nT yq (nT Cn (nv 0) nN) (nT Cn (nv 0) nN))))) nR))) (nP 0))) (ox (SR.kSc (QW (nT yq (nT rq (qf pW (nF (nv 1) nR)) (qf pW (nF (nv 0) nR))) nN) (nT GQ (nv 5) (SK.rOf (pV (nK (BI (SL.q (SK.lOf (qr (nP 1) tN (FV (nK (nP 0) (nK (nP 0) nX))))))) nX))))))))))) h⟩⟩
abbrev AH:Stmt:=yC 49
theorem xf:oA ["_law_script", "_law_pick", "_law_many", "_law_m", "_law_step", "_law_handed", "_law_found", "_law_ends"] ["_law_script"] (nZ AH):=by trivial
theorem Wn  (D:xJ K mg "law" AH ["_law_script"] f fd) (B:Bt mg)   (x:Fn P w K mg base 1 "_law_cell" vC ["_law_script", "_law_k"] (oK K Zl.oj) fL_cell fdL_cell) (y:Fn P w K mg base 2 "_law_good" xQ ["_law_turns_here"] (oK K Zl.om) fL_good fdL_good) (z:Fn P w K mg base 2 "_law_next_part" uk ["_law_script", "_law_many"] (oK K K40.sW) fL_next_part fdL_next_part) (C:Fn P w K mg base 1 "_law_copy" Ae ["_law_m"] (oK K K51.xX) fL_copy fdL_copy) (l:Fn P w K mg base 5 "own_turns" vK ["m"] (oK K K40.pX) fown_turns fdown_turns) (u:Fn P w K mg base 1 "_law_flat" zW ["_law_turns_here"] (oK K Zl.pI) fL_flat fdL_flat) (G:Fn P w K mg base 1 "_law_group" yB ["_law_found", "_law_ends", "_law_pick"] (oK K K40.wy) fL_group fdL_group) (I:Fn P w K mg base 2 "_law_fold" zO ["_law_script", "_law_many"] (oK K K40.yg) fL_fold fdL_fold) (J:Fn P w K mg base 3 "_law_any_piece" ud ["_law_script"] (oK K K40.rP) fL_any_piece fdL_any_piece) (r:Fn P w K mg base 3 "lands" BM ["m"] (oK K K15.vq) flands fdlands) (n:Fn P w K mg base 3 "mirror" Ab ["m"] (oK K K19.ya) fmirror fdmirror) (L:Fn P w K mg base 3 "_law_is_laying" ui ["_law_found", "_law_m", "_law_n"] (oK K K40.qI) fL_is_laying fdL_is_laying)  : Fn P w K mg base 6 "law" AH ["_law_script"] (oK K K40.FC) f fd :=
 ⟨D,D.F.ok xf (λ_ _ _ _=>oX) λM A outer s H O Q E hr h=>have t:=hr.units;⟨_,(ny (nS (i:=1) xf.nd rfl (by trivial) (oH x (hr.mono (by decide)) (nu (pv 0) (nu nL nB)))) (ny (nS (i:=2) xf.nd rfl (by trivial) (qQ pH (pU (nu nL (nu nL (nu nL (nu nL (nu nL (nu nL nB))))))) (oI rB (oI vx (pv 1) nL) nL) (λ_ _=>rfl))) (ny (nS (i:=3) xf.nd rfl (by trivial) (oH y (hr.mono (by decide)) (nu (oH I (hr.mono (by decide)) (nu (pv 0) (nu (pv 2) nB))) nB))) (ny (nS (i:=4) xf.nd rfl (by trivial) (oH z (hr.mono (by decide)) (nu (pv 0) (nu (pv 2) nB)))) (ny (qU (oO zk (oI rB (nY oE (by rfl) B.len PySem.boot_len (nu (pv 0) nB)) nL) nL (pw _)) (ny (nS (i:=2) xf.nd rfl (by trivial) nL) (ny (nS (i:=3) xf.nd rfl (by trivial) (oH J (hr.mono (by decide)) (nu (pv 0) nB))) (nJ (nS (i:=4) xf.nd rfl (by trivial) (Lm rfl (by rfl) B.dict (nu (rH (cl:=[]) (N:=["_law_end"]) (fr:=[]) rfl rfl (by decide +kernel) rfl (by decide +kernel) rfl (rV.none (by decide +kernel)) (oS (oH u (hr.mono (by decide)) (nu (pv 3) nB))) (λ_ _ _ _=>tK) (λ_ _ _ _=>(FP (nu (pv 0) (nu (pv 0) nB))))) nB)))))) pB) (ny (nS (i:=5) xf.nd rfl (by trivial) (oH C (hr.mono (by decide)) (nu (pv 3) nB))) (ny (nS (i:=6) xf.nd rfl (by trivial) (oH l (hr.mono (by decide)) (nu (pv 5) nB))) (ny (qU (PW.pt (CF (oO (Cq t) (pv 5) (pv 3) (pw _)) (CF (oO (Cq t) (oH l (hr.mono (by decide)) (nu (oH r (hr.mono (by decide)) (nu (pv 3) nB)) nB)) (pv 6) (pw _)) (AQ (oO (Cq t) (oH l (hr.mono (by decide)) (nu (oH n (hr.mono (by decide)) (nu (pv 3) nB)) nB)) (pv 6) (pw _)))))) (nJ (oy tY)) pB) (ny (nS (i:=7) xf.nd rfl (by trivial) (oH u (hr.mono (by decide)) (nu (pv 3) nB))) (ny (qU (oO zk (nY oE (by rfl) B.len PySem.boot_len (nu (pv 7) nB)) nL (pw _)) (nJ (oy (Br (Gj t) (pv 6) (pU (nu (pU nB) nB)) (pw _)))) pB) (ny (qU (PW.pt (CF (A3 (yZ (nY zH (by rfl) B.isi cB (nu (pv 6) (nu (Bi (v:=.ty "list") (by rfl) B.list bU rfl) nB))))) (AQ (A3 (yZ (nY (Oq rfl) (by rfl) B.all jg (nu (rH (N:=["_law_row", "_law_m"]) (fr:=[3]) rfl rfl (by decide +kernel) rfl (by decide +kernel) rfl (rV.of (by decide +kernel) rfl rfl (by exact⟨rfl,trivial⟩) (by repeat (first|exact trivial|refine⟨(by first|exact λ_=>⟨_,rfl⟩|exact λh=>(by rcases h with h|h <;> cases h)),?_⟩)) (by exact⟨⟨rfl,rfl,rfl⟩,trivial⟩)) (oS (pv 6)) (λ_ _ _ _=>tK) (λ_ _ _ _=>(oH L (hr.mono (by decide)) (nu (pv 0) (nu (pv 1) (nu (pv 1) nB)))))) nB))))))) (nJ (oy tY)) pB) (ny (qU (PW.pt (CF (oO (E6 t) (nY wb (by rfl) B.sorted bg (nu (rH (N:=["_law_end", "_law_step"]) (fr:=[4]) rfl rfl (by decide +kernel) rfl (by decide +kernel) rfl (rV.of (by decide +kernel) rfl rfl (by exact⟨rfl,trivial⟩) (by repeat (first|exact trivial|refine⟨(by first|exact λ_=>⟨_,rfl⟩|exact λh=>(by rcases h with h|h <;> cases h)),?_⟩)) (by exact⟨⟨rfl,rfl,rfl⟩,trivial⟩)) (oS (pv 7)) (λ_ _ _ _=>tK) (λ_ _ _ _=>(FP (nu (pv 0) (nu (qD (pO hr) (pv 1) (pv 0) (by first|rfl|exact trivial|(intro _ _;rfl))) nB))))) nB)) (pv 6) rfl) (AQ (oO D4 (oI rB (nY oE (by rfl) B.len PySem.boot_len (nu (pv 6) nB)) (pv 2)) nL (pw _))))) (nJ (oy tY)) pB) (nJ (oy (oH G (hr.mono (by decide)) (nu (pv 6) (nu (pv 7) (nu (pv 1) nB)))))))))))))))))),oi _ (K:=K) (nH (nU (i:=1) (SR.kSc (qO (nF (nv 0) (nF nN nR))))) (nH (nU (i:=2) (SR.kSc (nT yu (SK.rOf (pV (nK (SR.kSc nN) (nK (SR.kSc nN) (nK (SR.kSc nN) (nK (SR.kSc nN) (nK (SR.kSc nN) (nK (SR.kSc nN) nX)))))))) (nT rq (nT xK (nv 1) nN) nN)))) (nH (nU (i:=3) (ou (nK (ou (nK (nP 0) (nK (nP 2) nX))) nX))) (nH (nU (i:=4) (ou (nK (nP 0) (nK (nP 2) nX)))) (nH (rK (oQ (nT yq (nT rq (qf pW (nF (nv 0) nR)) nN) nN)) (nH (nU (i:=2) (SR.kSc nN)) (nH (nU (i:=3) (ou (nK (nP 0) nX))) (nU (i:=4) (LK (SL.q (SK.lOf (qr (ou (nK (nP 3) nX)) tN (FV (nK (nP 0) (nK (nP 0) nX)))))))))) pD) (nH (nU (i:=5) (ou (nK (nP 3) nX))) (nH (nU (i:=6) (ou (nK (nP 5) nX))) (nH (rK (CC (oQ (nT Cu (nv 5) (nv 3))) (CC (oQ (nT Cu (SK.rOf (ou (nK (ou (nK (nP 3) nX)) nX))) (nv 6))) (oQ (nT Cu (SK.rOf (ou (nK (ou (nK (nP 3) nX)) nX))) (nv 6))))) (ox (SR.kSc tZ)) pD) (nH (nU (i:=7) (ou (nK (nP 3) nX))) (nH (rK (oQ (nT yq (qf pW (nF (nv 7) nR)) nN)) (ox (SR.kSc (nT GQ (nv 6) (SK.rOf (pV (nK (pV nX) nX)))))) pD) (nH (rK (CC (AR (vg (qf D3 (nF (nv 6) (nF HZ nR))))) (AR (vg (qf Wy (nF (SK.rOf (qr (nP 6) tN (SR.kSc (qO (nF (nv 0) (nF (nv 1) (nF (nv 1) nR))))))) nR))))) (ox (SR.kSc tZ)) pD) (nH (rK (CC (oQ (nT Fh (SK.rOf (BI (SL.q (SK.lOf (qr (nP 7) tN (FV (nK (nP 0) (nK (SR.kSc (qP (nv 1) (nv 0))) nX)))))))) (nv 6))) (oQ (nT DI (nT rq (qf pW (nF (nv 6) nR)) (nv 2)) nN))) (ox (SR.kSc tZ)) pD) (ox (SR.kSc (qO (nF (nv 6) (nF (nv 7) (nF (nv 1) nR)))))))))))))))))) h⟩⟩
end
end K40
namespace K39
open PySem L2 Mr Z Xe
def mb_L_pairs_0:MS:=(nW (xH (Aq (xg (rA (tX zr (nD (nC 1) (nD (rC (.ty "tuple")) nV))))) (rA (oN Jn (tX qu (nD (nC 1) nV)) (rC (.int 2))))) (qh (kSc (rC (.bl false)))) qa) (xH (Aq (xg (rA (rd K72.uy (nD (oN wa (nC 1) (rC (.int 0))) nV)))) (xg (rA (rd K72.uy (nD (oN wa (nC 1) (rC (.int 1))) nV))))) (qh (kSc (rC (.bl false)))) qa))
def mf_L_pairs:MS:=(nW (xH (xg (rA (tX zr (nD (nC 0) (nD (rC (.ty "list")) nV))))) (qh (kSc (rC (.bl false)))) qa)
 (nW (zm 1 (og 0) mb_L_pairs_0)
 (qh (kSc (rC (.bl true))))))
def f_L_pairs:MF:=rR 1 2 mf_L_pairs
end K39
namespace K13
open PySem L2 Mr Z Xe Zl
def oM(rs:List (List Int)):AV:=.ow (rs.map λr=>.sh (dI r))
theorem Pj(rs:List (List Int)):oa (oM rs)=dM rs:=by unfold oM;rw[tL,Tr]
end K13
namespace K12
open PySem L2 Mr Z Xe Zl
abbrev aP(part:List (List Int)):AV:=.ow (part.map aI)
theorem PR{α β:Type}(f:α->β) (l:List α) (i:Nat) (a:α):(l.map f).set i (f a)=(l.set i a).map f:=by rw[ja]
structure Wd where
 P0:List (List (List Int))
 last:List (List Int)
 t0:List Nat
 h:Nat
 left:List Int
 used:Nat
noncomputable abbrev cN(ks:List Nat):List Int:=ks.map λn:Nat=>(n:Int)
def st(v0 v1:Option AV) (w:Wd) (v6 v7 v8 v9:Option AV):AS:=[v0,v1,some (.ow ((w.P0++[w.last]).map aP)),some (aI (cN (w.t0++[w.h]))),some (aI w.left),some (.sh (.int (w.used:Int))),v6,v7,v8,v9]
section
variable {nm:List Int}{P0:List (List (List Int))}{last:List (List Int)}{t0:List Nat}{hd:Nat}{left r:List Int}{used:Nat}{c e:Int}{v0 v1 v8:Option AV}
theorem Ei(r:List Int) (e:Int):(r.map λn=>AV.sh (.int n))++[.sh (.int e)]=(r++[e]).map λn=>.sh (.int n):=by rw[mBq];rfl
theorem Tb(r s:List Int):(r.map λn=>AV.sh (.int n))++(s.map D.int).map AV.sh=(r++s).map λn=>.sh (.int n):=by rw[mBq,mPq];rfl
theorem Ta(l:List (List Int)) (e:Int):l.map aI++[.ow [.sh (.int e)]]=(l++[[e]]).map aI:=by rw[mBq];rfl
theorem Mf(ks:List Nat) (n:Nat):(cN ks).map (λn=>AV.sh (.int n))++[.sh (.int (n:Int))]=(cN (ks++[n])).map λn=>.sh (.int n):=by unfold cN;rw[mBq,mBq];rfl
theorem OF{α β:Type}(f:α->β):∀(l:List α) (i:Nat),(l.map f).eraseIdx i=(l.eraseIdx i).map f
 | [],i=>rfl
 |x::l,0=>rfl
 |x::l,i+1=>by rw[ax,bP,bP,OF f l i,ax]
end
theorem BU{x r:List Int}(a:Int):∀{l:List (List Int)}{h:Nat},l[h]?=some r->(l.set h (r++x)).flatten.count a=l.flatten.count a+x.count a
 | [],_,h=>by simp at h
 |s::l,0,h=>by
  cases h;rw[fb,fCq,fCq,cAq,cAq,cAq];lia
 |s::l,h+1,e=>by
  rw[fe,fCq,fCq,cAq,cAq,BU a (by simpa using e)]
  lia
theorem B8(a:Int):∀{l:List Int}{j:Nat},j<l.length->(l.eraseIdx j).count a+[l.getD j 0].count a=l.count a
 | [],_,h=>by simp at h
 |x::l,0,_=>by
  rw[fm,show x::l=[x]++l from rfl,cAq]
  show l.count a+[x].count a=_;lia
 |x::l,j+1,h=>by
  have n:=B8 a (l:=l) (j:=j) (by simpa using h)
  rw[bP,show x::l.eraseIdx j=[x]++l.eraseIdx j from rfl,show (x::l).getD (j+1) 0=l.getD j 0 from rfl,show x::l=[x]++l from rfl,cAq,cAq]
  lia
theorem L6{l:List (List Int)}{h:Nat}{r:List Int}(e:l[h]?=some r):r.length<=l.flatten.length:=cf.length_le (aK (mGq e))
def BC(st sh a b k:Int):Int:=st*((a*k+b) % 67+1)+sh
theorem LG{st sh a b:Int}(h1:1<=st) (h2:1<=a) (x:a<=66) {j k:Nat}(y:j<67) (z:k<67) (h:BC st sh a b j=BC st sh a b k):j=k:=by
 unfold BC at h;have n:st*((a*j+b) % 67+1)=st*((a*k+b) % 67+1):=by lia
 have B:=Int.eq_of_mul_eq_mul_left (by lia) n
 have r:((a*j+b)-(a*k+b)) % 67=0:=Int.emod_eq_emod_iff_emod_sub_eq_zero.mp (by lia)
 have s:(a*((j:Int)-k)) % 67=0:=by
  rw[←r];congr 1;rw[Int.mul_sub];lia
 obtain⟨l,rfl⟩:∃l:Nat,a=(l:Int)+1:=⟨(a-1).toNat,by lia⟩
 rcases iq j k with q|q|q
 .exfalso;refine Mr.Lh ⟨l,by lia⟩ ⟨k-j,by lia⟩ (by show 0<k-j;lia) ?_
  show (l+1)*(k-j) % 67=0;have t:(((l:Int)+1)*((k:Int)-j)) % 67=0:=by
   have:((l:Int)+1)*((k:Int)-j) = -(((l:Int)+1)*((j:Int)-k)):=by
    rw[←gT];congr 1;lia
   rw[this];lia
  have u:(((l+1)*(k-j) % 67:Nat):Int)=0:=by
   rw[←t];push_cast [bZ q];rfl
  lia
 .exact q
 .exfalso;refine Mr.Lh ⟨l,by lia⟩ ⟨j-k,by lia⟩ (by show 0<j-k;lia) ?_
  show (l+1)*(j-k) % 67=0;have u:(((l+1)*(j-k) % 67:Nat):Int)=0:=by
   rw[←s];push_cast [bZ q];rfl
  lia
theorem BO:∀{l:List Int},l.Nodup->(∀x∈l,1<=x)->(l.flatMap λx=>[x, -x]).Nodup
 | [],_,_=>aY
 |x::l,hn,hp=>by
  have n:=aB.mp hn;have u:=hp x (aw ..);rw[bD,nAq];refine⟨?_,BO n.2 λy r=>hp y (mCo _ r),λa s b t e=>?_⟩
  .rw [aB];refine⟨?_,by simp⟩
   rw[mSq];lia
  .subst e;obtain⟨y,r,q⟩:=bM.mp t;have py:=hp y (mCo _ r);simp at s q;have:y=x:=by lia
   exact n.1 (this ▸ r)
end K12
namespace K51
open PySem L2 Mr Z Xe Zl
theorem L7{rs:List (List Int)}(hl:rs.length<=500000):xX [dM rs]=some (.ow (rs.map aI)):=by
 have key:=rL (te:=AM (sZ 0)) (cap:=[]) (λd=>match d with|.list l=>.ow (l.map .sh)|_=>.sh .non) (ds:=rs.map dI) (by
  intro d hd;obtain⟨r,_,rfl⟩:=mMq.mp hd;refine⟨[some (.sh (dI r))],?_⟩
  simp_arith [dI])
 have h1:rs.length<=qK:=by show _<=16777216;lia
 have e:(rs.map dI).map (λd=>match d with|D.list l=>AV.ow (l.map .sh)|_=>.sh .non)=rs.map aI:=by
  rw[mPq];refine mCq λr _=>?_
  show AV.ow ((r.map D.int).map .sh)=aI r;rw[mPq];rfl
 rw[e]at key
 simp_arith [xX,EU,dM,key,h1]
noncomputable def kd(ks:List Nat):List (oq×D):=ks.map λk:Nat=>((ao (k:Int):oq),D.bl true)
noncomputable def wd(ws:List Nat):List AV:=ws.map λk:Nat=>AV.sh (.int (k:Int))
theorem kd_any(ks:List Nat) (t:Nat):(kd ks).any (λkv=>decide (kv.1=(ao (t:Int):oq)))=decide (t∈ks):=by
 induction ks with
 |nil=>simp[kd]
 |cons k ks l =>
  unfold kd at l ⊢;rw[ax,eS,l]
  by_cases h:t=k
  .subst h;simp
  .have n:¬ (ao (k:Int):oq)=ao (t:Int):=λq=>h (by have:=ao.inj q;lia)
   simp[n,h]
theorem kd_get(ks:List Nat) (t:Nat):(getD (kd ks) (ao (t:Int))).isSome=decide (t∈ks):=by
 unfold getD;rw[eB,←kd_any,bx,gi,cM]
theorem QN{ks:List Nat}{t:Nat}(h:t∉ks):vH (kd ks) (ao (t:Int)) (.bl true)=kd (ks++[t]):=by
 unfold vH;rw[kd_any,decide_eq_false h,qk (by simp)]
 simp[kd]
theorem JD{kvs:List (oq×D)}{ks ws:List Nat}{e:Int}{t:Nat}{v0 v1 v5 v7:Option AV}(r:getD kvs (ao (-e))=some (.int (t:Int))) (u:ks.length<500000) (x:ws.length<500000) :
  tW [v0,v1,some (.owd kvs),some (.owd (kd ks)),some (.ow (wd ws)),v5,some (.sh (.int e)),v7]=some (.nx [v0,v1,some (.owd kvs),some (.owd (kd (if t∈ks then ks else ks++[t]))),some (.ow (wd (if t∈ks then ws else ws++[t]))),v5,some (.sh (.int e)),some (.sh (.int (t:Int)))]):=by
 have l1:(kd ks).length<qK:=by unfold kd;rw[lMq];show _<16777216;lia
 have l2:(wd ws).length<qK:=by unfold wd;rw[lMq];show _<16777216;lia
 have l:=kd_get ks t
 by_cases h:t∈ks
 .rw [decide_eq_true h]at l
  simp_arith [tW,r,l,h]
 .rw [decide_eq_false h]at l;have s:=QN h;have n:wd ws++[.sh (.int (t:Int))]=wd (ws++[t]):=by simp[wd]
  simp_arith [tW,r,l,h,s,l1,l2,n]
noncomputable def zf(pl:Int->Nat) (x:List Nat×List Nat) (e:Int):List Nat×List Nat:=if pl (-e)∈x.1 then x else (x.1++[pl (-e)],x.2++[pl (-e)])
theorem FK(pl:Int->Nat):∀(r:List Int) (x:List Nat×List Nat),(r.foldl (zf pl) x).1.length<=x.1.length+r.length/\(r.foldl (zf pl) x).2.length<=x.2.length+r.length
 | [],x=>⟨ai _,ai _⟩
 |e::r,x=>by
  obtain⟨h1,h2⟩:=FK pl r (zf pl x e);have l:(zf pl x e).1.length<=x.1.length+1/\(zf pl x e).2.length<=x.2.length+1:=by
   unfold zf;split
   .exact ⟨bR _,bR _⟩
   .simp
  rw[bB,lCq];lia
theorem My{kvs:List (oq×D)}{ks ws:List Nat}{r:List Int}{pl:Int->Nat}{v0 v1 v5 v6 v7:Option AV}(z:∀e∈r,getD kvs (ao (-e))=some (.int (pl (-e):Int))) (H:ks.length+r.length<500000) (I:ws.length+r.length<500000) :
  ∃n l,sk 6 tW (r.map D.int) [v0,v1,some (.owd kvs),some (.owd (kd ks)),some (.ow (wd ws)),v5,v6,v7]=some (.nx [v0,v1,some (.owd kvs),some (.owd (kd (r.foldl (zf pl) (ks,ws)).1)),some (.ow (wd (r.foldl (zf pl) (ks,ws)).2)),v5,n,l]):=by
 have key:=tx (x:=6) (body:=tW) (λi S=>∃n l,S=[v0,v1,some (.owd kvs),some (.owd (kd ((r.take i).foldl (zf pl) (ks,ws)).1)),some (.ow (wd ((r.take i).foldl (zf pl) (ks,ws)).2)),v5,n,l]) (ds:=r.map D.int) (S:=[v0,v1,some (.owd kvs),some (.owd (kd ks)),some (.ow (wd ws)),v5,v6,v7])
  ⟨v6,v7,rfl⟩ (by
  rintro i d S hd ⟨n,l,rfl⟩;rw[gMq]at hd;obtain⟨e,s,rfl⟩:=oMq.mp hd;have t:i<r.length:=(gSq.mp s).1;have B:e∈r:=mGq s;obtain⟨u,y⟩:=FK pl (r.take i) (ks,ws);rw[lTq]at u y;have C:((r.take i).foldl (zf pl) (ks,ws)).1.length<=ks.length+min i r.length:=u;have E:((r.take i).foldl (zf pl) (ks,ws)).2.length<=ws.length+min i r.length:=y;have step:=JD (v0:=v0) (v1:=v1) (v5:=v5) (v7:=l) (z e B) (ks:=((r.take i).foldl (zf pl) (ks,ws)).1) (ws:=((r.take i).foldl (zf pl) (ks,ws)).2) (by lia) (by lia)
  have G:(r.take (i+1)).foldl (zf pl) (ks,ws)=zf pl ((r.take i).foldl (zf pl) (ks,ws)) e:=by
   have:r[i]'t=e:=by rw[gEg t]at s;exact aT.inj s
   rw[dH t,eD,this];rfl
  refine⟨_,step,some (.sh (.int e)),some (.sh (.int (pl (-e):Int))),?_⟩;rw[G];unfold zf;split <;> rfl)
 obtain⟨J,e,n,l,rfl⟩:=key;rw[lMq,aZ]at e;exact⟨n,l,e⟩
theorem Oe:∀(N:Nat) (l:List Nat),l.Nodup->(∀x∈l,x<N)->l.length<=N
 |0,l,_,h=>by
  cases l with
  |nil=>exact ai _
  |cons x l=>exact absurd (h x (aw ..)) (bK _)
 |N+1,l,hn,h=>by
  have h2:=Oe N (l.erase N) (hn.erase N) (λx n=>by
   have:=(hn.mem_erase_iff).mp n;have:=h x this.2;lia)
  rw[List.length_erase]at h2;split at h2 <;> lia
noncomputable def plc(rs:List (List Int)) (e:Int):Nat:=rs.findIdx λr=>decide (e∈r)
theorem same_place{rs:List (List Int)}(hn:rs.flatten.Nodup) {i j:Nat}{r s:List Int}{e:Int}(l:rs[i]?=some r) (n:rs[j]?=some s) (h1:e∈r) (h2:e∈s):i=j:=by
 have a:=yI 0 hn l h1;have b:=yI 0 hn n h2;rw[a]at b;have:=D.int.inj (aT.inj b);lia
theorem plc_eq{rs:List (List Int)}(hn:rs.flatten.Nodup) {i:Nat}{r:List Int}{e:Int}(l:rs[i]?=some r) (h1:e∈r):plc rs e=i:=by
 have hl:rs.findIdx (λr=>decide (e∈r))<rs.length:=fx ⟨r,mGq l,decide_eq_true h1⟩
 have h2:=gW (xs:=rs) (p:=λr=>decide (e∈r)) (w:=hl)
 exact same_place hn (gEg hl) l (of_decide_eq_true h2) h1
structure Mp (rs:List (List Int)):Prop where
 hn:rs.flatten.Nodup
 hl:rs.flatten.length<=63
 hr:rs.length<=63
 hneg:∀e∈rs.flatten, -e∈rs.flatten
theorem Mp.at{rs:List (List Int)}(h:Mp rs) {e:Int}(n:e∈rs.flatten):∃r,rs[plc rs e]?=some r/\e∈r:=by
 obtain⟨r,h1,h2⟩:=mFq.mp n;obtain⟨i,l⟩:=ay.mp h1;exact⟨r,by rw[plc_eq h.hn l h2];exact l,h2⟩
theorem Mp.other{rs:List (List Int)}(h:Mp rs) {k:Nat}{r:List Int}{e:Int}(l:rs[k]?=some r) (n:e∈r):-e∈rs.flatten:=h.hneg e (mFq.mpr ⟨r,mGq l,n⟩)
theorem Mp.kv{rs:List (List Int)}(h:Mp rs) {e:Int}(l:e∈rs.flatten):getD (oU 0 rs) (ao e)=some (.int (plc rs e:Int)):=by
 obtain⟨r,h1,h2⟩:=h.at l;have:=yI 0 h.hn h1 h2
 rwa [bh]at this
theorem Mp.lt{rs:List (List Int)}(h:Mp rs) {e:Int}(l:e∈rs.flatten):plc rs e<rs.length:=by
 obtain⟨r,h1,_⟩:=h.at l;exact(gSq.mp h1).1
theorem Mp.row{rs:List (List Int)}(h:Mp rs) {k:Nat}{r:List Int}(l:rs[k]?=some r):r.length<=1000:=by
 have:=cf.length_le (aK (mGq l));have:=h.hl;lia
inductive FG (rs:List (List Int)) (s:Nat):Nat->Prop
 |base:FG rs s s
 |step {k:Nat}{r:List Int}{e:Int}:FG rs s k->rs[k]?=some r->e∈r->FG rs s (plc rs (-e))
theorem Bk(pl:Int->Nat):∀(r:List Int) (ks ws:List Nat),∃a,r.foldl (zf pl) (ks,ws)=(ks++a,ws++a)/\(∀k∈a,∃e∈r,k=pl (-e))/\(∀e∈r,pl (-e)∈ks++a)/\(ks.Nodup->(ks++a).Nodup)
 | [],ks,ws=>⟨[],by simp,by simp,by simp,by simp⟩
 |e::r,ks,ws=>by
  rw[bB]
  by_cases h:pl (-e)∈ks
  .have s:zf pl (ks,ws) e=(ks,ws):=by unfold zf;rw[pQ h]
   rw[s];obtain⟨a,h1,h2,t,u⟩:=Bk pl r ks ws;refine⟨a,h1,λk n=>?_,λx l=>?_,u⟩
   .obtain ⟨x,l,q⟩:=h2 k n;exact⟨x,mCo _ l,q⟩
   .rcases ar.mp l with rfl|l
    .exact mAq.mpr (.inl h)
    .exact t x l
  .have s:zf pl (ks,ws) e=(ks++[pl (-e)],ws++[pl (-e)]):=by unfold zf;rw[qk h]
   rw[s];obtain⟨a,h1,h2,t,u⟩:=Bk pl r (ks++[pl (-e)]) (ws++[pl (-e)]);refine⟨pl (-e)::a,by rw[h1,aM,aM];rfl,λk n=>?_,λx l=>?_,λhn=>?_⟩
   .rcases ar.mp n with rfl|n
    .exact ⟨e,aw ..,rfl⟩
    .obtain ⟨x,l,q⟩:=h2 k n;exact⟨x,mCo _ l,q⟩
   .rcases ar.mp l with rfl|l
    .exact mAq.mpr (.inr (aw ..))
    .have:=t x l
     rwa [aM]at this
   .have:=u (by
     rw[nAq];exact⟨hn,by simp,λx l y z q=>h (by rw[mSq.mp z]at q;rw[←q];exact l)⟩)
    rwa [aM]at this
structure Inv (rs:List (List Int)) (s:Nat) (ks ws:List Nat):Prop where
 nd:ks.Nodup
 lt:∀k∈ks,k<rs.length
 st:s∈ks
 rc:∀k∈ks,FG rs s k
 sub:∀w∈ws,w∈ks
 cl:∀k∈ks,k∉ws->∀r e,rs[k]?=some r->e∈r->plc rs (-e)∈ks
 few:2*(rs.length-ks.length)+ws.length<=2*rs.length+1
theorem Inv.go{rs:List (List Int)}(y:Mp rs) {s h:Nat}{ks ws:List Nat}{r:List Int}(l:Inv rs s ks (ws++[h])) (hr:rs[h]?=some r):∃a,r.foldl (zf (plc rs)) (ks,ws)=(ks++a,ws++a)/\Inv rs s (ks++a) (ws++a)/\2*(rs.length-(ks++a).length)+(ws++a).length<2*(rs.length-ks.length)+(ws++[h]).length:=by
 obtain⟨a,h1,h2,B,C⟩:=Bk (plc rs) r ks ws;have hh:h∈ks:=l.sub h (by simp)
 have nd:=C l.nd;have lt:∀k∈ks++a,k<rs.length:=by
  intro k u;rcases mAq.mp u with q|q
  .exact l.lt k q
  .obtain ⟨e,t,rfl⟩:=h2 k q;exact y.lt (y.other hr t)
 have E:=Oe _ _ nd lt;have G:=l.few;rw[lAq]at E;rw[lAq,lSq]at G;have key:2*(rs.length-(ks++a).length)+(ws++a).length<2*(rs.length-ks.length)+(ws++[h]).length:=by
  rw[lAq,lAq,lAq,lSq];lia
 refine⟨a,h1,⟨nd,lt,mAq.mpr (.inl l.st),λk u=>?_,λw x=>?_,λk u x=>?_,?_⟩,key⟩
 .rcases mAq.mp u with q|q
  .exact l.rc k q
  .obtain ⟨e,t,rfl⟩:=h2 k q;exact .step (l.rc h hh) hr t
 .rcases mAq.mp x with q|q
  .exact mAq.mpr (.inl (l.sub w (mAq.mpr (.inl q))))
  .exact mAq.mpr (.inr q)
 .intro H e n t;have I:k∈ks:=(mAq.mp u).resolve_right λq=>x (mAq.mpr (.inr q))
  by_cases q:k=h
  .subst q;rw[hr]at n;cases n;exact B e t
  .exact mAq.mpr (.inl (l.cl k I (λz=>by
    rcases mAq.mp z with z|z
    .exact x (mAq.mpr (.inl z))
    .exact q (mSq.mp z)) H e n t))
 .rw [lAq,lAq]at key ⊢;rw[lAq,lSq]at key;lia
noncomputable def mu(N:Nat):AS->Nat
 | [_,_,_,some (.owd kv),some (.ow w),_,_,_]=>2*(N-kv.length)+w.length
 |_=>0
theorem Jt{rs:List (List Int)}(t:Mp rs) {s:Nat}(I:s<rs.length):∃S',sj (rA (oN Kh (tX qu (nD (nC 4) nV)) (rC (.int 0)))) wg 100000 [some (.sh (dM rs)),some (.sh (.int (s:Int))),some (.owd (oU 0 rs)),some (.owd (kd [s])),some (.ow (wd [s])),none,none,none]=some (.nx S') /\
  ∃ks v5 v6 v7,S'=[some (.sh (dM rs)),some (.sh (.int (s:Int))),some (.owd (oU 0 rs)),some (.owd (kd ks)),some (.ow (wd [])),v5,v6,v7]/\Inv rs s ks []:=by
 have x:=t.hr;refine xj (c:=rA (oN Kh (tX qu (nD (nC 4) nV)) (rC (.int 0)))) (body:=wg) (λS=>∃ks l v5 v6 v7,S=[some (.sh (dM rs)),some (.sh (.int (s:Int))),some (.owd (oU 0 rs)),some (.owd (kd ks)),some (.ow (wd l)),v5,v6,v7]/\Inv rs s ks l) (mu rs.length) (λS'=>∃ks v5 v6 v7,S'=[some (.sh (dM rs)),some (.sh (.int (s:Int))),some (.owd (oU 0 rs)),some (.owd (kd ks)),some (.ow (wd [])),v5,v6,v7]/\Inv rs s ks []) ?_ 100000 _ ⟨[s],[s],none,none,none,rfl,?_⟩ ?_
 .rintro S ⟨ks,l,v5,v6,v7,rfl,n⟩;rcases eE l with rfl|⟨l,h,rfl⟩
  .refine ⟨false,_,?_,λq=>(nomatch q),λ_=>⟨ks,v5,v6,v7,rfl,n⟩⟩
   simp_arith [wd]
   rfl
  .rw [eF]at n ⊢;have y:h<rs.length:=n.lt h (n.sub h (by simp))
   have hr:rs[h]?=some rs[h]:=gEg y;obtain⟨a,J,z,B⟩:=n.go t hr;have few:=n.few;have R:=Oe _ _ n.nd n.lt;have U:=t.row hr;rw[lAq,lSq]at few;obtain⟨C,E,H⟩:=My (kvs:=oU 0 rs) (ks:=ks) (ws:=l) (r:=rs[h]) (pl:=plc rs) (v0:=some (.sh (dM rs))) (v1:=some (.sh (.int (s:Int)))) (v5:=some (.sh (.int (h:Int)))) (v6:=v6) (v7:=v7) (λe L=>t.kv (t.other hr L)) (by lia) (by lia)
   rw[J]at H;have M:wd (l++[h])=wd l++[.sh (.int (h:Int))]:=by simp[wd]
   have wl:(wd l).length=l.length:=by simp[wd]
   have O:(0:Int)<((wd l++[AV.sh (.int (h:Int))]).length:Int):=by
    rw[lAq,lSq];lia
   have P:(wd l++[AV.sh (.int (h:Int))])[(wd l++[AV.sh (.int (h:Int))]).length-1]?=some (.sh (.int (h:Int))):=by
    rw[lAq,lSq,gYq (by lia)]
    simp
   have Q:(wd l++[AV.sh (.int (h:Int))]).dropLast=wd l:=dE;have G:atI (rs.map dI) (h:Int)=some (dI rs[h]):=qE (by rw[gMq,hr];rfl)
   refine⟨true,[some (.sh (dM rs)),some (.sh (.int (s:Int))),some (.owd (oU 0 rs)),some (.owd (kd ks)),some (.ow (wd l++[.sh (.int (h:Int))])),v5,v6,v7],?_,λ_=>⟨[some (.sh (dM rs)),some (.sh (.int (s:Int))),some (.owd (oU 0 rs)),some (.owd (kd (ks++a))),some (.ow (wd (l++a))),some (.sh (.int (h:Int))),C,E],?_,⟨_,_,_,_,_,rfl,z⟩,?_⟩,λq=>(nomatch q)⟩
   .simp_arith [M,O]
   .simp_arith [wg,P,Q,dM,G,H]
   .show 2*(rs.length-(kd (ks++a)).length)+(wd (l++a)).length<2*(rs.length-(kd ks).length)+(wd (l++[h])).length;unfold kd wd;rw[lMq,lMq,lMq,lMq];exact B
 .refine ⟨by simp,?_,by simp,?_,λw h=>h,?_,?_⟩
  .intro k u;rw[mSq.mp u];exact I
  .intro k u;rw[mSq.mp u];exact .base
  .intro k u hn;exact absurd u hn
  .simp only [lSq];lia
 .show 2*(rs.length-(kd [s]).length)+(wd [s]).length<100000;simp only[kd,wd,lMq,lSq];lia
theorem JC{rs:List (List Int)}(l:Mp rs) {s:Nat}(t:s<rs.length):∃ks,Inv rs s ks []/\wG [dM rs,.int (s:Int)]=some (aI (qN (ks.map λk:Nat=>(k:Int)))):=by
 obtain⟨B,e,ks,C,E,G,rfl,n⟩:=Jt l t;have hl:=l.hl;have u:=Bu l.hn (by lia)
 have x:[((ao (s:Int):oq),D.bl true)]=kd [s]:=rfl;have y:[AV.sh (.int (s:Int))]=wd [s]:=rfl;have z:zL (kd ks)=some (ks.map λk:Nat=>(k:Int)):=Cj (λk:Nat=>(k:Int)) (λ_=>D.bl true) ks
 have l1:(wd [s]).length<=qK:=by show 1<=16777216;decide
 have r:(ks.length<64)=True:=eq_true (by have:=Oe _ _ n.nd n.lt;have:=l.hr;lia)
 refine⟨ks,n,?_⟩
 simp_arith [wG,DD,u,x,y,e,z,l1,r]
theorem T3(ks:List Nat):∃ps:List Nat,ps.Perm ks/\ps.Pairwise (·<=·)/\qN (ks.map λk:Nat=>(k:Int))=ps.map λk:Nat=>(k:Int):=by
 have l:=qF (ks.map λk:Nat=>(k:Int))
 have n:=xw (ks.map λk:Nat=>(k:Int))
 have r:(qN (ks.map λk:Nat=>(k:Int)))=((qN (ks.map λk:Nat=>(k:Int))).map gU).map λk:Nat=>(k:Int):=by
  rw[mPq]
  conv=>lhs;rw[←cW (qN (ks.map λk:Nat=>(k:Int)))]
  refine mCq λz s=>?_
  obtain⟨k,_,rfl⟩:=mMq.mp (l.mem_iff.mp s);rfl
 refine⟨(qN (ks.map λk:Nat=>(k:Int))).map gU,?_,?_,r⟩
 .have:=l.map gU;rw[mPq]at this;have e:ks.map (gU∘λk:Nat=>(k:Int))=ks:=by
   conv=>rhs;rw[←cW ks]
   refine mCq λk _=>?_
   show gU (k:Int)=k;exact cT k
  rwa [e]at this
 .rw [aF];refine bj.imp (λh=>?_) n
  lia
structure Pc (rs:List (List Int)) (s:Nat) (ps:List Nat):Prop where
 nd:ps.Nodup
 so:ps.Pairwise (·<=·)
 lt:∀k∈ps,k<rs.length
 iff:∀k,k∈ps↔FG rs s k
theorem JU{rs:List (List Int)}(r:Mp rs) {s:Nat}(t:s<rs.length):∃ps,Pc rs s ps/\wG [dM rs,.int (s:Int)]=some (aI (ps.map λk:Nat=>(k:Int))):=by
 obtain⟨u,l,e⟩:=JC r t;obtain⟨ps,h1,h2,x⟩:=T3 u;rw[x]at e;refine⟨ps,⟨h1.symm.nodup l.nd,h2,λk n=>l.lt k (h1.mem_iff.mp n),λk=>⟨λn=>l.rc k (h1.mem_iff.mp n),λn=>h1.mem_iff.mpr ?_⟩⟩,e⟩
 induction n with
 |base=>exact l.st
 |step _ a b c=>exact l.cl _ c (cK) _ _ a b
noncomputable def addN(kn:List Nat) (t:Nat):List Nat:=if t∈kn then kn else kn++[t]
theorem kd_put2(ks:List Nat) (t:Nat):vH (kd ks) (ao (t:Int)) (.bl true)=kd (addN ks t):=by
 unfold addN
 by_cases h:t∈ks
 .rw [pQ h];unfold vH;rw[kd_any,decide_eq_true h,pQ rfl];unfold kd;rw[mPq];refine mCq λk _=>?_
  show (if _ then _ else _)=_
  split <;> rfl
 .rw [qk h];exact QN h
theorem Ol(kn:List Nat) (t:Nat):(addN kn t).length<=kn.length+1:=by
 unfold addN;split
 .lia
 .simp
theorem fold_len:∀(ps kn:List Nat),(ps.foldl addN kn).length<=kn.length+ps.length
 | [],kn=>ai _
 |p::ps,kn=>by
  have h1:=fold_len ps (addN kn p);have h2:=Ol kn p;rw[bB,lCq];lia
theorem Po{kn:List Nat}{t k:Nat}:k∈addN kn t↔k∈kn∨k=t:=by
 unfold addN;split
 .rename_i h;exact⟨.inl,λq=>q.elim id λq=>q ▸ h⟩
 .simp
theorem wR:∀{ps kn:List Nat}{k:Nat},k∈ps.foldl addN kn↔k∈kn∨k∈ps
 | [],kn,k=>by simp
 |p::ps,kn,k=>by
  rw[bB,wR,Po,ar,or_assoc]
theorem Sg{kn:List Nat}{t:Nat}(h:kn.Nodup):(addN kn t).Nodup:=by
 unfold addN;split
 .exact h
 .rename_i q;rw[nAq];exact⟨h,by simp,λx l y n z=>q (by rw[mSq.mp n]at z;rw[←z];exact l)⟩
theorem KY:∀{ps kn:List Nat},kn.Nodup->(ps.foldl addN kn).Nodup
 | [],kn,h=>h
 |p::ps,kn,h=>by
  rw[bB];exact KY (Sg h)
theorem NR{ps kn:List Nat}{v0 v2 v3 v4 v5:Option AV}(B:kn.length+ps.length<500000):∃l,sk 5 xD ((ps.map λk:Nat=>(k:Int)).map D.int) [v0,some (.owd (kd kn)),v2,v3,v4,v5]=some (.nx [v0,some (.owd (kd (ps.foldl addN kn))),v2,v3,v4,l]):=by
 have key:=tx (x:=5) (body:=xD) (λi S=>∃l,S=[v0,some (.owd (kd ((ps.take i).foldl addN kn))),v2,v3,v4,l]) (ds:=(ps.map λk:Nat=>(k:Int)).map D.int) (S:=[v0,some (.owd (kd kn)),v2,v3,v4,v5]) ⟨v5,rfl⟩ (by
  rintro i d S hd ⟨l,rfl⟩;rw[gMq,gMq]at hd;obtain⟨z,t,rfl⟩:=oMq.mp hd;obtain⟨k,n,rfl⟩:=oMq.mp t;have r:i<ps.length:=(gSq.mp n).1;have u:=fold_len (ps.take i) kn;rw[lTq]at u;have l1:(kd ((ps.take i).foldl addN kn)).length<qK:=by unfold kd;rw[lMq];show _<16777216;lia
  have y:(ps.take (i+1)).foldl addN kn=addN ((ps.take i).foldl addN kn) k:=by
   have:ps[i]'r=k:=by rw[gEg r]at n;exact aT.inj n
   rw[dH r,eD,this];rfl
  have s:=kd_put2 ((ps.take i).foldl addN kn) k;rw[←y]at s;refine⟨_,?_,some (.sh (.int (k:Int))),rfl⟩
  simp_arith [xD,l1,s])
 obtain⟨C,e,l,rfl⟩:=key;rw[lMq,lMq,aZ]at e;exact⟨l,e⟩
theorem Kn{rs:List (List Int)}{ps:List Nat}(h:∀k∈ps,k<rs.length):qA qz (AM (lOf (FJ (sZ 1) (nC 0)))) [some (.sh (dM rs))] ((ps.map λk:Nat=>(k:Int)).map D.int)=some (ps.map λk=>aI (rs.getD k [])):=by
 have key:=rL (te:=AM (lOf (FJ (sZ 1) (nC 0)))) (cap:=[some (.sh (dM rs))]) (λd=>match d with|.int k=>aI (rs.getD k.toNat [])|_=>.sh .non) (ds:=(ps.map λk:Nat=>(k:Int)).map D.int) (by
  intro d hd;rw[mPq]at hd;obtain⟨k,n,rfl⟩:=mMq.mp hd;have l:=X2 (h k n);refine⟨[some (.sh (.int (k:Int))),some (.sh (dM rs))],?_⟩
  simp_arith [dM,l,Function.comp,cT,dI,aI,mPq]
  rfl)
 rw[key,mPq,mPq];rfl
def pA(rs:List (List Int)) (ps:List Nat):AV:=.ow (ps.map λk=>aI (rs.getD k []))
theorem FG.trans{rs:List (List Int)}{a b c:Nat}(h:FG rs a b) (h2:FG rs b c):FG rs a c:=by
 induction h2 with
 |base=>exact h
 |step _ p q r=>exact .step r p q
theorem FG.symm{rs:List (List Int)}(l:Mp rs) {a b:Nat}(h:FG rs a b):FG rs b a:=by
 induction h with
 |base=>exact .base
 | @step k r e _ p q n =>
  obtain⟨t,h1,h2⟩:=l.at (l.other p q);have:=FG.step (s:=plc rs (-e)) .base h1 h2;rw[cY,plc_eq l.hn p q]at this;exact this.trans n
structure Ps (rs:List (List Int)) (i:Nat) (kn:List Nat) (PS:List (List Nat)):Prop where
 sub:∀ps∈PS,∀k∈ps,k∈kn
 dj:PS.Pairwise λa b=>∀k∈a,k∉b
 pc:∀ps∈PS,∃s,s<rs.length/\Pc rs s ps
 all:∀k,k<i->k∈kn
 mem:∀k,k∈kn->∃ps∈PS,k∈ps
 nd:kn.Nodup
 lt:∀k∈kn,k<rs.length
 len:PS.length<=i
theorem M1{rs:List (List Int)}(G:Mp rs):∃kn PS,Ps rs rs.length kn PS/\zV [dM rs]=some (.ow (PS.map (pA rs))):=by
 have H:=G.hr;have key:=tx (x:=3) (body:=xq) (λi S=>∃kn PS I C z,S=[some (.sh (dM rs)),some (.owd (kd kn)),some (.ow (PS.map (pA rs))),I,C,z]/\Ps rs i kn PS) (ds:=pR 0 rs.length) (S:=[some (.sh (dM rs)),some (.owd []),some (.ow []),none,none,none])
  ⟨[],[],none,none,none,rfl,⟨by simp,by simp,by simp,by simp,by simp,by simp,by simp,by simp⟩⟩ (by
  rintro i d S hd ⟨kn,PS,I,C,z,rfl,l⟩;have J:i<rs.length:=by
   have:=(gSq.mp hd).1
   rwa [pT]at this
  rw[A2 J,ij]at hd;cases hd;have E:=kd_get kn i
  by_cases c:i∈kn
  .rw [decide_eq_true c]at E;refine⟨[some (.sh (dM rs)),some (.owd (kd kn)),some (.ow (PS.map (pA rs))),some (.sh (.int (i:Int))),C,z],?_,kn,PS,_,_,_,rfl,l.sub,l.dj,l.pc,?_,l.mem,l.nd,l.lt,?_⟩
   .simp_arith [xq,E]
   .intro k r;rcases cu.mp r with q|rfl
    .exact l.all k q
    .exact c
   .have:=l.len;lia
  .rw [decide_eq_false c]at E;obtain⟨t,h1,O⟩:=JU G J;have Y:=Oe _ _ l.nd l.lt;have p2:=Oe _ _ h1.nd h1.lt;have p3:=l.len;have l2:t.length<=qK:=by show _<=16777216;lia
   have P:PS.length<qK:=by show _<16777216;lia
   obtain⟨L,Q⟩:=NR (ps:=t) (kn:=kn) (v0:=some (.sh (dM rs))) (v2:=some (.ow (PS.map (pA rs)))) (v3:=some (.sh (.int (i:Int)))) (v4:=some (.sh (dI (t.map λk:Nat=>(k:Int))))) (v5:=z) (by lia)
   have R:=Kn h1.lt;refine⟨[some (.sh (dM rs)),some (.owd (kd (t.foldl addN kn))),some (.ow ((PS++[t]).map (pA rs))),some (.sh (.int (i:Int))),some (.sh (dI (t.map λk:Nat=>(k:Int)))),L],?_,t.foldl addN kn,PS++[t],_,_,_,rfl,?_,?_,?_,?_,?_,KY l.nd,?_,?_⟩
   .simp_arith [xq,E,O,Q,R,l2,P,mBq,pA]
   .intro u y k r;rcases mAq.mp y with q|q
    .exact wR.mpr (.inl (l.sub u q k r))
    .rw [mSq.mp q]at r;exact wR.mpr (.inr r)
   .rw [List.pairwise_append];refine⟨l.dj,List.pairwise_singleton ..,λu y b U k r B=>c ?_⟩
    rw[mSq.mp U]at B;obtain⟨s,hs,M⟩:=l.pc u y;exact l.sub u y i ((M.iff i).mpr (((M.iff k).mp r).trans (((h1.iff k).mp B).symm G)))
   .intro u y;rcases mAq.mp y with q|q
    .exact l.pc u q
    .rw [mSq.mp q];exact⟨i,J,h1⟩
   .intro k r;rcases cu.mp r with q|rfl
    .exact wR.mpr (.inl (l.all k q))
    .exact wR.mpr (.inr ((h1.iff k).mpr .base))
   .intro k r;rcases wR.mp r with q|q
    .obtain ⟨u,a,b⟩:=l.mem k q;exact⟨u,mAq.mpr (.inl a),b⟩
    .exact ⟨t,mAq.mpr (.inr (mSq.mpr rfl)),q⟩
   .intro k r;rcases wR.mp r with q|q
    .exact l.lt k q
    .exact h1.lt k q
   .rw [lAq,lSq];lia)
 obtain⟨S',e,kn,PS,I,C,z,rfl,l⟩:=key;rw[pT]at l;have X:=xC (n:=rs.length) (by lia)
 refine⟨kn,PS,l,?_⟩
 simp_arith [zV,EZ,dM,X,e]
end K51
namespace K12
open PySem L2 Mr Z Xe Zl
abbrev gm(p:List (List Int)):List (List Int):=uf (p.map good)
theorem uN(p:List (List Int)):(gm p).Perm (p.map good):=qj _
end K12
namespace K11
open PySem L2 Mr Z Xe Zl K12
def B9(p:List (List Int)):Prop:=∀k,0<k->k<p.length->∃j e,j<k/\e∈p.getD j []/\-e∈p.getD k []
theorem BG{l:List (List Int)}{h:Nat}{r x:List Int}(hr:l[h]?=some r) {k:Nat}{e:Int}(n:e∈l.getD k []):e∈(l.set h (r++x)).getD k []:=by
 rw[gDq]at n ⊢
 by_cases q:h=k
 .subst q;have s:=(gSq.mp hr).1;rw[aQ s];rw[hr]at n;exact bQ _ n
 .rw [aG q];exact n
theorem Gh{l:List (List Int)}{h:Nat}{r x:List Int}(hr:l[h]?=some r) {e:Int}(s:e∈x):e∈(l.set h (r++x)).getD h []:=by
 have n:=(gSq.mp hr).1;rw[gDq,aQ n];exact aC _ s
theorem B9.set{l:List (List Int)}{h:Nat}{r x:List Int}(t:B9 l) (hr:l[h]?=some r):B9 (l.set h (r++x)):=λk h0 n=>by
 rw[lZq]at n;obtain⟨j,e,h1,h2,s⟩:=t k h0 n;exact⟨j,e,h1,BG hr h2,BG hr s⟩
theorem getD_app{l:List (List Int)}{x:List Int}{k:Nat}(h:k<l.length):(l++[x]).getD k []=l.getD k []:=by
 rw[gDq,gDq,gZq h]
theorem PN{l:List (List Int)}{x:List Int}:(l++[x]).getD l.length []=x:=by
 rw[gDq,gYq (ai _),dX];rfl
theorem B9.add{l:List (List Int)}{h:Nat}{e:Int}(t:B9 l) (hh:h<l.length) (n:e∈l.getD h []):B9 (l++[[-e]]):=λk h0 r=>by
 rw[lAq,lSq]at r
 by_cases q:k<l.length
 .obtain ⟨j,s,h1,h2,u⟩:=t k h0 q;exact⟨j,s,h1,by rw[getD_app (by lia)];exact h2,by rw[getD_app q];exact u⟩
 .have x:k=l.length:=by lia
  subst x;exact⟨h,e,hh,by rw[getD_app hh];exact n,by rw[PN];simp⟩
theorem Il(r:List Int):B9 [r]:=λk h0 l=>by
 rw[lSq]at l;lia
end K11
namespace K31
open PySem L2 Mr Z Xe Zl K12
theorem So(one two:Int):∃st sh a b:Int,1<=st/\st<=10 ^ 40/\0<=sh/\sh<10 ^ 40/\1<=a/\a<=66/\∀k:Nat,rO [.int one,.int two,.int (k:Int)]=some (.sh (.int (BC st sh a b k))):=by
 have C:0<=two % 66:=bC _ (by decide)
 have E:two % 66<66:=bE _ (by decide)
 have G:0<=one / 3 % 10 ^ 40:=bC _ (by decide)
 have H:one / 3 % 10 ^ 40<10 ^ 40:=bE _ (by decide)
 have y:0<=two / 66 % 10 ^ 40:=bC _ (by decide)
 have z:two / 66 % 10 ^ 40<10 ^ 40:=bE _ (by decide)
 have u:=λi:Int=>rz (i:=i) (j:=3) (by decide)
 have l:=λi:Int=>rz (i:=i) (j:=66) (by decide)
 have n:=λi:Int=>rz (i:=i) (j:=67) (by decide)
 have r:=λi:Int=>rz (i:=i) (j:=10 ^ 40) (by decide)
 have B:=λi:Int=>wJ (i:=i) (j:=3) (by decide) (by decide)
 have s:=λi:Int=>wJ (i:=i) (j:=66) (by decide) (by decide)
 have x:=λk:Nat=>LJ (i:=1+two % 66) (j:=(k:Int)) (by lia) (by lia)
 by_cases h0:0<one % 3
 .refine ⟨1+one / 3 % 10 ^ 40,two / 66 % 10 ^ 40,1+two % 66,one,by lia,by lia,y,z,by lia,by lia,λk=>?_⟩
  have b1:0<=((1+two % 66)*(k:Int)+one) % 67:=bC _ (by decide)
  have b2:((1+two % 66)*(k:Int)+one) % 67<67:=bE _ (by decide)
  have t:=LW (i:=1+one / 3 % 10 ^ 40) (j:=((1+two % 66)*(k:Int)+one) % 67+1) (by lia) (by lia)
  simp_arith [rO,Cg,h0,u,l,n,r,B,s,x,t,ZN,BC]
 .refine ⟨1,0,1+two % 66,one,by decide,by decide,by decide,by decide,by lia,by lia,λk=>?_⟩
  have b1:0<=((1+two % 66)*(k:Int)+one) % 67:=bC _ (by decide)
  have b2:((1+two % 66)*(k:Int)+one) % 67<67:=bE _ (by decide)
  have t:=LW (i:=1) (j:=((1+two % 66)*(k:Int)+one) % 67+1) (by lia) (by lia)
  simp_arith [rO,Cg,h0,u,l,n,x,t,BC]
theorem CN{T:List (List Int)}{h:Nat}{r:List Int}(hr:T[h]?=some r):qg (.ow (T.map aI)) [h]=some (r.map λn=>.sh (.int n)):=by
 rw[CP,gMq,hr];rfl
theorem RD{T:List (List Int)}{h:Nat}{r r':List Int}(hr:T[h]?=some r):uC (.ow (T.map aI)) [h] (r'.map λn=>.sh (.int n)) = .ow ((T.set h r').map aI):=by
 rw[Kx (a:=aI r) (by rw[gMq,hr];rfl)]
 show AV.ow ((T.map aI).set h (aI r'))=_;rw[PR]
structure Wd where
 T:List (List Int)
 t0:List Nat
 h:Nat
 loose:List Int
 left:List Int
noncomputable def B4(wild:Bool) (c:Int) (loose:List Int):Nat:=if wild then (c / 8 % loose.length).toNat else loose.length-1
def sg(c x:Int):Int:=x*(1-2*(c / 4 % 2))
def ux(wild:Bool) (w:Wd) (c:Int):Wd :=
 let r:=w.T.getD w.h []
 if c % 4=1/\w.t0≠[] then { w with t0:=w.t0.dropLast,h:=w.t0.getLast?.getD 0 }
 else if c % 4=2/\w.loose≠[] then { w with T:=w.T.set w.h (r++[w.loose.getD (B4 wild c w.loose) 0]),loose:=w.loose.eraseIdx (B4 wild c w.loose) }
 else match w.left with
  | []=>w
  |x::left=>if c % 4=0 then { w with T:=w.T.set w.h (r++[sg c x])++[[-(sg c x)]],t0:=w.t0++[w.h],h:=w.T.length,left:=left }
   else { w with T:=w.T.set w.h (r++[sg c x]),loose:=w.loose++[-(sg c x)],left:=left }
def st(v0 v1:Option AV) (wild:Bool) (w:Wd) (v7 v8 v9 v10:Option AV):AS:=[v0,v1,some (.sh (.bl wild)),some (.ow (w.T.map aI)),some (aI (cN (w.t0++[w.h]))),some (aI w.loose),some (aI w.left),v7,v8,v9,v10]
section
variable {T:List (List Int)}{t0:List Nat}{hd:Nat}{loose left r:List Int}{c:Int}{wild:Bool}{v0 v1 v8 v9 v10:Option AV}
theorem OL:atI ((cN (t0++[hd])).map D.int) (((t0++[hd]).length:Int)-1)=some (.int (hd:Int)):=by
 have:((t0++[hd]).length:Int)-1=(t0.length:Int):=by rw[lAq,lSq];lia
 rw[this];refine qE ?_;unfold cN;rw[mBq,mBq,gYq (by simp)]
 simp
theorem zT(l:List Nat):(cN l).length=l.length:=lMq ..
def OR:List Nat->MS:=(IM 3 (rA (oN Kh (tX qu (nD (nC 6) nV)) (rC (.int 0)))) (FY 3 (E9 10 (Tt CS (yP 6 (rC (.int 0))) (oN Dw (rC (.int 1)) (oN CS (rC (.int 2)) (oN tS (oN zS (nC 7) (rC (.int 4))) (rC (.int 2))))))) (λpath=>nW ((K1 3 (og 10)) path) (xH (rA (oN C0 (oN tS (nC 7) (rC (.int 4))) (rC (.int 0)))) (nW (yQ 3 (sJ (nQ (kSc (Cs vA (nC 10))) oB))) (yQ 4 (kSc (oN Dw (tX qu (nD (nC 3) nV)) (rC (.int 1)))))) (yQ 5 (kSc (Cs vA (nC 10))))))) (λ_=>qa))
def PX:List Nat->MS:=(IM 3 (FE (rA (oN C0 (oN tS (nC 7) (rC (.int 4))) (rC (.int 1)))) (rA (oN Kh (tX qu (nD (nC 4) nV)) (rC (.int 1))))) (λ_=>(G8 (Du 4))) (IM 3 (FE (rA (oN C0 (oN tS (nC 7) (rC (.int 4))) (rC (.int 2)))) (rA (oN Kh (tX qu (nD (nC 5) nV)) (rC (.int 0))))) (FY 3 (oD 9 (kSc (oN Dw (tX qu (nD (nC 5) nV)) (rC (.int 1))))) (FY 3 (xH (rA (nC 2)) (oD 9 (kSc (oN tS (oN zS (nC 7) (rC (.int 8))) (tX qu (nD (nC 5) nV))))) qa) (FL 3 (yP 5 (nC 9))))) OR))
theorem Ry:sA=(S7 8 3 (WI 3 (Nj 3) (oN CV (nC 4) (oN Dw (tX qu (nD (nC 4) nV)) (rC (.int 1))))) PX):=rfl
theorem OW(hr:T[hd]?=some r):sA (st v0 v1 wild ⟨T,t0,hd,loose,left⟩ (some (.sh (.int c))) v8 v9 v10)=PX [hd] (st v0 v1 wild ⟨T,t0,hd,loose,left⟩ (some (.sh (.int c))) none v9 v10):=by
 have hh:hd<T.length:=(gSq.mp hr).1;have n:=CN hr;have s:Hc T.length (hd:Int)=some hd:=GH hh;have t:=oh (cN (t0++[hd]));have l:=OL (t0:=t0) (hd:=hd);have cl:=zT (t0++[hd]);have q:((8:Nat)≠3/\8<11)=True:=by simp
 rw[Ry]
 simp_arith [st,n,s,t,dI,l,cl,q]
theorem SH{t:List Nat}{h':Nat}(hr:T[hd]?=some r) (h1:c % 4=1):PX [hd] (st v0 v1 wild ⟨T,t++[h'],hd,loose,left⟩ (some (.sh (.int c))) v8 v9 v10)=some (.nx (st v0 v1 wild ⟨T,t,h',loose,left⟩ (some (.sh (.int c))) v8 v9 v10)):=by
 have l:=rz (i:=c) (j:=4) (by decide)
 have s:=CN hr;have u:=oh (cN (t++[h']++[hd]));have cl:=zT (t++[h']++[hd]);have x:(1:Int)<((t++[h']++[hd]).length:Int):=by simp;lia
 have y:(cN (t++[h']++[hd])).map (λn=>AV.sh (.int n))=(cN (t++[h'])).map (λn=>AV.sh (.int n))++[.sh (.int (hd:Int))]:=(Mf (t++[h']) hd).symm
 have z:((cN (t++[h'])).map (λn=>AV.sh (.int n))++[AV.sh (.int (hd:Int))])[((cN (t++[h'])).map (λn=>AV.sh (.int n))++[AV.sh (.int (hd:Int))]).length-1]?=some (.sh (.int (hd:Int))):=by
  rw[lAq,lSq,gYq (by lia)]
  simp
 have B:((cN (t++[h'])).map (λn=>AV.sh (.int n))++[AV.sh (.int (hd:Int))]).dropLast=(cN (t++[h'])).map (λn=>AV.sh (.int n)):=dE
 simp_arith [PX,st,l,h1,s,u,dI,cl,x,eq_self,y,z,B]
theorem T8(hr:T[hd]?=some r) (J:r.length<500000) (L:loose.length<500000) (h1:¬ c % 4=1) (h2:c % 4=2) (t:loose≠[]):PX [hd] (st v0 v1 wild ⟨T,t0,hd,loose,left⟩ (some (.sh (.int c))) v8 v9 v10)=some (.nx (st v0 v1 wild ⟨T.set hd (r++[loose.getD (B4 wild c loose) 0]),t0,hd,loose.eraseIdx (B4 wild c loose),left⟩ (some (.sh (.int c))) v8 (some (.sh (.int (B4 wild c loose:Nat)))) v10)):=by
 have x:=rz (i:=c) (j:=4) (by decide)
 have M:=wJ (i:=c) (j:=8) (by decide) (by decide)
 have y:0<loose.length:=eU.mpr t;have O:=rz (i:=c / 8) (j:=(loose.length:Int)) (by lia)
 have z:=CN hr;have l1:r.length<qK:=by show _<16777216;lia
 have B:=oh loose;have C:(0:Int)<(loose.length:Int):=by lia
 have l:B4 wild c loose<loose.length:=by
  unfold B4;have P:0<=c / 8 % (loose.length:Int):=bC _ (by lia)
  have b1:c / 8 % (loose.length:Int)<(loose.length:Int):=bE _ (by lia)
  split <;> lia
 have Q:loose.length<=qK:=by show _<=16777216;lia
 have E:(loose.map λn=>AV.sh (.int n))[B4 wild c loose]?=some (.sh (.int (loose.getD (B4 wild c loose) 0))):=by
  rw[gMq,gEg l,gDq,gEg l];rfl
 have g2:(loose.map λn=>AV.sh (.int n)).eraseIdx (B4 wild c loose)=(loose.eraseIdx (B4 wild c loose)).map λn=>.sh (.int n):=OF _ _ _
 have G:=RD (r':=r++[loose.getD (B4 wild c loose) 0]) hr;have H:=Ei r (loose.getD (B4 wild c loose) 0);have q:(0<=((B4 wild c loose:Nat):Int)/\((B4 wild c loose:Nat):Int)<(loose.length:Int)/\loose.length<=qK)=True:=by simp[Q,l]
 have I:((B4 wild c loose:Nat):Int).toNat=B4 wild c loose:=cT _;have s:¬ (2:Int)=1:=by decide
 cases wild with
 |true =>
  have u:c / 8 % (loose.length:Int)=((B4 true c loose:Nat):Int):=by
   have P:0<=c / 8 % (loose.length:Int):=bC _ (by lia)
   show _=(((c / 8 % (loose.length:Int)).toNat:Nat):Int);lia
  simp_arith [PX,st,x,h2,s,z,B,dI,C,eq_self,M,O,u,q,I,E,g2,l1,H,G,true_and]
 |false =>
  have u:(loose.length:Int)-1=((B4 false c loose:Nat):Int):=by
   show _=((loose.length-1:Nat):Int);lia
  simp_arith [PX,st,x,h2,s,z,B,dI,C,eq_self,u,q,I,E,g2,l1,H,G,true_and]
theorem Q8(hr:T[hd]?=some r) (h1:¬ (c % 4=1/\t0≠[])) (h2:¬ (c % 4=2/\loose≠[])):PX [hd] (st v0 v1 wild ⟨T,t0,hd,loose,left⟩ (some (.sh (.int c))) v8 v9 v10)=OR [hd] (st v0 v1 wild ⟨T,t0,hd,loose,left⟩ (some (.sh (.int c))) v8 v9 v10):=by
 have l:=rz (i:=c) (j:=4) (by decide)
 have n:=CN hr;have s:=oh loose;have t:=oh (cN (t0++[hd]));have cl:=zT (t0++[hd]);have E:c % 4=1->decide ((1:Int)<((t0++[hd]).length:Int))=false:=λh=>by
  by_cases hn:t0=[]
  .subst hn;simp
  .exact absurd ⟨h,hn⟩ h1
 have G:c % 4=2->decide ((0:Int)<(loose.length:Int))=false:=λh=>by
  by_cases hn:loose=[]
  .subst hn;simp
  .exact absurd ⟨h,hn⟩ h2
 have u:¬ (2:Int)=1:=by decide
 have x:¬ (1:Int)=2:=by decide
 by_cases y:c % 4=1
 .have z:=E y
  simp_arith [PX,OR,st,l,y,x,n,s,t,cl,dI,z,eq_self]
 .by_cases B:c % 4=2
  .have C:=G B
   simp_arith [PX,OR,st,l,B,u,n,s,t,cl,dI,C,eq_self]
  .simp_arith [PX,OR,st,l,y,B,n,s,t,cl,dI,eq_self]
theorem Rr(hr:T[hd]?=some r):OR [hd] (st v0 v1 wild ⟨T,t0,hd,loose,[]⟩ (some (.sh (.int c))) v8 v9 v10)=some (.nx (st v0 v1 wild ⟨T,t0,hd,loose,[]⟩ (some (.sh (.int c))) v8 v9 v10)):=by
 have l:=CN hr;have n:decide ((0:Int)<((0:Nat):Int))=false:=by decide
 have s:=oh []
 simp_arith [OR,st,l,s,dI,n]
theorem Vg{x:Int}(hr:T[hd]?=some r) (t:r.length<500000) (u:T.length<500000) (y:t0.length<500000) (z:left.length<500000) (h0:c % 4=0):OR [hd] (st v0 v1 wild ⟨T,t0,hd,loose,x::left⟩ (some (.sh (.int c))) v8 v9 v10)=some (.nx (st v0 v1 wild ⟨T.set hd (r++[sg c x])++[[-(sg c x)]],t0++[hd],T.length,loose,left⟩ (some (.sh (.int c))) v8 v9 (some (.sh (.int (sg c x)))))):=by
 have B:=rz (i:=c) (j:=4) (by decide)
 have C:=wJ (i:=c) (j:=4) (by decide) (by decide)
 have E:=rz (i:=c / 4) (j:=2) (by decide)
 have U:0<=c / 4 % 2:=bC _ (by decide)
 have b1:c / 4 % 2<2:=bE _ (by decide)
 have G:=LJ (i:=2) (j:=c / 4 % 2) (by lia) (by lia)
 have H:=LW (i:=x) (j:=1-2*(c / 4 % 2)) (by lia) (by lia)
 have I:=CN hr;have J:=oh (x::left);have L:(0:Int)<((x::left).length:Int):=by rw[lCq];lia
 have n:(0:Int)<((left.length+1:Nat):Int):=by lia
 have l1:r.length<qK:=by show _<16777216;lia
 have q:(0:Int)<=0:=fB _;have M:left.length+1<=qK:=by show _<=16777216;lia
 have s:(0:Int).toNat=0:=rfl;have O:x*(1-2*(c / 4 % 2))=sg c x:=rfl;have P:=Ei r (sg c x);have Q:=RD (r':=r++[sg c x]) hr;have lT:(T.set hd (r++[sg c x])).length=T.length:=lZq;have l2:T.length<qK:=by show _<16777216;lia
 have R:=Ta (T.set hd (r++[sg c x])) (-(sg c x));have l:((T.set hd (r++[sg c x])++[[-(sg c x)]]).length:Int)-1=(T.length:Int):=by rw[lAq,lT,lSq];lia
 have lw:(t0++[hd]).length<qK:=by rw[lAq,lSq];show t0.length+1<16777216;lia
 have S:=Mf (t0++[hd]) T.length;have cl:=zT (t0++[hd])
 simp_arith [OR,st,B,h0,C,E,G,H,I,J,dI,L,n,q,M,true_and,s,O,eq_self,l1,P,Q,lT,l2,R,l,cl,lw,S,fm]
theorem QJ{x:Int}(hr:T[hd]?=some r) (s:r.length<500000) (t:loose.length<500000) (u:left.length<500000) (h0:¬ c % 4=0):OR [hd] (st v0 v1 wild ⟨T,t0,hd,loose,x::left⟩ (some (.sh (.int c))) v8 v9 v10)=some (.nx (st v0 v1 wild ⟨T.set hd (r++[sg c x]),t0,hd,loose++[-(sg c x)],left⟩ (some (.sh (.int c))) v8 v9 (some (.sh (.int (sg c x)))))):=by
 have y:=rz (i:=c) (j:=4) (by decide)
 have z:=wJ (i:=c) (j:=4) (by decide) (by decide)
 have B:=rz (i:=c / 4) (j:=2) (by decide)
 have Q:0<=c / 4 % 2:=bC _ (by decide)
 have b1:c / 4 % 2<2:=bE _ (by decide)
 have C:=LJ (i:=2) (j:=c / 4 % 2) (by lia) (by lia)
 have E:=LW (i:=x) (j:=1-2*(c / 4 % 2)) (by lia) (by lia)
 have G:=CN hr;have H:=oh (x::left);have I:(0:Int)<((x::left).length:Int):=by rw[lCq];lia
 have l:(0:Int)<((left.length+1:Nat):Int):=by lia
 have l1:r.length<qK:=by show _<16777216;lia
 have q:(0:Int)<=0:=fB _;have J:left.length+1<=qK:=by show _<=16777216;lia
 have n:(0:Int).toNat=0:=rfl;have L:x*(1-2*(c / 4 % 2))=sg c x:=rfl;have M:=Ei r (sg c x);have O:=RD (r':=r++[sg c x]) hr;have l2:loose.length<qK:=by show _<16777216;lia
 have P:=Ei loose (-(sg c x))
 simp_arith [OR,st,y,h0,z,B,C,E,G,H,dI,I,l,q,J,true_and,n,L,eq_self,l1,M,O,l2,P,fm]
end
noncomputable def vP(l:List Int):List Int:=l.flatMap λx=>[x, -x]
theorem Ej(x:Int) (l:List Int) (a:Int):(vP (x::l)).count a=[x, -x].count a+(vP l).count a:=by
 unfold vP;rw[bD,cAq]
theorem yW:∀l:List Int,(vP l).length=2*l.length
 | []=>rfl
 |x::l=>by
  unfold vP;have:=yW l;unfold vP at this;rw[bD,lAq,this];show 2+2*l.length=2*(l.length+1);lia
theorem Ha{l:List Int}{z:Int}:z∈vP l↔∃x∈l,z=x∨z = -x:=by
 unfold vP;rw[bM];simp
theorem OI(a c x:Int):[sg c x].count a+[-(sg c x)].count a=[x, -x].count a:=by
 have l:0<=c / 4 % 2:=bC _ (by decide)
 have b1:c / 4 % 2<2:=bE _ (by decide)
 rw[show [x, -x]=[x]++[-x] from rfl,cAq]
 unfold sg;have h:c / 4 % 2=0∨c / 4 % 2=1:=by lia
 rcases h with h|h
 .rw [h,show (1:Int)-2*0=1 from rfl,eA]
 .rw [h,show (1:Int)-2*1 = -1 from rfl,gT,eA,cY]
  lia
structure Sm (nm:List Int) (w:Wd) (n:Nat):Prop where
 hh:w.h<w.T.length
 ht:∀k∈w.t0,k<w.T.length
 lw:w.t0.length<=n
 lT:w.T.length<=n+1
 lf:w.left.length<=nm.length
 cnt:∀a,w.T.flatten.count a+w.loose.count a+(vP w.left).count a=(vP nm).count a
 tr:K11.B9 w.T
theorem Sm.len{nm:List Int}{w:Wd}{n:Nat}(h:Sm nm w n):w.T.flatten.length+w.loose.length+(vP w.left).length=2*nm.length:=by
 have:(w.T.flatten++w.loose++vP w.left).Perm (vP nm):=by
  rw[cI];intro a;rw[cAq,cAq];exact h.cnt a
 have:=this.length_eq;rw[lAq,lAq,yW nm]at this;exact this
theorem Sm.step{nm:List Int}{w:Wd}{n:Nat}{wild:Bool}(h:Sm nm w n) (c:Int):Sm nm (ux wild w c) (n+1):=by
 obtain⟨T,t0,hd,loose,left⟩:=w;obtain⟨hh,ht,lw,lT,lf,cnt,tr⟩:=h;simp only at hh ht lw lT lf cnt tr;have hr:T[hd]?=some (T.getD hd []):=by rw[gDq,gEg hh];rfl
 unfold ux;simp only;split
 .rename_i q;rcases eE t0 with z|⟨t,y,z⟩
  .exact absurd z q.2
  .subst z;rw[eF]at ht lw ⊢;rw[dE,gX];simp only[gC,iQ,cw];rw[lAq,lSq]at lw;exact⟨ht _ (by simp),λk l=>ht k (by simp[l]),(by simp only;lia),(by simp only;lia),lf,cnt,tr⟩
 .split
  .rename_i q;have s:0<loose.length:=eU.mpr q.2;have r:B4 wild c loose<loose.length:=by
    unfold B4;have B:0<=c / 8 % (loose.length:Int):=bC _ (by lia)
    have b1:c / 8 % (loose.length:Int)<(loose.length:Int):=bE _ (by lia)
    split <;> lia
   refine⟨?_,?_,?_,?_,lf,λa=>?_,?_⟩
   .simp only [lZq];exact hh
   .simp only [lZq];exact ht
   .simp only;lia
   .simp only [lZq];lia
   .simp only;rw[BU a hr,←cnt a,←B8 a r];lia
   .exact tr.set hr
  .cases left with
   |nil=>exact⟨hh,ht,(by simp only;lia),(by simp only;lia),lf,cnt,tr⟩
   |cons x left =>
    simp only;rw[lCq]at lf;have u:=λa=>Ej x left a
    split
    .refine ⟨?_,?_,?_,?_,(by simp only;lia),λa=>?_,?_⟩
     .simp only [lAq,lZq,lSq];lia
     .intro k l;simp only[lAq,lZq,lSq]at l ⊢;rcases mAq.mp l with l|l
      .have:=ht k l;lia
      .rw [mSq.mp l];lia
     .simp only [lAq,lSq];lia
     .simp only [lAq,lZq,lSq];lia
     .simp only;rw[fAq,aU,cAq,BU a hr];have:=cnt a;rw[u a,←OI a c x]at this;lia
     .exact (tr.set hr).add (by rw[lZq];exact hh) (K11.Gh hr (by simp))
    .refine ⟨?_,?_,?_,?_,(by simp only;lia),λa=>?_,?_⟩
     .simp only [lZq];exact hh
     .simp only [lZq];exact ht
     .simp only;lia
     .simp only [lZq];lia
     .simp only;rw[BU a hr,cAq];have:=cnt a;rw[u a,←OI a c x]at this;lia
     .exact tr.set hr
theorem MY{nm:List Int}{w:Wd}{n:Nat}{wild:Bool}{c:Int}{v0 v1 v8 v9 v10:Option AV}(h:Sm nm w n) (hn:n<1000) (G:nm.length<=1000):∃B C r,sA (st v0 v1 wild w (some (.sh (.int c))) v8 v9 v10)=some (.nx (st v0 v1 wild (ux wild w c) (some (.sh (.int c))) B C r)):=by
 have s:=h.len;obtain⟨T,t0,hd,loose,left⟩:=w;obtain⟨hh,ht,lw,lT,lf,cnt,tr⟩:=h;simp only at hh ht lw lT lf cnt tr s;have hr:T[hd]?=some (T.getD hd []):=by rw[gDq,gEg hh];rfl
 have E:=L6 hr;rw[OW hr];unfold ux;simp only
 by_cases u:c % 4=1/\t0≠[]
 .rw [pQ u];rcases eE t0 with z|⟨t,H,z⟩
  .exact absurd z u.2
  .subst z;rw[eF,dE,gX];simp only[gC,iQ,cw];exact⟨_,_,_,SH hr u.1⟩
 .rw [qk u]
  by_cases l:c % 4=2/\loose≠[]
  .rw [pQ l];exact⟨_,_,_,T8 hr (by lia) (by lia) (by have:=l.1;lia) l.1 l.2⟩
  .rw [qk l,Q8 hr u l];cases left with
   |nil=>exact⟨_,_,_,Rr hr⟩
   |cons x left =>
    simp only;rw[lCq]at lf
    by_cases y:c % 4=0
    .rw [pQ y];exact⟨_,_,_,Vg hr (by lia) (by lia) (by lia) (by lia) y⟩
    .rw [qk y];exact⟨_,_,_,QJ hr (by lia) (by lia) (by lia) y⟩
def w0(nm:List Int):Wd:=⟨[[]],[],0,[],nm⟩
theorem UD(nm:List Int):Sm nm (w0 nm) 0:=⟨by simp[w0],(λk h=>by cases h),ai _,ai _,ai _,(λa=>by simp[w0]),K11.Il _⟩
theorem Er{nm:List Int}{wild:Bool}:∀(cs:List Int) {w:Wd}{n:Nat},Sm nm w n->Sm nm (cs.foldl (ux wild) w) (n+cs.length)
 | [],w,n,h=>h
 |c::cs,w,n,h=>by
  have:=Er (wild:=wild) cs (h.step (wild:=wild) c);rw[bB,lCq,show n+(cs.length+1)=n+1+cs.length by lia]
  exact this
theorem Jv{nm cs:List Int}{wild:Bool}{v7 v8 v9 v10:Option AV}(u:cs.length<=63) (hn:nm.length<=1000):∃s n r l,sk 7 sA (cs.map D.int) (st (some (.sh (dI cs))) (some (.sh (dI nm))) wild (w0 nm) v7 v8 v9 v10)=some (.nx (st (some (.sh (dI cs))) (some (.sh (dI nm))) wild (cs.foldl (ux wild) (w0 nm)) s n r l)):=by
 have key:=tx (x:=7) (body:=sA) (λi S=>∃v7 v8 v9 v10,S=st (some (.sh (dI cs))) (some (.sh (dI nm))) wild ((cs.take i).foldl (ux wild) (w0 nm)) v7 v8 v9 v10) (ds:=cs.map D.int) (S:=st (some (.sh (dI cs))) (some (.sh (dI nm))) wild (w0 nm) v7 v8 v9 v10) ⟨v7,v8,v9,v10,rfl⟩ (by
  rintro i d S hd ⟨v7,v8,v9,v10,rfl⟩;rw[gMq]at hd;obtain⟨c,t,rfl⟩:=oMq.mp hd;have y:i<cs.length:=(gSq.mp t).1;have ok:=Er (nm:=nm) (wild:=wild) (cs.take i) (UD nm);rw[lTq]at ok;obtain⟨n,r,l,e⟩:=MY (wild:=wild) (c:=c) (v0:=some (.sh (dI cs))) (v1:=some (.sh (dI nm))) (v8:=v8) (v9:=v9) (v10:=v10) ok (by lia) hn
  refine⟨_,e,some (.sh (.int c)),n,r,l,?_⟩;rw[N2 t])
 obtain⟨z,e,s,n,r,l,rfl⟩:=key;rw[lMq,aZ]at e;exact⟨s,n,r,l,e⟩
theorem Nd{T:List (List Int)}{t0:List Nat}{hd:Nat}{loose left r:List Int}{wild:Bool}{v0 v1 v7 v8 v9 v10:Option AV}(hr:T[hd]?=some r) (hl:r.length+loose.length<=10000) :
  sj (rA (oN Kh (tX qu (nD (nC 5) nV)) (rC (.int 0)))) wj 100000 (st v0 v1 wild ⟨T,t0,hd,loose,left⟩ v7 v8 v9 v10)=some (.nx (st v0 v1 wild ⟨T.set hd (r++loose.reverse),t0,hd,[],left⟩ v7 v8 v9 v10)):=by
 have hh:hd<T.length:=(gSq.mp hr).1;obtain⟨H,e,l2,rfl,z⟩:=xj (c:=rA (oN Kh (tX qu (nD (nC 5) nV)) (rC (.int 0)))) (body:=wj)
  (λS=>∃l1 l2,S=st v0 v1 wild ⟨T.set hd (r++l2),t0,hd,l1,left⟩ v7 v8 v9 v10/\loose=l1++l2.reverse)
  (λS=>match S with|[_,_,_,_,_,some (.ow l),_,_,_,_,_]=>l.length|_=>0)
  (λH=>∃l2,H=st v0 v1 wild ⟨T.set hd (r++l2),t0,hd,[],left⟩ v7 v8 v9 v10/\loose=l2.reverse) (by
   rintro S ⟨l1,l2,rfl,u⟩;have s:=congrArg bp u;rw[lAq,cH]at s;rcases eE l1 with rfl|⟨l,x,rfl⟩
   .refine ⟨false,_,?_,λq=>(nomatch q),λ_=>⟨l2,rfl,by rw[u];rfl⟩⟩
    have y:decide ((0:Int)<((0:Nat):Int))=false:=by decide
    have B:=oh []
    simp_arith [st,B,dI,y]
   .rw [eF]at u s ⊢;have t:(T.set hd (r++l2))[hd]?=some (r++l2):=aQ hh;have I:=CN t;have J:Hc T.length (hd:Int)=some hd:=GH hh;have lT:(T.set hd (r++l2)).length=T.length:=lZq;have L:=oh (cN (t0++[hd]));have C:=OL (t0:=t0) (hd:=hd);have cl:=zT (t0++[hd]);have B:=oh (l++[x]);have y:(0:Int)<((l++[x]).length:Int):=by rw[lAq,lSq];lia
    have ex:(l++[x]).map (λn=>AV.sh (.int n))=l.map (λn=>AV.sh (.int n))++[.sh (.int x)]:=by rw[mBq];rfl
    have M:(l.map (λn=>AV.sh (.int n))++[AV.sh (.int x)])[(l.map (λn=>AV.sh (.int n))++[AV.sh (.int x)]).length-1]?=some (.sh (.int x)):=by
     rw[lAq,lSq,gYq (by lia)]
     simp
    have O:(l.map (λn=>AV.sh (.int n))++[AV.sh (.int x)]).dropLast=l.map (λn=>AV.sh (.int n)):=dE
    have P:=RD (r':=r++l2++[x]) t;have Q:=Ei (r++l2) x;have E:(r++l2).length<qK:=by
     rw[lAq,lSq]at s;rw[lAq];show _<16777216;lia
    have G:(T.set hd (r++l2)).set hd (r++l2++[x])=T.set hd (r++(l2++[x])):=by rw[fQ,aM]
    refine⟨true,st v0 v1 wild ⟨T.set hd (r++l2),t0,hd,l++[x],left⟩ v7 v8 v9 v10,?_,λ_=>⟨st v0 v1 wild ⟨T.set hd (r++(l2++[x])),t0,hd,l,left⟩ v7 v8 v9 v10,?_,⟨l,l2++[x],rfl,by rw[u];simp⟩,?_⟩,λq=>(nomatch q)⟩
    .simp_arith [st,B,dI,y]
    .simp_arith [wj,st,I,J,lT,L,dI,C,cl,ex,M,O,E,Q,P,G,eq_self,true_and]
    .show (l.map _).length<((l++[x]).map _).length;rw[lMq,lMq,lAq,lSq];lia) 100000 (st v0 v1 wild ⟨T,t0,hd,loose,left⟩ v7 v8 v9 v10) ⟨loose,[],by rw[aNq,Z.G6 hr],by simp⟩ (by
   show (loose.map _).length<100000;rw[lMq];lia)
 rw[e,z,gY]
def tw(wild:Bool) (nm cs:List Int):List (List Int):=(cs.foldl (ux wild) (w0 nm)).T.set (cs.foldl (ux wild) (w0 nm)).h ((cs.foldl (ux wild) (w0 nm)).T.getD (cs.foldl (ux wild) (w0 nm)).h []++(cs.foldl (ux wild) (w0 nm)).loose.reverse)
theorem QP{nm cs:List Int}{wild:Bool}(B:cs.length<=63) (hn:nm.length<=100):yz [dI cs,dI nm,.bl wild]=some (.ow ((tw wild nm cs).map aI))/\(∃left:List Int,∀a,(tw wild nm cs).flatten.count a+(vP left).count a=(vP nm).count a)/\K11.B9 (tw wild nm cs)/\0<(tw wild nm cs).length/\(tw wild nm cs).length<=64:=by
 obtain⟨u,x,y,l,e⟩:=Jv (nm:=nm) (wild:=wild) (v7:=none) (v8:=none) (v9:=none) (v10:=none) B (by lia)
 have ok:=Er (nm:=nm) (wild:=wild) cs (UD nm);rw[bh]at ok;unfold tw;generalize cs.foldl (ux wild) (w0 nm)=w at e ok;have s:=ok.len;obtain⟨T,t0,hd,loose,left⟩:=w;obtain⟨hh,ht,lw,lT,lf,cnt,tr⟩:=ok;simp only at hh ht lw lT lf cnt tr s ⊢;have hr:T[hd]?=some (T.getD hd []):=by rw[gDq,gEg hh];rfl
 have t:=L6 hr;generalize T.getD hd []=r at hr t;have C:=Nd (t0:=t0) (loose:=loose) (left:=left) (wild:=wild) (v0:=some (.sh (dI cs))) (v1:=some (.sh (dI nm))) (v7:=u) (v8:=x) (v9:=y) (v10:=l) hr (by lia)
 have z:sk 7 sA (cs.map D.int) [some (.sh (dI cs)),some (.sh (dI nm)),some (.sh (.bl wild)),some (.ow [.ow []]),some (.ow [.sh (.int 0)]),some (.ow []),some (aI nm),none,none,none,none]=some (.nx (st (some (.sh (dI cs))) (some (.sh (dI nm))) wild ⟨T,t0,hd,loose,left⟩ u x y l)):=e;refine⟨?_,⟨left,λa=>?_⟩,tr.set hr,by rw[lZq];lia,by rw[lZq];lia⟩
 .have E:((nm.map D.int).map AV.sh)=nm.map λn=>AV.sh (.int n):=by rw[mPq];rfl
  simp_arith [yz,DP,dI,E]
  simp -implicitDefEqProofs only [Z.Tg,de,dg,cz,cA,bJ,↓reduceIte,reduceCtorEq,dI]at z;rw[z]
  simp_arith [C]
  simp_arith [st]
 .rw [BU a hr,List.count_reverse,cnt a]
end K31
namespace K31
open PySem L2 Mr Z Xe Zl
noncomputable def rot(r:List Int) (e:Int):List Int:=r.drop (r.idxOf e)++r.take (r.idxOf e)
theorem rot_perm(r:List Int) (e:Int):(rot r e).Perm r:=by
 unfold rot;exact dt.trans (by rw[bq])
theorem rot_len(r:List Int) (e:Int):(rot r e).length=r.length:=(rot_perm r e).length_eq
theorem Bm{r:List Int}{e:Int}(s:e∈r) (hl:r.length<=500000):tD [dI r,.int e]=some (aI (rot r e)):=by
 have l:r.idxOf e<=r.length:=bZ (dN.mpr s);have t:B6 (dI r) [.int e]=some (.int (r.idxOf e:Nat)):=by
  show (qC (r.map D.int)).bind _=_;rw[qR];show (if _ then _ else _)=_
  rw[pQ s]
 have n:(r.drop (r.idxOf e)).length+(r.take (r.idxOf e)).length<=qK:=by rw[aO,lTq];show _<=16777216;lia
 simp_arith [tD,BP,t,zy,FM r _ l,Ao r _ l,n,←mBq,Dj]
 rfl
def zJ(rs:List (List Int)) (s:List (List Int)×List Nat) (o:Int):List (List Int)×List Nat:=if plc rs o∈s.2 then s else (s.1++[rot (rs.getD (plc rs o) []) o],s.2++[plc rs o])
def Jm(rs:List (List Int)):Nat->Nat->List (List Int)×List Nat->List (List Int)×List Nat
 |0,_,s=>s
 |f+1,i,s=>if i<s.1.flatten.length then Jm rs f (i+1) (zJ rs s (-(s.1.flatten.getD i 0))) else s
def Ar(rs:List (List Int)) (e:Int):List (List Int)×List Nat:=([rot (rs.getD (plc rs e) []) e],[plc rs e])
def rnd(rs:List (List Int)) (e:Int):List (List Int)×List Nat:=Jm rs 2000 0 (Ar rs e)
structure RI (rs:List (List Int)) (e:Int) (s:List (List Int)×List Nat) (i:Nat):Prop where
 pm:s.1.flatten.Perm (s.2.flatMap λp=>rs.getD p [])
 hd:∃Q,s.1=rot (rs.getD (plc rs e) []) e::Q
 nd:s.2.Nodup
 lt:∀p∈s.2,p<rs.length
 le:i<=s.1.flatten.length
 cl:∀j,j<i->plc rs (-(s.1.flatten.getD j 0))∈s.2
 ln:s.1.length=s.2.length
theorem NB{a b:List Int}{j:Nat}(h:j<a.length):(a++b).getD j 0=a.getD j 0:=by
 rw[gDq,gDq,gZq h]
theorem HA{g:Nat->List Int}:∀{ps l:List Nat},ps.Nodup->(∀p∈ps,p∈l)->(ps.flatMap g).length<=(l.flatMap g).length
 | [],l,_,_=>ba _
 |p::ps,l,hn,hs=>by
  have n:=aB.mp hn;have s:=List.perm_cons_erase (hs p (by simp))
  have h1:=HA (g:=g) (l:=l.erase p) n.2 λq r=>(dD (λz:q=p=>n.1 (z ▸ r))).mpr (hs q (by simp[r]))
  rw[(s.flatMap_right g).length_eq,bD,bD,lAq,lAq];lia
theorem Do(rs:List (List Int)):(aS rs.length).flatMap (λp=>rs.getD p [])=rs.flatten:=by
 have l:rs=(aS rs.length).map λp=>rs.getD p []:=by
  refine iB (by simp) λi a b=>?_
  simp[a]
 conv=>rhs;rw[l]
 rfl
theorem SY{ps:List Nat}{rs:List (List Int)}(hn:ps.Nodup) (hl:∀p∈ps,p<rs.length):(ps.flatMap λp=>rs.getD p []).length<=rs.flatten.length:=by
 rw[←Do];exact HA hn λp l=>aN.mpr (hl p l)
theorem RI.few{rs:List (List Int)}{e:Int}{s:List (List Int)×List Nat}{i:Nat}(h:RI rs e s i):s.1.flatten.length<=rs.flatten.length:=by
 rw[h.pm.length_eq];exact SY h.nd h.lt
theorem RI.mem{rs:List (List Int)}(t:Mp rs) {e:Int}{s:List (List Int)×List Nat}{i:Nat}(h:RI rs e s i) {x:Int}(l:x∈s.1.flatten):x∈rs.flatten/\plc rs x∈s.2:=by
 obtain⟨p,r,l⟩:=bM.mp (h.pm.mem_iff.mp l);have n:=h.lt p r;have hr:rs[p]?=some rs[p]:=gEg n;rw[gDq,hr,cw]at l;rw[plc_eq t.hn hr l];exact⟨mFq.mpr ⟨_,mGq hr,l⟩,r⟩
theorem RI.step{rs:List (List Int)}(r:Mp rs) {e:Int}{s:List (List Int)×List Nat}{i:Nat}(h:RI rs e s i) (t:i<s.1.flatten.length):RI rs e (zJ rs s (-(s.1.flatten.getD i 0))) (i+1):=by
 have B:s.1.flatten.getD i 0∈s.1.flatten:=by
  rw[gDq,gEg t];exact gRq t
 obtain⟨C,I⟩:=h.mem r B;have u:=r.lt (r.hneg _ C);unfold zJ;split
 .rename_i q;refine⟨h.pm,h.hd,h.nd,h.lt,t,λj E=>?_,h.ln⟩
  by_cases l:j<i
  .exact h.cl j l
  .have:j=i:=by lia
   subst this;exact q
 .rename_i q;obtain⟨Q,G⟩:=h.hd;refine⟨?_,⟨Q++[_],by rw[G];rfl⟩,?_,?_,?_,λj E=>?_,by simp[h.ln]⟩
  .simp only [fAq,aU,cJ,gM];exact h.pm.append (rot_perm _ _)
  .exact nAq.mpr ⟨h.nd,by simp,λa H b y z=>q (by rw[mSq]at y;rw[←y,←z];exact H)⟩
  .intro p n;rcases mAq.mp n with n|n
   .exact h.lt p n
   .rw [mSq.mp n];exact u
  .simp only [fAq,lAq];lia
  .simp only [fAq,aU];have x:j<s.1.flatten.length:=by lia
   rw[NB x]
   by_cases l:j<i
   .exact bQ _ (h.cl j l)
   .have:j=i:=by lia
    subst this;exact aC _ (by simp)
theorem Dr{rs:List (List Int)}(n:Mp rs) {e:Int}(r:e∈rs.flatten):RI rs e (Ar rs e) 0:=by
 refine⟨?_,⟨[],rfl⟩,by simp[Ar],?_,ba _,λj s=>absurd s (bK _),rfl⟩
 .simp only [Ar,aU,gM];exact rot_perm _ _
 .intro p l;simp only[Ar,mSq]at l;rw[l];exact n.lt r
theorem Os{rs:List (List Int)}(l:Mp rs) {e:Int}:∀(f:Nat) {i:Nat}{s:List (List Int)×List Nat},RI rs e s i->rs.flatten.length-i<f->RI rs e (Jm rs f i s) (Jm rs f i s).1.flatten.length
 |0,i,s,h,n=>absurd n (bK _)
 |f+1,i,s,h,n=>by
  unfold Jm;split
  .rename_i q;have:=h.few;exact Os l f (h.step l q) (by lia)
  .have:i=s.1.flatten.length:=by have:=h.le;lia
   subst this;exact h
theorem Cz{rs:List (List Int)}(l:Mp rs) {e:Int}(n:e∈rs.flatten):RI rs e (rnd rs e) (rnd rs e).1.flatten.length:=Os l 2000 (Dr l n) (by have:=l.hl;lia)
def Ul(Q:List (List Int)):AV:=.ow (Q.map λr=>.sh (dI r))
def HY(rs:List (List Int)) (e:Int) (s:List (List Int)×List Nat) (i:Nat) (v7 v8:Option AV):AS:=[some (.sh (dM rs)),some (.sh (.int e)),some (.owd (oU 0 rs)),some (Ul s.1),some (aI s.1.flatten),some (.owd (kd s.2)),some (.sh (.int (i:Int))),v7,v8]
theorem FI(Q:List (List Int)):(Q.map λr=>AV.sh (dI r)).map oa=Q.map dI:=by
 rw[mPq];rfl
theorem Jo{ks:List Nat}{t:Nat}(h:t∉ks):vH (kd ks) (ao (t:Int)) (.bl true)=kd (ks++[t]):=by
 rw[kd_put2];unfold addN;rw[qk h]
theorem Kw{rs:List (List Int)}(l:Mp rs) {e:Int}{s:List (List Int)×List Nat}{i:Nat}{v7 v8:Option AV}(h:RI rs e s i) (z:i<s.1.flatten.length):∃B C,mb_round_turns_0 (HY rs e s i v7 v8)=some (.nx (HY rs e (zJ rs s (-(s.1.flatten.getD i 0))) (i+1) B C)):=by
 have M:s.1.flatten.getD i 0∈s.1.flatten:=by
  rw[gDq,gEg z];exact gRq z
 obtain⟨O,U⟩:=h.mem l M;have hn:=l.hneg _ O;have E:=l.lt hn;have few:=h.few;have hl:=l.hl;have X:=l.hr;have Y:=K51.Oe _ _ h.nd h.lt;have ln:=h.ln;obtain⟨Q,u⟩:=s;simp only at z M O U hn E few Y ln h ⊢;have y:atI (Q.flatten.map D.int) (i:Int)=some (.int (Q.flatten.getD i 0)):=qE (by rw[gMq,gDq,gEg z];rfl)
 have P:=oh Q.flatten;generalize hx0:Q.flatten.getD i 0=x at *;have kv:=l.kv hn;have R:=kd_get u (plc rs (-x));refine⟨some (.sh (.int (-x))),some (.sh (.int (plc rs (-x):Int))),?_⟩;have S:((i+1:Nat):Int)=(i:Int)+1:=by lia
 unfold zJ
 by_cases q:plc rs (-x)∈u
 .have t:(Z.getD (kd u) (ao (plc rs (-x):Int))).isSome=true:=by rw[R];simp[q]
  simp only[q,if_true]
  simp_arith [mb_round_turns_0,HY,Ul,P,dI,y,kv,t,S]
 .have t:(Z.getD (kd u) (ao (plc rs (-x):Int))).isSome=false:=by rw[R];simp[q]
  simp only[q,if_false];obtain⟨r,hr,G⟩:=l.at hn;have gr:rs.getD (plc rs (-x)) []=r:=by rw[gDq,hr];rfl
  have rl:=l.row hr;have tf:=Bm G (by lia)
  have H:atI (rs.map dI) (plc rs (-x):Int)=some (dI r):=qE (by rw[gMq,hr];rfl)
  have kn:=Jo q;have kl:(kd u).length<qK:=by unfold kd;rw[lMq];show _<16777216;lia
  have lQ:Q.length<qK:=by show _<16777216;lia
  have sQ:=FI Q;have e1:(Q.map λr=>AV.sh (dI r))++[aI (rot r (-x))]=(Q.map λr=>AV.sh (dI r))++[.ow ((rot r (-x)).map λn=>.sh (.int n))]:=rfl
  have s1:((Q.map λr=>AV.sh (dI r))++[aI (rot r (-x))]).map oa=(Q++[rot r (-x)]).map dI:=by
   rw[mBq,sQ,mBq];show _++[oa (aI (rot r (-x)))]=_;rw[oh];rfl
  have I:atI ((Q++[rot r (-x)]).map dI) (-1)=some (dI (rot r (-x))):=by rw[mBq];exact Hk _ _
  have J:=rot_len r (-x);have lE:Q.flatten.length+(rot r (-x)).length<=qK:=by rw[J];show _<=16777216;lia
  have e4:(Q.flatten.map λn=>AV.sh (.int n))++((rot r (-x)).map D.int).map AV.sh=(Q.flatten++rot r (-x)).map λn=>.sh (.int n):=by rw[mBq,mPq];rfl
  have L:(Q.flatten.map λn=>AV.sh (.int n))++((rot r (-x)).map λn=>AV.sh (.int n))=(Q.flatten++rot r (-x)).map λn=>.sh (.int n):=mBq.symm
  have e5:(Q++[rot r (-x)]).flatten=Q.flatten++rot r (-x):=by simp
  have e6:((Q++[rot r (-x)]).map dI).map AV.sh=(Q++[rot r (-x)]).map λr=>AV.sh (dI r):=by rw[mPq];rfl
  have t1:(dI (rot r (-x))) = .list ((rot r (-x)).map D.int):=rfl;rw[gr]
  simp_arith [mb_round_turns_0,HY,Ul,P,y,kv,t,S,kn,kl,lQ,dM,H,tf,s1,I,e6,t1,lE,e4,L,e5]
theorem KC{rs:List (List Int)}(n:Mp rs) {e:Int}(y:e∈rs.flatten):∃i v7 v8,sj (rA (oN Si (nC 6) (tX qu (nD (nC 4) nV)))) mb_round_turns_0 100000 (HY rs e (Ar rs e) 0 none none)=some (.nx (HY rs e (rnd rs e) i v7 v8)):=by
 have hl:=n.hl;obtain⟨u,z,i,v7,v8,rfl⟩:=xj (c:=rA (oN Si (nC 6) (tX qu (nD (nC 4) nV)))) (body:=mb_round_turns_0)
  (λS=>∃s i v7 v8,S=HY rs e s i v7 v8/\RI rs e s i/\Jm rs (2000-i) i s=rnd rs e)
  (λS=>match S with|[_,_,_,_,_,_,some (.sh (.int i)),_,_]=>2000-i.toNat|_=>0)
  (λu=>∃i v7 v8,u=HY rs e (rnd rs e) i v7 v8) (by
   rintro S ⟨s,i,v7,v8,rfl,h,l⟩;have few:=h.few;have x:=oh s.1.flatten
   by_cases r:i<s.1.flatten.length
   .have t:(i:Int)<(s.1.flatten.length:Int):=by lia
    obtain⟨B,C,E⟩:=Kw n (v7:=v7) (v8:=v8) h r;refine⟨true,HY rs e s i v7 v8,?_,λ_=>⟨_,E,⟨_,_,_,_,rfl,h.step n r,?_⟩,?_⟩,λq=>(nomatch q)⟩
    .simp_arith [HY,x,dI,t]
    .rw [show 2000-i=(2000-(i+1))+1 by lia]at l
     unfold Jm at l;rw[pQ r]at l;exact l
    .show 2000-((i+1:Nat):Int).toNat<2000-(i:Int).toNat;lia
   .have t:¬ (i:Int)<(s.1.flatten.length:Int):=by lia
    refine⟨false,HY rs e s i v7 v8,?_,λq=>(nomatch q),λ_=>⟨i,v7,v8,?_⟩⟩
    .simp_arith [HY,x,dI,t]
    .have:Jm rs (2000-i) i s=s:=by
      cases 2000-i with
      |zero=>rfl
      |succ f =>
       unfold Jm;rw[qk r]
     rw[←l,this]) 100000 (HY rs e (Ar rs e) 0 none none) ⟨_,_,_,_,rfl,Dr n y,rfl⟩ (by
   show 2000-(0:Int).toNat<100000;lia)
 exact⟨i,v7,v8,z⟩
theorem IB(Q:List (List Int)):oa (Ul Q)=dM Q:=by
 unfold Ul;rw[tL,FI]
structure Nm (nm:List Int):Prop where
 len:nm.length<=31
 nd:nm.Nodup
 lo:∀x∈nm,1<=x
structure Wm (nm:List Int) (T:List (List Int)):Prop where
 cnt:∃left,∀a,T.flatten.count a+(vP left).count a=(vP nm).count a
 tr:K11.B9 T
 pos:0<T.length
 len:T.length<=63
theorem E7{nm:List Int}(h:Nm nm):(vP nm).Nodup:=K12.BO h.nd h.lo
theorem bth_neg(l:List Int) (a:Int):(vP l).count (-a)=(vP l).count a:=by
 induction l with
 |nil=>rfl
 |cons x l n =>
  rw[Ej,Ej,n];congr 1;rw[show [x, -x]=[x]++[-x] from rfl,cAq,cAq]
  simp only[List.count_singleton];have r:(x == -a)=(-x == a):=by rw[bx];simp <;> lia
  have s:(-x == -a)=(x == a):=by rw[bx];simp <;> lia
  rw[r,s];lia
theorem Wm.nodup{nm:List Int}{T:List (List Int)}(hn:Nm nm) (h:Wm nm T):T.flatten.Nodup:=by
 obtain⟨left,l⟩:=h.cnt;rw[dF];intro a;have h1:=dF.mp (E7 hn) a;have:=l a;lia
theorem Wm.neg{nm:List Int}{T:List (List Int)}(hn:Nm nm) (h:Wm nm T) {z:Int}(n:z∈T.flatten):-z∈T.flatten:=by
 obtain⟨left,l⟩:=h.cnt;have h1:=cS.mpr n;have h2:=dF.mp (E7 hn) z;have s:=l z;have r:=l (-z);rw[bth_neg,bth_neg]at r;exact cS.mp (by lia)
theorem Wm.le{nm:List Int}{T:List (List Int)}(h:Wm nm T):T.flatten.length<=2*nm.length:=by
 obtain⟨left,l⟩:=h.cnt;have:(T.flatten++vP left).Perm (vP nm):=by
  rw[cI];intro a;rw[cAq];exact l a
 have:=this.length_eq;rw[lAq,yW nm]at this;lia
abbrev gm:=K12.gm
theorem za(T:List (List Int)):(gm T).flatten.Perm T.flatten:=(yT (K12.uN T)).trans (tV si T)
theorem Cw(T:List (List Int)):(gm T).length=T.length:=by rw[(K12.uN T).length_eq,lMq]
theorem Wm.mp{nm:List Int}{T:List (List Int)}(hn:Nm nm) (h:Wm nm T):Mp (gm T):=by
 have pf:=za T;have:=h.le;have:=hn.len;have:=h.len;refine⟨pf.nodup_iff.mpr (h.nodup hn),by rw[pf.length_eq];lia,by rw[Cw];lia,λe l=>pf.mem_iff.mpr (h.neg hn (pf.mem_iff.mp l))⟩
def sV(rs:List (List Int)):Prop:=∀P:Nat->Prop,(∃s,s<rs.length/\P s)->(∀(p:Nat) (r:List Int) (x:Int),rs[p]?=some r->x∈r->P p->P (plc rs (-x)))->∀q,q<rs.length->P q
theorem Hl{T:List (List Int)}(n:Mp (gm T)) {r:List Int}(hr:r∈T):∃p,(gm T)[p]?=some (good r)/\∀x∈r,plc (gm T) x=p:=by
 have h1:good r∈gm T:=(K12.uN T).mem_iff.mpr (mMq.mpr ⟨r,hr,rfl⟩);obtain⟨p,l⟩:=ay.mp h1;exact⟨p,l,λx s=>plc_eq n.hn l ((si r).mem_iff.mpr s)⟩
theorem Wm.conn{nm:List Int}{T:List (List Int)}(hn:Nm nm) (h:Wm nm T):sV (gm T):=by
 intro P ⟨s,X,Y⟩ hc q G;have M:=h.mp hn
 by_cases h1:T.length=1
 .rw [Cw,h1]at X G;have:q=s:=by lia
  rw[this];exact Y
 have hpos:=h.pos;have C:∀k,k<T.length->∃z,z∈T.getD k []:=λk l=>by
  by_cases t:k=0
  .subst t;obtain⟨j,e,H,a,b⟩:=h.tr 1 (by lia) (by lia)
   have:j=0:=by lia
   subst this;exact⟨e,a⟩
  .obtain ⟨j,e,H,a,b⟩:=h.tr k (by lia) l
   exact⟨_,b⟩
 have x:∀k,k<T.length->T.getD k []∈T:=λk l=>by
  rw[gDq,gEg l];exact gRq l
 have y:∀k,k<T.length->∀z,z∈T.getD k []->z∈(gm T).flatten:=λk l z n=>(za T).mem_iff.mpr (mFq.mpr ⟨_,x k l,n⟩)
 have same:∀k,k<T.length->∀z w,z∈T.getD k []->w∈T.getD k []->P (plc (gm T) z)->P (plc (gm T) w):=λk l z w n O L=>by
  obtain⟨p,_,I⟩:=Hl M (x k l);rw[I w O];rw[I z n]at L;exact L
 have u:∀z,z∈(gm T).flatten->P (plc (gm T) z)->P (plc (gm T) (-z)):=λz n L=>by
  obtain⟨r,hr,hx⟩:=M.at n;exact hc _ r z hr hx L
 have J:(∀z,z∈T.getD 0 []->P (plc (gm T) z))->∀k,k<T.length->∀z,z∈T.getD k []->P (plc (gm T) z):=λh0 k=>by
  induction k using gL with
  |ind k Q =>
   intro l z n
   by_cases t:k=0
   .subst t;exact h0 z n
   .obtain ⟨j,e,H,a,b⟩:=h.tr k (by lia) l
    exact same k l _ z b n (u e (y j (by lia) e a) (Q j H (by lia) e a))
 have up:∀k,k<T.length->(∀z,z∈T.getD k []->P (plc (gm T) z))->∀z,z∈T.getD 0 []->P (plc (gm T) z):=λk=>by
  induction k using gL with
  |ind k Q =>
   intro l n
   by_cases t:k=0
   .subst t;exact n
   .obtain ⟨j,e,H,a,b⟩:=h.tr k (by lia) l
    have p1:=u (-e) (y k l _ b) (n _ b);rw[cY]at p1;exact Q j H (by lia) λz E=>same j (by lia) e z a E p1
 have B:∀q,q<(gm T).length->∃k,k<T.length/\∃z,z∈T.getD k []/\plc (gm T) z=q:=λq G=>by
  have hr:=gEg G;obtain⟨r,R,e⟩:=mMq.mp ((K12.uN T).mem_iff.mp (gRq G));obtain⟨k,l,e2⟩:=cC.mp R;have e3:T.getD k []=r:=by rw[gDq,gEg l,e2];rfl
  obtain⟨z,n⟩:=C k l;refine⟨k,l,z,n,plc_eq M.hn hr ?_⟩;rw[←e];exact(si r).mem_iff.mpr (e3 ▸ n)
 obtain⟨k,l,z,n,ez⟩:=B s X;have z0:=up k l λw O=>same k l z w n O (by rw[ez];exact Y)
 obtain⟨k',S,z',E,U⟩:=B q G;have:=J z0 k' S z' E;rw[U]at this;exact this
theorem Ap{rs:List (List Int)}(C:Mp rs) (E:sV rs) {e:Int}(G:e∈rs.flatten):(rnd rs e).2.Perm (aS rs.length)/\(rnd rs e).1.flatten.Perm rs.flatten:=by
 have h:=Cz C G;have all:∀q,q<rs.length->q∈(rnd rs e).2:=E (λp=>p∈(rnd rs e).2) (by
   obtain⟨Q,H⟩:=h.hd;have h1:(rnd rs e).2≠[]:=λz=>by
    have:=h.ln;rw[H,z]at this;simp at this
   obtain⟨p,l,s⟩:=List.exists_cons_of_ne_nil h1;exact⟨p,h.lt p (by rw[s];simp),by rw[s];simp⟩) (λp r x hr I s=>by
   have u:x∈(rnd rs e).1.flatten:=h.pm.mem_iff.mpr (bM.mpr ⟨p,s,by rw[gDq,hr];exact I⟩)
   obtain⟨j,y,J⟩:=cC.mp u;have:=h.cl j y;rw[gDq,gEg y,cw,J]at this;exact this)
 have B:(rnd rs e).2.Perm (aS rs.length):=by
  rw[cI];intro a
  by_cases t:a<rs.length
  .have L:=dF.mp h.nd a;have M:=cS.mpr (all a t);have O:=dF.mp (iE (n:=rs.length)) a;have P:=cS.mpr (aN.mpr t);lia
  .rw [fK λz=>t (h.lt a z),fK λz=>t (aN.mp z)]
 refine⟨B,h.pm.trans ((B.flatMap_right _).trans ?_)⟩;rw[Do]
end K31
namespace K31
open PySem L2 Mr Z Xe Zl
open K12 (BC LG)
def tj(st sh a b:Int) (n:Nat):List Int:=(aS n).map λk:Nat=>BC st sh a b k
theorem Rw{st sh a b:Int}(h1:1<=st) (h2:0<=sh) (k:Nat):1<=BC st sh a b k:=by
 have b1:0<=(a*(k:Int)+b) % 67:=bC _ (by decide)
 have l1:1*1<=st*((a*(k:Int)+b) % 67+1):=Int.mul_le_mul h1 (by lia) (by decide) (by lia)
 show 1<=st*((a*(k:Int)+b) % 67+1)+sh;lia
theorem VY{st sh a b:Int}{n:Nat}(hn:n<=31) (h1:1<=st) (h2:0<=sh) (l:1<=a) (r:a<=66):Nm (tj st sh a b n):=by
 refine⟨by unfold tj;rw[lMq,aD];lia,?_,λx h=>?_⟩
 .unfold tj;rw[az,aF];refine bj.imp_of_mem (λ{x y} hx hy hne e=>hne (LG h1 l r (by have:=aN.mp hx;lia) (by have:=aN.mp hy;lia) e)) (az.mp iE)
 .obtain ⟨k,_,rfl⟩:=mMq.mp h;exact Rw h1 h2 k
end K31
namespace K33
open PySem L2 Mr Z Xe Zl
theorem rot_at{u v:List Int}{o:Int}(h:o∉u):K31.rot (u++o::v) o=o::v++u:=by
 have e:(u++o::v).idxOf o=u.length:=by
  rw[ir,qk h,eI,bh]
 unfold K31.rot;rw[e,fW,fq]
theorem Lr{f:Int->Int}:∀{l:List Int}{x:Int},(∀y∈l,f y=f x->y=x)->(l.map f).idxOf (f x)=l.idxOf x
 | [],x,_=>rfl
 |y::l,x,h=>by
  rw[ax,fL,fL,Lr λz n=>h z (mCo _ n)]
  have e:(f y == f x)=(y == x):=by
   rw[bx];simp only[beq_iff_eq];exact⟨h y (by simp),λq=>by rw[q]⟩
  rw[e]
structure Ren (f:Int->Int) (E:List Int):Prop where
 odd:∀x∈E,f (-x) = -(f x)
 inj:∀x∈E,∀y∈E,f x=f y->x=y
section
variable {f:Int->Int}{R:List (List Int)}
noncomputable abbrev En(f:Int->Int) (R:List (List Int)):List (List Int):=R.map λt=>t.map f
theorem D5(f:Int->Int) (R:List (List Int)):(En f R).flatten=R.flatten.map f:=by
 unfold En;rw[iF]
theorem Gu{f:Int->Int}:∀{E:List Int},E.Nodup->(∀x∈E,∀y∈E,f x=f y->x=y)->(E.map f).Nodup
 | [],_,_=>aY
 |x::E,hn,h=>by
  have l:=aB.mp hn;rw[ax,aB];refine⟨λz=>?_,Gu l.2 λa r b s=>h a (mCo _ r) b (mCo _ s)⟩
  obtain⟨y,n,e⟩:=mMq.mp z;have:=h y (mCo _ n) x (by simp) e
  exact l.1 (this ▸ n)
theorem Yc{R:List (List Int)}(hn:R.flatten.Nodup) (hl:R.flatten.length<=63) (hr:R.length<=63) (hneg:∀e∈R.flatten, -e∈R.flatten):Mp (K31.gm R):=by
 have pf:=K31.za R;exact⟨pf.nodup_iff.mpr hn,by rw[pf.length_eq];exact hl,by rw[K31.Cw];exact hr,λe l=>pf.mem_iff.mpr (hneg e (pf.mem_iff.mp l))⟩
theorem Kl{R:List (List Int)}(hn:R.flatten.Nodup) {t:List Int}(ht:t∈R):t.Nodup:=hn.sublist (aK ht)
noncomputable def code(Q:List (List Int)):List (List Int):=Q.map λr=>r.map λx=>(Q.flatten.idxOf (-x):Int)
theorem P3{Q:List (List Int)}(hr:Ren f Q.flatten) (hneg:∀x∈Q.flatten, -x∈Q.flatten):code (En f Q)=code Q:=by
 unfold code;rw[D5];unfold En;rw[mPq];refine mCq λr n=>?_
 show (r.map f).map _=_;rw[mPq];refine mCq λx s=>?_
 have l:x∈Q.flatten:=mFq.mpr ⟨r,n,s⟩;show (((Q.flatten.map f).idxOf (-(f x)):Nat):Int)=_;rw[←hr.odd x l,Lr λy t e=>hr.inj y t (-x) (hneg x l) e]
end
noncomputable abbrev cR(r:List Int):D:=.tup (r.map .int)
abbrev cD(c:List (List Int)):D:=.tup (c.map cR)
def tRow(r:List Int):PyData:=.tuple (r.map .int)
theorem Zr(r:List Int):py (cR r)=some (tRow r):=by
 show py (.tup _)=_;simp only[py,IJ];rfl
theorem Ye(c:List (List Int)):Fy (c.map cR)=some (c.map tRow):=by
 induction c with
 |nil=>simp[Fy]
 |cons r l n =>
  show Fy (cR r::l.map cR)=_;simp only[Fy,Zr,n];rfl
theorem W3(c:List (List Int)):py (cD c)=some (.tuple (c.map tRow)):=by
 show py (.tup _)=_;simp only[py,Ye];rfl
theorem LV:∀c:List (List Int),PyData.depthAll (c.map tRow)<=2
 | []=>by simp[PyData.depthAll]
 |r::c=>by
  have h1:=W.depthAll_ints r;have h2:=LV c;simp only[ax,PyData.depthAll,tRow,PyData.depth];lia
theorem Ux:∀c:List (List Int),PyData.canLayAll0 (c.map tRow)=true
 | []=>by simp[PyData.canLayAll0]
 |r::c=>by
  have h1:=W.canLayAll0_ints r;have h2:=Ux c;simp only[ax,PyData.canLayAll0,tRow,PyData.canLay0];simp[h1,h2]
theorem Hq(c:List (List Int)):SeqAt.shaped (.tuple (c.map tRow))=true:=by
 have h1:=LV c;have h2:PyData.depth (.tuple (c.map tRow))<=64:=by simp only[PyData.depth];lia
 show (PyData.canLay0 (.tuple (c.map tRow)) && decide (PyData.depth (.tuple (c.map tRow))<=64))=true;rw[gv];exact⟨by simp only[PyData.canLay0];exact Ux c,decide_eq_true h2⟩
theorem noMix_C:∀rs l:List (List Int),SeqAt.noMixAll (rs.map tRow) (l.map tRow)=true
 | [],[]=>by simp[SeqAt.noMixAll]
 | [],_::_=>by simp[SeqAt.noMixAll]
 |_::_,[]=>by simp[SeqAt.noMixAll]
 |r::rs,t::l=>by simp[SeqAt.noMixAll,tRow,SeqAt.noMix,W.noMix_ints r t,noMix_C rs l]
theorem same_C:∀rs l:List (List Int),PySem.Spec.sameAll (rs.map tRow) (l.map tRow)=decide (rs=l)
 | [],[]=>by simp[PySem.Spec.sameAll]
 | [],_::_=>by simp[PySem.Spec.sameAll]
 |_::_,[]=>by simp[PySem.Spec.sameAll]
 |r::rs,t::l=>by
  simp only[ax,PySem.Spec.sameAll,tRow,PySem.Spec.same,W.same_ints r t];rw[same_C rs l]
  by_cases h:r=t <;> simp[h]
theorem UT(c e:List (List Int)):wZ (cD c) (cD e)=some (.bl (decide (c=e))):=by
 unfold wZ;rw[W3,W3];show (if _ then _ else _)=_
 rw[pQ ⟨Hq c,Hq e,by simp only[SeqAt.noMix];exact noMix_C c e⟩]
 simp only[PySem.Spec.same,same_C]
noncomputable def Ey:Nat->List Int->List (oq×D)
 |_,[]=>[]
 |k,x::l=>((ao x:oq),D.int (k:Int))::Ey (k+1) l
theorem HB(x:Int):∀(l:List Int) (k:Nat),Ey k (l++[x])=Ey k l++[((ao x:oq),D.int ((k+l.length:Nat):Int))]
 | [],k=>by simp[Ey]
 |y::l,k=>by
  show _::Ey (k+1) (l++[x])=(_::Ey (k+1) l)++_;rw[HB x l (k+1),lCq,show k+1+l.length=k+(l.length+1) by lia]
  rfl
theorem Ea:∀(l:List Int) (k:Nat),(Ey k l).map (·.1)=l.map ao
 | [],k=>rfl
 |y::l,k=>by
  show _::(Ey (k+1) l).map (·.1)=_;rw[Ea l (k+1)];rfl
theorem Sx(l:List Int) (k:Nat):(Ey k l).length=l.length:=by
 have:=congrArg bp (Ea l k)
 rwa [lMq,lMq]at this
theorem LI{x:Int}:∀{l:List Int}{k:Nat},x∈l->Z.getD (Ey k l) (.inl x)=some (.int ((k+l.idxOf x:Nat):Int))
 | [],k,h=>by cases h
 |y::l,k,h=>by
  unfold Z.getD;show ((((ao y:oq),D.int (k:Int))::Ey (k+1) l).find? _).map _=_
  by_cases c:y=x
  .subst c;rw[bT (by simp),eI]
   rfl
  .rw [cG (by simp[c])]
   have:=LI (l:=l) (k:=k+1) ((ar.mp h).resolve_left λz=>c z.symm)
   rw[fL,show (y == x)=false by simp[c]]
   show Z.getD (Ey (k+1) l) (.inl x)=_;rw[this];show some (D.int ((k+1+l.idxOf x:Nat):Int))=some (D.int ((k+(l.idxOf x+1):Nat):Int));rw[show k+1+l.idxOf x=k+(l.idxOf x+1) by lia]
theorem BL{E r:List Int}(h:∀x∈r, -x∈E) (hl:r.length<=500000):sq [.dict (Ey 0 E),dI r]=some (.sh (cR (r.map λx=>(E.idxOf (-x):Int)))):=by
 have key:qA qz (kSc (ro (nC 1) (Cs vA (nC 0)))) [some (.sh (.dict (Ey 0 E)))] (r.map D.int)=some (r.map λx=>.sh (.int (E.idxOf (-x):Int))):=by
  rw[Z.rL λd=>match d with|.int x=>.sh (.int (E.idxOf (-x):Int))|_=>.sh .non]
  .rw [mPq];rfl
  .intro d hd;obtain⟨x,l,rfl⟩:=mMq.mp hd;have g:=LI (k:=0) (h x l);rw[bh]at g;refine⟨[some (.sh (.int x)),some (.sh (.dict (Ey 0 E)))],?_⟩
   simp_arith [g]
 have e:(r.map λx=>AV.sh (.int (E.idxOf (-x):Int))).map oa=(r.map λx=>(E.idxOf (-x):Int)).map D.int:=by
  rw[mPq,mPq];rfl
 have lk:r.length<=qK:=by show _<=16777216;lia
 simp_arith [sq,Bx,dI,key,lk,e]
theorem Ka{Q:List (List Int)}(hn:Q.flatten.Nodup) (hneg:∀x∈Q.flatten, -x∈Q.flatten) (hl:Q.flatten.length<=1000) (J:Q.length<=1000):xV [dM Q]=some (.sh (cD (code Q))):=by
 have to:=yE (rs:=Q) (by lia)
 have B:=oh Q.flatten;have cl:qA qz (oJ K33.sq (nQ (og 1) (nQ (og 0) oB))) [some (.sh (.dict (Ey 0 Q.flatten)))] (Q.map dI)=some (Q.map λr=>.sh (cR (r.map λx=>(Q.flatten.idxOf (-x):Int)))):=by
  rw[Z.rL λd=>match d with|.list l=>(sq [.dict (Ey 0 Q.flatten),.list l]).getD (.sh .non)|_=>.sh .non]
  .rw [mPq];refine congrArg some (mCq λr hr=>?_)
   have t:=BL (E:=Q.flatten) (r:=r) (λx n=>hneg x (mFq.mpr ⟨r,hr,n⟩)) (by have:=cf.length_le (aK hr);lia)
   show (sq [.dict (Ey 0 Q.flatten),dI r]).getD (.sh .non)=_;rw[t];rfl
  .intro d hd;obtain⟨r,hr,rfl⟩:=mMq.mp hd;have t:=BL (E:=Q.flatten) (r:=r) (λx n=>hneg x (mFq.mpr ⟨r,hr,n⟩)) (by have:=cf.length_le (aK hr);lia)
   refine⟨[some (.sh (dI r)),some (.sh (.dict (Ey 0 Q.flatten)))],?_⟩
   simp_arith [t,cw]
 obtain⟨L,e,u,z,rfl⟩:=K8 (x:=2) (y:=3) (k:=0) (body:=yH) (λi S=>∃u z,S=[some (.sh (dM Q)),some (.owd (Ey 0 (Q.flatten.take i))),u,z]) (ds:=Q.flatten.map D.int) (S:=[some (.sh (dM Q)),some (.owd []),none,none]) ⟨none,none,rfl⟩ (by
  rintro i d S hd ⟨u,z,rfl⟩;rw[bh];rw[gMq]at hd;obtain⟨x,n,rfl⟩:=oMq.mp hd;have M:i<Q.flatten.length:=(gSq.mp n).1;have C:(Ey 0 (Q.flatten.take i)).length<qK:=by rw[Sx,lTq];show _<16777216;lia
  have s:vH (Ey 0 (Q.flatten.take i)) (.inl x) (.int (i:Int))=Ey 0 (Q.flatten.take (i+1)):=by
   rw[vF]
   .rw [oW n,HB,lTq,dA (by lia),bh]
   .rw [Ea];intro m;obtain⟨y,G,H⟩:=mMq.mp m;cases H;have:=hn.sublist (bW (i+1) Q.flatten);rw[oW n]at this;exact(nAq.mp this).2.2 _ G _ (by simp) rfl
  refine⟨_,?_,some (.sh (.int (i:Int))),some (.sh (.int x)),rfl⟩
  simp_arith [yH,C,s])
 rw[lMq,bh,aZ]at e;have st:(Q.map λr=>AV.sh (cR (r.map λx=>(Q.flatten.idxOf (-x):Int)))).map oa=(code Q).map cR:=by
  unfold code;rw[mPq,mPq];rfl
 have I:Q.length<=qK:=by show _<=16777216;lia
 simp_arith [xV,DL,to,B,dI,e,dM,cl,I,st]
theorem DW{rs:List (List Int)}(hn:rs.flatten.Nodup):∀{ps:List Nat},ps.Nodup->(∀p∈ps,p<rs.length)->(ps.flatMap λp=>rs.getD p []).Nodup
 | [],_,_=>aY
 |p::ps,hp,hl=>by
  have n:=aB.mp hp;have row:∀q,q<rs.length->rs[q]?=some (rs.getD q []):=λq l=>by rw[gDq,gEg l];rfl
  rw[bD,nAq];refine⟨Kl hn (mGq (row p (hl p (by simp)))),DW hn n.2 λq l=>hl q (by simp[l]),λa s b r e=>?_⟩
  subst e;obtain⟨q,l,r⟩:=bM.mp r;have:=same_place hn (row p (hl p (by simp))) (row q (hl q (by simp[l]))) s r
  exact n.1 (this ▸ l)
section
variable {rs:List (List Int)}{e:Int}
theorem Qx(l:Mp rs) (n:e∈rs.flatten):(K31.rnd rs e).1.flatten.Nodup:=by
 have h:=K31.Cz l n;exact h.pm.nodup_iff.mpr (DW l.hn h.nd h.lt)
theorem CZ(l:Mp rs) (y:e∈rs.flatten):∀x∈(K31.rnd rs e).1.flatten, -x∈(K31.rnd rs e).1.flatten:=λx s=>by
 have h:=K31.Cz l y;obtain⟨j,t,z⟩:=cC.mp s;have u:=h.cl j t;rw[gDq,gEg t,cw,z]at u;obtain⟨r,hr,n⟩:=l.at (l.hneg x (h.mem l s).1);refine h.pm.mem_iff.mpr (bM.mpr ⟨_,u,?_⟩);rw[gDq,hr];exact n
end
end K33
namespace K51
open PySem L2 Mr Z Xe Zl
noncomputable def rot(r:List Int):List Int:=r.drop 1++r.take 1
def rG(r:List Int):List (oq×Int):=(r.zip (rot r)).map λp=>(.inl p.1,p.2)
def pY(rs:List (List Int)):List (oq×Int):=(rs.map rG).flatten
noncomputable def zi(ps:List (oq×Int)):List (oq×D):=ps.map λp=>(p.1,D.int p.2)
theorem rot_len(r:List Int):(rot r).length=r.length:=by
 unfold rot;rw[lAq,aO,lTq];lia
theorem rot_perm(r:List Int):(rot r).Perm r:=by
 unfold rot;refine dt.trans ?_;rw[bq]
theorem xA(r:List Int):(rG r).length=r.length:=by
 unfold rG;rw[lMq,fJ,rot_len,iY]
theorem Bq(r:List Int):(rG r).map (·.1)=r.map ao:=by
 unfold rG;rw[mPq];have:r.map ao=((r.zip (rot r)).map Prod.fst).map (ao:Int->oq):=by rw[List.map_fst_zip (by rw[rot_len];exact ai _)]
 rw[this,mPq];rfl
theorem GU(r:List Int):(rG r).map (·.2)=rot r:=by
 unfold rG;rw[mPq];have:rot r=(r.zip (rot r)).map Prod.snd:=by rw[List.map_snd_zip (by rw[rot_len];exact ai _)]
 exact this.symm
theorem tQ:∀(rs:List (List Int)),(pY rs).map (·.1)=rs.flatten.map ao
 | []=>rfl
 |r::rs=>by
  show (rG r++pY rs).map (·.1)=_;rw[mBq,Bq,tQ rs,fCq,mBq]
theorem A6:∀(rs:List (List Int)),((pY rs).map (·.2)).Perm rs.flatten
 | []=>.nil
 |r::rs=>by
  show ((rG r++pY rs).map (·.2)).Perm _;rw[mBq,GU,fCq];exact(rot_perm r).append (A6 rs)
theorem N6(rs:List (List Int)):(pY rs).length=rs.flatten.length:=by
 have:=congrArg bp (tQ rs)
 rwa [lMq,lMq]at this
theorem Et(rs:List (List Int)) (r:List Int):pY (rs++[r])=pY rs++rG r:=by
 unfold pY;rw[mBq,fAq];simp
theorem TX(ps:List (oq×Int)):(zi ps).length=ps.length:=lMq _
theorem RS(a b:List (oq×Int)):zi (a++b)=zi a++zi b:=mBq
theorem Ri(ps:List (oq×Int)):(zi ps).map (·.1)=ps.map (·.1):=by
 unfold zi;rw[mPq];rfl
theorem AW{r:List Int}{j:Nat}{z y:Int}(h:r[j]?=some z) (h2:(rot r)[j]?=some y):(rG r)[j]?=some (.inl z,y):=by
 unfold rG;rw[gMq,cL (z:=(z,y)).mpr ⟨h,h2⟩];rfl
theorem Hz{rs:List (List Int)}{i j:Nat}{r:List Int}{z y:Int}(hn:rs.flatten.Nodup) (hr:rs[i]?=some r) (n:r[j]?=some z) (B:(rot r)[j]?=some y) :
  vH (zi (pY (rs.take i)++(rG r).take j)) (.inl z) (.int y)=zi (pY (rs.take i)++(rG r).take (j+1)):=by
 have s:=qm hr;have l:((rs.take i).flatten++r).Nodup:=by
  rw[←s];have C:rs.flatten=(rs.take (i+1)).flatten++(rs.drop (i+1)).flatten:=by rw[←fAq,bq]
  rw[C]at hn;exact(nAq.mp hn).1
 rw[vF]
 .rw [oW (AW n B),←aM,RS (_++_) [_]];rfl
 .rw [Ri,mBq,tQ,fE,Bq,←fE];intro m;rcases mAq.mp m with m|m
  .obtain ⟨x,t,u⟩:=mMq.mp m;cases u;exact(nAq.mp l).2.2 _ t _ (mGq n) rfl
  .obtain ⟨x,t,u⟩:=mMq.mp m;cases u;have:=bj.sublist (bW (j+1) r) (nAq.mp l).2.1;rw[oW n]at this;exact(nAq.mp this).2.2 _ t _ (by simp) rfl
theorem E5{rs:List (List Int)}{i j:Nat}{r:List Int}(hl:rs.flatten.length<=1000) (hr:rs[i]?=some r):(zi (pY (rs.take i)++(rG r).take j)).length<qK:=by
 refine Kp ?_;have h1:=sU rs (i+1);rw[qm hr,lAq]at h1;rw[TX,lAq,N6,lTq,xA];lia
theorem Y1(r:List Int):zY (r.map D.int) (some 1) none=(r.drop 1).map D.int:=by
 rw[zy];cases r with
 |nil=>rfl
 |cons x r=>rw[show (some 1:Option Int)=some ((1:Nat):Int) from rfl,Ao _ _ (by simp)]
theorem YJ(r:List Int):zY (r.map D.int) none (some 1)=(r.take 1).map D.int:=by
 rw[zy];cases r with
 |nil=>rfl
 |cons x r=>rw[show (some 1:Option Int)=some ((1:Nat):Int) from rfl,FM _ _ (by simp)]
theorem QR{rs:List (List Int)}(hn:rs.flatten.Nodup) (hl:rs.flatten.length<=1000):BD [dM rs]=some (.owd (zi (pY rs))):=by
 have key:=tx (x:=2) (body:=A0) (λi S=>∃C l n,S=[some (.sh (dM rs)),some (.owd (zi (pY (rs.take i)))),C,l,n]) (ds:=rs.map dI) (S:=[some (.sh (dM rs)),some (.owd []),none,none,none]) ⟨none,none,none,rfl⟩ (by
  rintro i d S hd ⟨C,l,n,rfl⟩;obtain⟨r,hr,rfl⟩:=BN hd;have H:r.length<=1000:=by
   have h1:=sU rs (i+1);rw[qm hr,lAq]at h1;lia
  have t:(r.map D.int).length=((rot r).map D.int).length:=by rw[lMq,lMq,rot_len]
  have I:=Ua (x:=3) (y:=4) (k:=0) (body:=A8) (λj S=>∃l n,S=[some (.sh (dM rs)),some (.owd (zi (pY (rs.take i)++(rG r).take j))),some (.sh (dI r)),l,n]) (ds:=r.map D.int) (es:=(rot r).map D.int) (S:=[some (.sh (dM rs)),some (.owd (zi (pY (rs.take i)))),some (.sh (dI r)),l,n]) t ⟨l,n,by simp⟩ (by
   rintro j d e S hd J ⟨l,n,rfl⟩;obtain⟨z,L,rfl⟩:=Di hd;obtain⟨y,M,rfl⟩:=Di J;rw[bh]at *;have O:=E5 (j:=j) hl hr;have u:=Hz hn hr L M;refine⟨_,?_,some (.sh (.int z)),some (.sh (.int y)),rfl⟩
   simp_arith [A8,O,u])
  obtain⟨R,G,P,Q,rfl⟩:=I;rw[bh,lMq,←xA,aZ]at G;refine⟨_,?_,some (.sh (dI r)),P,Q,rfl⟩;rw[oW hr,Et];have E:(r.drop 1).length+(r.take 1).length<=qK:=Vx (by rw[aO,lTq];lia)
  have B:(r.drop 1).map D.int++(r.take 1).map D.int=(rot r).map D.int:=by unfold rot;rw[mBq]
  have s:r.length=(rot r).length:=(rot_len r).symm
  simp_arith [A0,Y1,YJ,E,B,s,G])
 obtain⟨U,e,C,l,n,rfl⟩:=key;rw[lMq,aZ]at e
 simp_arith [BD,HV,e]
end K51
namespace K15
open PySem L2 Mr Z Xe Zl
theorem vJ{ps:List (oq×Int)}{k:oq}{n:Int}(hn:(ps.map (·.1)).Nodup) (h:(k,n)∈ps):Z.getD (K51.zi ps) k=some (.int n):=by
 induction ps with
 |nil=>cases h
 |cons p ps l =>
  rw[ax,aB]at hn;unfold Z.getD;show (((p.1,D.int p.2)::K51.zi ps).find? _).map _=_;rcases ar.mp h with e|e
  .rw [←e,bT (by simp)]
   rfl
  .rw [cG (by
    intro z;have r:p.1=k:=by simpa using z
    exact hn.1 (by rw[r];exact mMq.mpr ⟨_,e,rfl⟩))]
   exact l hn.2 e
theorem Pg{ps:List (oq×Int)}{k r:oq}{n:Int}(hn:(ps.map (·.2)).Nodup) (h:(k,n)∈ps) (h':(r,n)∈ps):k=r:=by
 induction ps with
 |nil=>cases h
 |cons p ps s =>
  rw[ax,aB]at hn;rcases ar.mp h with e|e
  .rcases ar.mp h' with l|l
   .rw [←e]at l;exact(congrArg Prod.fst l).symm
   .exact absurd (mMq.mpr ⟨_,l,by rw[←e]⟩) hn.1
  .rcases ar.mp h' with l|l
   .exact absurd (mMq.mpr ⟨_,e,by rw[←l]⟩) hn.1
   .exact s hn.2 e l
def nx(rs:List (List Int)) (e:Int):Int:=match Z.getD (K51.zi (K51.pY rs)) (.inl e) with
 |some (.int n)=>n
 |_=>0
def fw(rs:List (List Int)) (e:Int):Int:=nx rs (-e)
section
variable {rs:List (List Int)}
theorem CY(hn:rs.flatten.Nodup):((K51.pY rs).map (·.1)).Nodup:=by
 rw[K51.tQ,az,aF];exact bj.imp (λh e=>h (ao.inj e)) (az.mp hn)
theorem C1(hn:rs.flatten.Nodup) {e:Int}(r:e∈rs.flatten):(ao e,nx rs e)∈K51.pY rs:=by
 have s:(ao e:oq)∈(K51.pY rs).map (·.1):=by rw[K51.tQ];exact mMq.mpr ⟨e,r,rfl⟩
 obtain⟨⟨k,n⟩,l,rfl⟩:=mMq.mp s;have:=vJ (CY hn) l;unfold nx;rw[this];exact l
theorem Jw(hn:rs.flatten.Nodup) {e:Int}(l:e∈rs.flatten):Z.getD (K51.zi (K51.pY rs)) (.inl e)=some (.int (nx rs e)):=vJ (CY hn) (C1 hn l)
theorem xF(hn:rs.flatten.Nodup) {e:Int}(l:e∈rs.flatten):nx rs e∈rs.flatten:=(K51.A6 rs).mem_iff.mp (mMq.mpr ⟨_,C1 hn l,rfl⟩)
theorem Q5(hn:rs.flatten.Nodup) {a b:Int}(l:a∈rs.flatten) (n:b∈rs.flatten) (h:nx rs a=nx rs b):a=b:=by
 have h1:=C1 hn l;have h2:=C1 hn n;rw[h]at h1;exact ao.inj (Pg ((K51.A6 rs).symm.nodup hn) h1 h2)
theorem G0(l:Mp rs):Hg (fw rs) rs.flatten:=⟨l.hn,λe n=>xF l.hn (l.hneg e n),λa r b s h=>by
 have:=Q5 l.hn (l.hneg a r) (l.hneg b s) h;lia⟩
def stp(rs:List (List Int)) (E:List Int):List (oq×D):=E.map λe=>(ao e,.int (fw rs e))
theorem RN(hn:rs.flatten.Nodup) {e:Int}(l:e∈rs.flatten):Z.getD (stp rs rs.flatten) (.inl e)=some (.int (fw rs e)):=by
 have h:=vJ (ps:=rs.flatten.map λe=>(ao e,fw rs e)) (k:=.inl e) (n:=fw rs e) (by
  rw[mPq,az,aF];exact bj.imp (λh e=>h (ao.inj e)) (az.mp hn)) (mMq.mpr ⟨e,l,rfl⟩)
 unfold K51.zi at h;rw[mPq]at h;exact h
theorem Uq(rs:List (List Int)):(K51.zi (K51.pY rs)).map (λp=>kD p.1)=rs.flatten.map D.int:=by
 have:(K51.zi (K51.pY rs)).map (λp=>kD p.1)=((K51.pY rs).map (·.1)).map kD:=by
  unfold K51.zi;rw[mPq,mPq];rfl
 rw[this,K51.tQ,mPq];rfl
theorem JO(l:Mp rs):yo [dM rs]=some (.owd (stp rs rs.flatten)):=by
 have y:=K51.QR l.hn (bw l.hl (by decide))
 have hl:=l.hl;have key:=tx (x:=3) (body:=yG) (λi S=>∃r,S=[some (.sh (dM rs)),some (.sh (.fd (K51.zi (K51.pY rs)))),some (.owd (stp rs (rs.flatten.take i))),r]) (ds:=rs.flatten.map D.int) (S:=[some (.sh (dM rs)),some (.sh (.fd (K51.zi (K51.pY rs)))),some (.owd []),none]) ⟨none,rfl⟩ (by
  rintro i d S hd ⟨r,rfl⟩;rw[gMq]at hd;obtain⟨e,n,rfl⟩:=oMq.mp hd;have H:=(gSq.mp n).1;have s:=mGq n;have z:=Jw l.hn (l.hneg e s);have l1:(stp rs (rs.flatten.take i)).length<qK:=by unfold stp;rw[lMq,lTq];show _<16777216;lia
  have t:vH (stp rs (rs.flatten.take i)) (.inl e) (.int (nx rs (-e)))=stp rs (rs.flatten.take (i+1)):=by
   rw[vF]
   .unfold stp;rw[oW n,mBq];rfl
   .intro m;obtain⟨p,t,B⟩:=mMq.mp m;obtain⟨x,C,rfl⟩:=mMq.mp t;have E:x=e:=ao.inj B;subst E;have:=bj.sublist (bW (i+1) rs.flatten) l.hn;rw[oW n]at this;exact(nAq.mp this).2.2 x C x (by simp) rfl
  refine⟨_,?_,some (.sh (.int e)),rfl⟩
  simp_arith [yG,z,l1,t])
 obtain⟨I,e,r,rfl⟩:=key;rw[lMq,aZ]at e;have G:=Uq rs;have u:((3:Nat)≠1)=True:=by simp
 simp_arith [yo,Eh,y,u,G,e]
noncomputable def mu(N:Nat):AS->Nat
 | [_,_,some (.ow l),_]=>N+1-l.length
 |_=>0
theorem SF(f:Int->Int) (e:Int) (n:Nat):((aS n).map λk=>itr f k e)++[itr f n e]=(aS (n+1)).map λk=>itr f k e:=by rw[fM,mBq];rfl
theorem SW(t:Mp rs) {e:Int}(z:e∈rs.flatten):∃l,Cy (fw rs) e l/\l.length<=rs.flatten.length/\uV [.dict (stp rs rs.flatten),.int e]=some (aI l):=by
 have one:=G0 t;obtain⟨l,cy,u,r⟩:=one.cy z;have hl:=t.hl;refine⟨l,cy,u,?_⟩;have s:∀n,Z.getD (stp rs rs.flatten) (.inl (itr (fw rs) n e))=some (.int (itr (fw rs) (n+1) e)):=λn=>RN t.hn (one.itr_mem z n)
 have key:=xj (c:=rA (oN Jn (nC 3) (nC 1))) (body:=vV) (λS=>∃n,1<=n/\n<=l.length/\S=[some (.sh (.dict (stp rs rs.flatten))),some (.sh (.int e)),some (aI ((aS n).map λk=>itr (fw rs) k e)),some (.sh (.int (itr (fw rs) n e)))]) (mu l.length) (λS=>∃B,S=[some (.sh (.dict (stp rs rs.flatten))),some (.sh (.int e)),some (aI l),B]) (by
  rintro S ⟨n,h1,h2,rfl⟩
  by_cases hn:n<l.length
  .have x:¬ itr (fw rs) n e=e:=r n (by lia) hn
   have C:=s n;have l1:n<qK:=by show _<16777216;lia
   have E:((aS n).map λk=>itr (fw rs) k e).map (λn=>AV.sh (.int n))++[.sh (.int (itr (fw rs) n e))]=((aS (n+1)).map λk=>itr (fw rs) k e).map λn=>.sh (.int n):=by rw[←SF,mBq];rfl
   refine⟨true,[some (.sh (.dict (stp rs rs.flatten))),some (.sh (.int e)),some (aI ((aS n).map λk=>itr (fw rs) k e)),some (.sh (.int (itr (fw rs) n e)))],?_,λ_=>⟨[some (.sh (.dict (stp rs rs.flatten))),some (.sh (.int e)),some (aI ((aS (n+1)).map λk=>itr (fw rs) k e)),some (.sh (.int (itr (fw rs) (n+1) e)))],?_,⟨n+1,by lia,by lia,rfl⟩,?_⟩,λq=>(nomatch q)⟩
   .simp_arith [x]
   .simp_arith [vV,aD,l1,E,C]
   .show l.length+1-_<l.length+1-_;simp only[lMq,aD];lia
  .have G:n=l.length:=by lia
   subst G;have H:=cy.back;have I:=cy.get;refine⟨false,[some (.sh (.dict (stp rs rs.flatten))),some (.sh (.int e)),some (aI ((aS l.length).map λk=>itr (fw rs) k e)),some (.sh (.int (itr (fw rs) l.length e)))],?_,λq=>(nomatch q),λ_=>⟨some (.sh (.int (itr (fw rs) l.length e))),by rw[←I]⟩⟩
   simp_arith [H])
 have h0:=s 0;have L:[AV.sh (.int e)]=((aS 1).map λk=>itr (fw rs) k e).map λn=>.sh (.int n):=rfl
 obtain⟨M,J,B,rfl⟩:=key 100000 [some (.sh (.dict (stp rs rs.flatten))),some (.sh (.int e)),some (.ow [.sh (.int e)]),some (.sh (.int (itr (fw rs) (0+1) e)))] ⟨1,ai _,cy.len,rfl⟩ (by
  show l.length+1-1<100000;lia)
 have y:Z.getD (stp rs rs.flatten) (.inl e)=some (.int (itr (fw rs) (0+1) e)):=h0
 simp_arith [uV,AK,y,J]
end
noncomputable def kI(ks:List Int):List (oq×D):=ks.map λk=>((ao k:oq),D.bl true)
theorem QA(ks:List Int) (t:Int):(kI ks).any (λkv=>decide (kv.1=(ao t:oq)))=decide (t∈ks):=by
 induction ks with
 |nil=>simp[kI]
 |cons k ks l =>
  unfold kI at l ⊢;rw[ax,eS,l]
  by_cases h:t=k
  .subst h;simp
  .have n:¬ (ao k:oq)=ao t:=λq=>h (ao.inj q).symm
   simp[n,h]
theorem Js(ks:List Int) (t:Int):(Z.getD (kI ks) (ao t)).isSome=decide (t∈ks):=by
 unfold Z.getD;rw[eB,←QA,bx,gi,cM]
theorem KP{ks:List Int}{t:Int}(h:t∉ks):vH (kI ks) (ao t) (.bl true)=kI (ks++[t]):=by
 unfold vH;rw[QA,decide_eq_false h,qk (by simp)]
 simp[kI]
theorem KR(ks:List Int):(kI ks).length=ks.length:=by unfold kI;rw[lMq]
section
variable {rs:List (List Int)}
structure Rd (f:Int->Int) (E:List Int) (kn:List Int) (L:List (List Int)):Prop where
 cy:∀l∈L,∃e,Cy f e l
 fl:L.flatten=kn
 nd:kn.Nodup
 sub:∀x∈kn,x∈E
 cl:∀x∈kn,f x∈kn
theorem Rd.itr{f:Int->Int}{E kn:List Int}{L:List (List Int)}(h:Rd f E kn L) {x:Int}(l:x∈kn):∀n,itr f n x∈kn
 |0=>l
 |n+1=>h.cl _ (h.itr l n)
theorem Rd.out{f:Int->Int}{E kn:List Int}{L:List (List Int)}(h:Rd f E kn L) {e:Int}{l:List Int}(c:Cy f e l) (s:e∉kn):∀x∈l,x∉kn:=by
 intro x t u;obtain⟨j,n⟩:=ay.mp t;have r:=(gSq.mp n).1;rw[c.at r]at n;have y:=aT.inj n;subst y;have:=h.itr u (l.length-j);rw[←wm,show l.length-j+j=l.length by lia,c.back]at this
 exact s this
theorem Rd.add{f:Int->Int}{E kn:List Int}{L:List (List Int)}(z:Hg f E) (h:Rd f E kn L) {e:Int}{l:List Int}(c:Cy f e l) (r:e∈E) (B:e∉kn):Rd f E (kn++l) (L++[l]):=by
 have C:=h.out c B;refine⟨λm G=>?_,by rw[fAq,h.fl,aU],?_,λx s=>?_,λx s=>?_⟩
 .rcases mAq.mp G with q|q
  .exact h.cy m q
  .rw [mSq.mp q];exact⟨e,c⟩
 .rw [nAq];exact⟨h.nd,c.nd,λa H b I q=>C b I (q ▸ H)⟩
 .rcases mAq.mp s with q|q
  .exact h.sub x q
  .rw [c.get]at q;obtain⟨n,_,rfl⟩:=mMq.mp q;exact z.itr_mem r n
 .rcases mAq.mp s with q|q
  .exact mAq.mpr (.inl (h.cl x q))
  .refine mAq.mpr (.inr ?_);obtain⟨j,t⟩:=ay.mp q;have u:=(gSq.mp t).1;rw[c.at u]at t;rw[←aT.inj t];show Zl.itr f (j+1) e∈l
   by_cases y:j+1<l.length
   .exact mGq (c.at y)
   .rw [show j+1=l.length by lia,c.back]
    exact c.self
theorem Rd.orb{f:Int->Int}{E kn:List Int}{L:List (List Int)}(h:Rd f E kn L) (l:∀x∈E,x∈kn):Jl f E L:=⟨h.cy,by rw[h.fl];exact h.nd,λx=>by rw[h.fl];exact⟨h.sub x,l x⟩⟩
noncomputable def xM(rs:List (List Int)):List (List Int):=(rs.filter λr=>decide (r=[])).map λ_=>[]
theorem PL(rs:List (List Int)):qA (rA (oN C0 (tX qu (nD (nC 0) nV)) (rC (.int 0)))) (sJ oB) [] (rs.map dI)=some ((xM rs).map aI):=by
 rw[Z.xy (λd=>decide (Hu d=[])) (λ_=>.ow [])]
 .unfold xM;rw[gN,mPq,mPq];have:(λd=>decide (Hu d=[]))∘dI=λr=>decide (r=[]):=by funext r;show decide (Hu (dI r)=[])=_;rw[BF]
  rw[this];rfl
 .intro d hd;obtain⟨r,hr,rfl⟩:=J0 hd;rw[BF];refine⟨[some (.sh (dI r))],?_,λ_=>⟨[some (.sh (dI r))],?_⟩⟩
  .by_cases h:r=[]
   .subst h;have z:((0:Nat):Int)=0:=rfl
    simp_arith [dI,z]
   .have l:¬ ((r.length:Nat):Int)=0:=λq=>h (cE.mp (by lia))
    simp_arith [dI,l,h]
  .simp_arith []
theorem MQ{kn l:List Int}{v0 v1 v3 v4 v5 v6:Option AV}(hn:(kn++l).Nodup) (hl:kn.length+l.length<500000):∃n,sk 6 zc (l.map D.int) [v0,v1,some (.owd (kI kn)),v3,v4,v5,v6]=some (.nx [v0,v1,some (.owd (kI (kn++l))),v3,v4,v5,n]):=by
 have key:=tx (x:=6) (body:=zc) (λi S=>∃n,S=[v0,v1,some (.owd (kI (kn++l.take i))),v3,v4,v5,n]) (ds:=l.map D.int) (S:=[v0,v1,some (.owd (kI kn)),v3,v4,v5,v6]) ⟨v6,by simp⟩ (by
  rintro i d S hd ⟨n,rfl⟩;rw[gMq]at hd;obtain⟨e,s,rfl⟩:=oMq.mp hd;have u:=(gSq.mp s).1;have r:e∉kn++l.take i:=λm=>by
   have h2:(kn++l.take (i+1)).Nodup:=bj.sublist (cf.append (cf.refl kn) (bW (i+1) l)) hn;rw[oW s,←aM]at h2;exact(nAq.mp h2).2.2 e m e (by simp) rfl
  have t:=KP r;rw[aM,←oW s]at t;have l1:(kI (kn++l.take i)).length<qK:=by rw[KR,lAq,lTq];show _<16777216;lia
  refine⟨_,?_,some (.sh (.int e)),rfl⟩
  simp_arith [zc,l1,t])
 obtain⟨y,e,n,rfl⟩:=key;rw[lMq,aZ]at e;exact⟨n,e⟩
def Od(B L:List (List Int)):AV:=.ow (B.map aI++L.map λl=>.sh (dI l))
theorem JB(C:Mp rs):∃v1 v2 v4 v5 v6 L,sk 4 wI ((qN rs.flatten).map D.int) [some (.sh (dM rs)),some (.owd (stp rs rs.flatten)),some (.owd []),some (Od (xM rs) []),none,none,none]=some (.nx [some (.sh (dM rs)),v1,v2,some (Od (xM rs) L),v4,v5,v6])/\Jl (fw rs) rs.flatten L:=by
 have one:=G0 C;have hl:=C.hl;have H:=C.hr;have I:=qF rs.flatten;have key:=tx (x:=4) (body:=wI) (λi S=>∃r L v1 v4 v5 v6,S=[some (.sh (dM rs)),some v1,some (.owd (kI r)),some (Od (xM rs) L),v4,v5,v6]/\oa v1 = .dict (stp rs rs.flatten)/\(∀x,v1=x->(x = .owd (stp rs rs.flatten)∨x = .sh (.dict (stp rs rs.flatten))))/\Rd (fw rs) rs.flatten r L/\L.length<=i/\∀j x,j<i->(qN rs.flatten)[j]?=some x->x∈r) (ds:=(qN rs.flatten).map D.int) (S:=[some (.sh (dM rs)),some (.owd (stp rs rs.flatten)),some (.owd []),some (Od (xM rs) []),none,none,none]) ⟨[],[],.owd (stp rs rs.flatten),none,none,none,rfl,rfl,λx h=>.inl h.symm,⟨by simp,rfl,aY,by simp,by simp⟩,ai _,λj x h=>absurd h (bK _)⟩ (by
  rintro i d S hd ⟨r,L,v1,v4,v5,v6,rfl,u,y,hr,P,n⟩;rw[gMq]at hd;obtain⟨e,E,rfl⟩:=oMq.mp hd;have J:=(gSq.mp E).1;rw[I.length_eq]at J;have z:e∈rs.flatten:=I.mem_iff.mp (mGq E);have G:=Js r e
  by_cases c:e∈r
  .rw [decide_eq_true c]at G;refine⟨[some (.sh (dM rs)),some v1,some (.owd (kI r)),some (Od (xM rs) L),some (.sh (.int e)),v5,v6],?_,r,L,v1,_,_,_,rfl,u,y,hr,by lia,λj x t s=>?_⟩
   .simp_arith [wI,G]
   .rcases cu.mp t with q|rfl
    .exact n j x q s
    .rw [E]at s;cases s;exact c
  .rw [decide_eq_false c]at G;obtain⟨l,cy,Q,R⟩:=SW C z;have B:=hr.add one cy z c;have U:=J6 _ _ hr.nd hr.sub;obtain⟨M,O⟩:=MQ (kn:=r) (l:=l) (v0:=some (.sh (dM rs))) (v1:=some (.sh (.dict (stp rs rs.flatten)))) (v3:=some (Od (xM rs) L)) (v4:=some (.sh (.int e))) (v5:=some (.sh (dI l))) (v6:=v6) B.nd (by lia)
   have X:=oh l;have lb:(xM rs).length<=rs.length:=by unfold xM;rw[lMq];exact dw _ _
   have l1:((xM rs).map aI++L.map λl=>AV.sh (dI l)).length<qK:=by rw[lAq,lMq,lMq];show _<16777216;lia
   have Y:((xM rs).map aI++L.map λl=>AV.sh (dI l))++[.sh (dI l)]=(xM rs).map aI++(L++[l]).map λl=>.sh (dI l):=by rw[aM,mBq];rfl
   refine⟨[some (.sh (dM rs)),some (.sh (.dict (stp rs rs.flatten))),some (.owd (kI (r++l))),some (Od (xM rs) (L++[l])),some (.sh (.int e)),some (.sh (dI l)),M],?_,r++l,L++[l],.sh (.dict (stp rs rs.flatten)),_,_,_,rfl,rfl,λx h=>.inr h.symm,B,by rw[lAq,lSq];lia,λj x t s=>?_⟩
   .unfold Od at O ⊢
    simp_arith [wI,G,u,R,X,O,l1,Y]
   .rcases cu.mp t with q|rfl
    .exact mAq.mpr (.inl (n j x q s))
    .rw [E]at s;cases s;exact mAq.mpr (.inr cy.self))
 obtain⟨S',e,r,L,v1,v4,v5,v6,rfl,_,_,hr,_,n⟩:=key;refine⟨_,_,_,_,_,L,e,hr.orb λx s=>?_⟩
 obtain⟨j,t⟩:=ay.mp (I.mem_iff.mpr s);exact n j x (by rw[lMq];exact(gSq.mp t).1) t
theorem V2(rs:List (List Int)):(xM rs).length<=rs.length:=by unfold xM;rw[lMq];exact dw _ _
theorem Mk(B L:List (List Int)):oa (Od B L)=dM (B++L):=by
 unfold Od;rw[tL,mBq,mPq,mPq];show D.list _=D.list ((B++L).map dI);rw[mBq];congr 2
 .exact mCq λr _=>oh r
theorem Sz(r:Mp rs) {L:List (List Int)}(h:Jl (fw rs) rs.flatten L):(∀l∈L,l.length<=1000)/\L.length<=rs.flatten.length:=by
 have p:L.flatten.Perm rs.flatten:=(bS h.dj r.hn).mpr h.all;have hl:=r.hl;refine⟨λl n=>?_,?_⟩
 .have:=cf.length_le (aK n);rw[p.length_eq]at this;lia
 .have:∀{L:List (List Int)},(∀l∈L,1<=l.length)->L.length<=L.flatten.length:=λ{L} h=>by
   induction L with
   |nil=>exact ai _
   |cons a L s =>
    have h1:=h a (aw ..);have h2:=s λl hl=>h l (mCo _ hl)
    rw[lCq,fCq,lAq];lia
  have:=this (L:=L) λl hl=>by obtain⟨e,c⟩:=h.cy l hl;exact c.len
  rw[p.length_eq]at this;exact this
theorem B1(l:Mp rs) (G:(xM rs).length+rs.flatten.length<=63):∃L,Jl (fw rs) rs.flatten L/\vq [dM rs]=some (.ow ((uf ((xM rs++L).map good)).map aI)):=by
 obtain⟨H,I,J,M,O,L,e,s⟩:=JB l;have hl:=l.hl;have n:=l.hr;have ow:=JO l;have t:=PL rs;have u:=Rx (rs:=rs) (by lia)
 have y:rs.length<=qK:=by show _<=16777216;lia
 have z:AV.ow ((xM rs).map aI)=Od (xM rs) []:=by unfold Od;rw[fN,aNq]
 have st:=Mk (xM rs) L;obtain⟨B,P⟩:=Sz l s;have bl:=V2 rs;have C:=tU (rs:=xM rs++L) (λr hr=>by
  rcases mAq.mp hr with q|q
  .unfold xM at q;obtain⟨x,_,rfl⟩:=mMq.mp q;exact ba _
  .have:=B r q;lia) (by rw[lAq];lia)
 refine⟨L,s,?_⟩;have E:=oh (qN rs.flatten)
 simp_arith [vq,IE,ow,dM,t,y,z,u,E,dI,e,st,C]
end
section
variable {rs:List (List Int)}
theorem rot_at{r:List Int}{j:Nat}(l:j<r.length):(K51.rot r)[j]?=r[(j+1) % r.length]?:=by
 unfold K51.rot
 by_cases h:j+1<r.length
 .rw [bF h,gZq (by rw[aO];lia),dY,gB]
 .have e:j+1=r.length:=by lia
  rw[e,cZ,gYq (by rw[aO];lia),aO,dJ (by lia)]
  congr 1;lia
theorem Mz(t:Mp rs):wD [dM rs]=some (.owd (K51.zi (K51.pY rs))):=by
 have hn:=t.hn;have hl:=t.hl;have key:=tx (x:=2) (body:=yK) (λi S=>∃u l,S=[some (.sh (dM rs)),some (.owd (K51.zi (K51.pY (rs.take i)))),u,l]) (ds:=rs.map dI) (S:=[some (.sh (dM rs)),some (.owd []),none,none]) ⟨none,none,rfl⟩ (by
  rintro i d S hd ⟨u,l,rfl⟩;obtain⟨r,hr,rfl⟩:=BN hd;have C:=t.row hr;have E:=tx (x:=3) (body:=yN) (λj S=>∃l,S=[some (.sh (dM rs)),some (.owd (K51.zi (K51.pY (rs.take i)++(K51.rG r).take j))),some (.sh (dI r)),l]) (ds:=pR 0 r.length) (S:=[some (.sh (dM rs)),some (.owd (K51.zi (K51.pY (rs.take i)))),some (.sh (dI r)),l]) ⟨l,by simp⟩ (by
   rintro j d S hd ⟨l,rfl⟩;have y:j<r.length:=by
    have:=(gSq.mp hd).1
    rwa [pT]at this
   rw[A2 y,ij]at hd;cases hd;have B:r[j]?=some r[j]:=gEg y;have n:(j+1) % r.length<r.length:=dh _ (by lia)
   have G:(K51.rot r)[j]?=some r[(j+1) % r.length]:=by rw[rot_at y];exact gEg n
   have H:=K51.E5 (j:=j) (bw hl (by decide)) hr
   have s:=K51.Hz hn hr B G;have I:atI (r.map D.int) (j:Int)=some (.int r[j]):=qE (by rw[gMq,B];rfl)
   have md:=rz (i:=(j:Int)+1) (j:=(r.length:Int)) (by lia)
   have J:((j:Int)+1) % (r.length:Int)=(((j+1) % r.length:Nat):Int):=by push_cast;rfl
   rw[J]at md;have L:atI (r.map D.int) (((j+1) % r.length:Nat):Int)=some (.int r[(j+1) % r.length]):=qE (by rw[gMq,gEg n];rfl)
   refine⟨_,?_,some (.sh (.int (j:Int))),rfl⟩
   simp_arith [yN,dI,I,md,L,H,s])
  obtain⟨P,z,M,rfl⟩:=E;rw[pT,←K51.xA,aZ]at z;have O:Cp [.int (r.length:Int)]=some (pR 0 r.length):=xC (by lia)
  rw[K51.xA]at z;refine⟨_,?_,some (.sh (dI r)),M,rfl⟩;rw[oW hr,K51.Et]
  simp_arith [yK,dI,O,z])
 obtain⟨Q,e,u,l,rfl⟩:=key;rw[lMq,aZ]at e
 simp_arith [wD,DZ,e]
end
end K15
namespace K32
open PySem L2 Mr Z Xe Zl
structure RH (rs:List (List Int)) (Q:List (List Int)):Prop where
 row:∀q∈Q,∃r o,r∈rs/\o∈r/\q=K31.rot r o
 ord:∀i,0<i->i<Q.length->∃t x,t<(Q.take i).flatten.length/\Q.flatten[t]?=some x/\(Q.getD i [])[0]?=some (-x)/\-x∉(Q.take i).flatten/\∀j y,j<t->Q.flatten[j]?=some y->-y∈(Q.take i).flatten
section
variable {rs:List (List Int)}{e:Int}
theorem BH{r:List Int}{o:Int}(l:o∈r):(K31.rot r o)[0]?=some o:=by
 obtain⟨u,v,rfl,h1⟩:=List.eq_append_cons_of_mem l;rw[K33.rot_at h1];rfl
theorem wN(l:Mp rs) {o:Int}(n:o∈rs.flatten):rs.getD (plc rs o) []∈rs/\o∈rs.getD (plc rs o) []:=by
 obtain⟨r,hr,h⟩:=l.at n;rw[gDq,hr];exact⟨mGq hr,h⟩
theorem NV(Q:List (List Int)) (i:Nat):Q.flatten=(Q.take i).flatten++(Q.drop i).flatten:=by rw[←fAq,bq]
theorem TJ(l:Mp rs) {s:List (List Int)×List Nat}{i:Nat}(h:K31.RI rs e s i) {z:Int}(n:z∈rs.flatten) (r:plc rs z∈s.2):z∈s.1.flatten:=h.pm.mem_iff.mpr (bM.mpr ⟨_,r,(wN l n).2⟩)
theorem RH.step(l:Mp rs) {s:List (List Int)×List Nat}{i:Nat}(h:K31.RI rs e s i) (g:RH rs s.1) (r:i<s.1.flatten.length):RH rs (K31.zJ rs s (-(s.1.flatten.getD i 0))).1:=by
 have H:s.1.flatten.getD i 0∈s.1.flatten:=by
  rw[gDq,gEg r];exact gRq r
 have B:s.1.flatten[i]?=some (s.1.flatten.getD i 0):=by rw[gDq,gEg r];rfl
 obtain⟨I,X⟩:=h.mem l H;have hn:=l.hneg _ I;unfold K31.zJ;split
 .exact g
 .rename_i q;obtain⟨J,E⟩:=wN l hn;refine⟨λL u=>?_,λk h0 M=>?_⟩
  .rcases mAq.mp u with u|u
   .exact g.row L u
   .rw [mSq.mp u];exact⟨_,_,J,E,rfl⟩
  .simp only [lAq,lSq]at M;simp only[fAq,aU]
   by_cases c:k<s.1.length
   .obtain ⟨t,x,O,G,P,Q,R⟩:=g.ord k h0 c;have S:(s.1++[K31.rot (rs.getD (plc rs (-(s.1.flatten.getD i 0))) []) (-(s.1.flatten.getD i 0))]).take k=s.1.take k:=fI (by lia)
    have lt:t<s.1.flatten.length:=(gSq.mp G).1;rw[S];refine⟨t,x,O,by rw[gZq lt];exact G,?_,Q,λj y C n=>R j y C ?_⟩
    .rw [gDq,gZq c,←gDq];exact P
    .rw [gZq (by lia)]at n
     exact n
   .have:k=s.1.length:=by lia
    subst this;rw[fq];refine⟨i,_,r,by rw[gZq r];exact B,?_,λz=>q (h.mem l z).2,λj y C n=>?_⟩
    .rw [gDq,gYq (ai _),dX];exact BH E
    .rw [gZq (by lia)]at n
     have U:=(gSq.mp n).1;have:=h.cl j C;rw[gDq,n,cw]at this;exact TJ l h (l.hneg _ (h.mem l (mGq n)).1) this
theorem Ut(l:Mp rs):∀(f:Nat) {i:Nat}{s:List (List Int)×List Nat},K31.RI rs e s i->RH rs s.1->RH rs (K31.Jm rs f i s).1
 |0,i,s,_,g=>g
 |f+1,i,s,h,g=>by
  unfold K31.Jm;split
  .rename_i q;exact Ut l f (h.step l q) (g.step l h q)
  .exact g
theorem QG(l:Mp rs) (n:e∈rs.flatten):RH rs (K31.rnd rs e).1:=Ut l 2000 (K31.Dr l n) (by
 obtain⟨s,t⟩:=wN l n;refine⟨λq r=>?_,λk h0 u=>?_⟩
 .rw [show (K31.Ar rs e).1=[K31.rot (rs.getD (plc rs e) []) e] from rfl,mSq]at r
  exact⟨_,_,s,t,r⟩
 .rw [show (K31.Ar rs e).1.length=1 from rfl]at u
  lia)
theorem L9(n:Mp rs) (S:Int->Prop) (h1:∀r∈rs,∀x∈r,S x->∀y∈r,S y) (h2:∀x∈rs.flatten,S x->S (-x)):∀(f:Nat) {i:Nat}{s:List (List Int)×List Nat},K31.RI rs e s i->(∀x∈s.1.flatten,S x)->∀x∈(K31.Jm rs f i s).1.flatten,S x
 |0,i,s,_,g=>g
 |f+1,i,s,h,g=>by
  unfold K31.Jm;split
  .rename_i q;refine L9 n S h1 h2 f (h.step n q) ?_;have t:s.1.flatten.getD i 0∈s.1.flatten:=by
    rw[gDq,gEg q];exact gRq q
   obtain⟨u,C⟩:=h.mem n t;obtain⟨z,B⟩:=wN n (n.hneg _ u);unfold K31.zJ;split
   .exact g
   .intro y l;simp only[fAq,aU]at l;rcases mAq.mp l with l|l
    .exact g y l
    .exact h1 _ z _ B (h2 _ u (g _ t)) y ((K31.rot_perm _ _).mem_iff.mp l)
  .exact g
theorem Oz(l:Mp rs) (n:e∈rs.flatten) (S:Int->Prop) (h1:∀r∈rs,∀x∈r,S x->∀y∈r,S y) (h2:∀x∈rs.flatten,S x->S (-x)) (h0:S e):∀x∈(K31.rnd rs e).1.flatten,S x:=L9 l S h1 h2 2000 (K31.Dr l n) (by
 obtain⟨t,u⟩:=wN l n;intro x s;rw[show (K31.Ar rs e).1.flatten=K31.rot (rs.getD (plc rs e) []) e by simp[K31.Ar]]at s
 exact h1 _ t _ u h0 x ((K31.rot_perm _ _).mem_iff.mp s))
theorem nx_at(hn:rs.flatten.Nodup) {r:List Int}(hr:r∈rs) {j:Nat}{z y:Int}(l:r[j]?=some z) (n:r[(j+1) % r.length]?=some y):K15.nx rs z=y:=by
 have s:=(gSq.mp l).1;have h1:=K51.AW l ((K15.rot_at s).trans n);have h2:(ao z,y)∈K51.pY rs:=by
  unfold K51.pY;exact mFq.mpr ⟨_,mMq.mpr ⟨r,hr,rfl⟩,mGq h1⟩
 have t:=K15.vJ (K15.CY hn) h2;unfold K15.nx;rw[t]
end
theorem Lb{r:List Int}{k j:Nat}(l:k<r.length) (n:j<r.length):(r.drop k++r.take k)[j]?=r[(k+j) % r.length]?:=by
 by_cases c:k+j<r.length
 .rw [gZq (by rw[aO];lia),dY,bF c]
 .rw [gYq (by rw[aO];lia),aO,dJ (by lia)]
  have:(k+j) % r.length=j-(r.length-k):=by
   rw[Nat.mod_eq_sub_mod (by lia),bF (by lia)]
   lia
  rw[this]
theorem J1{rs:List (List Int)}(hn:rs.flatten.Nodup) {r:List Int}(hr:r∈rs) {o:Int}(u:o∈r) {j:Nat}{z y:Int}(l:(K31.rot r o)[j]?=some z) (n:(K31.rot r o)[(j+1) % (K31.rot r o).length]?=some y):K15.nx rs z=y:=by
 have hl:=K31.rot_len r o;have s:=(gSq.mp l).1;rw[hl]at s n;have t:r.idxOf o<r.length:=dN.mpr u;have x:0<r.length:=by lia
 unfold K31.rot at l n;rw[Lb t s]at l;rw[Lb t (dh _ x)]at n;refine nx_at hn hr l ?_;have:((r.idxOf o+j) % r.length+1) % r.length=(r.idxOf o+(j+1) % r.length) % r.length:=by
  rw[gO,Nat.add_mod_mod];rfl
 rw[this];exact n
section
variable {rs:List (List Int)}{e:Int}
theorem Ex{Q:List (List Int)}{i:Nat}{q:List Int}(h:Q[i]?=some q):(Q.take (i+1)).flatten=(Q.take i).flatten++q:=qm h
theorem BV{Q:List (List Int)}{i:Nat}{q:List Int}(h:Q[i]?=some q) {k:Nat}(l:k<q.length):Q.flatten[(Q.take i).flatten.length+k]?=q[k]?:=by
 rw[NV Q (i+1),Ex h,aM,gYq (by lia),gD,gZq l]
end
end K32
namespace K16
open PySem L2 Mr Z Xe Zl
theorem LR{i j:Int}(h:0<j) (h2:j.natAbs.log2<9000):OX (.int i) (.int j)=some (.int (i / j)):=vZ ⟨h,h2⟩ _
theorem UJ:HF (.int 10) (.int 57)=some (.int (10 ^ 57)):=by simp_arith []
noncomputable def pm(l:List Int):List Int:=l.flatMap λx=>[x, -x]
theorem LM(l:List Int) (x:Int):pm (l++[x])=pm l++[x, -x]:=by unfold pm;rw[cJ];simp
theorem Kv(l:List Int):(pm l).length=2*l.length:=by
 unfold pm
 induction l with
 |nil=>rfl
 |cons a l n =>
  rw[bD,lAq,n,lCq (as:=l)];show 2+_=_;lia
theorem Pd{l:List Int}{z:Int}(h:z∈pm l):-z∈pm l:=by
 unfold pm at h ⊢;rw[bM]at h ⊢;obtain⟨x,n,r⟩:=h;refine⟨x,n,?_⟩;rcases ar.mp r with e|e
 .rw [e];simp
 .rw [mSq.mp e,cY];simp
noncomputable def kvI(M:List (Int×Int)):List (oq×D):=M.map λp=>(.inl p.1,.int p.2)
theorem Hb(M:List (Int×Int)):kvI M=K51.zi (M.map λp=>((ao p.1:oq),p.2)):=by unfold kvI K51.zi;rw[mPq];rfl
theorem Jj{M:List (Int×Int)}{z x:Int}(h:z∉M.map (·.1)):vH (kvI M) (.inl z) (.int x)=kvI (M++[(z,x)]):=by
 rw[vF]
 .unfold kvI;rw[mBq];rfl
 .intro m;obtain⟨p,l,n⟩:=mMq.mp m;obtain⟨q,r,rfl⟩:=mMq.mp l;exact h (mMq.mpr ⟨q,r,ao.inj n⟩)
theorem Ah{α β:Type}(f:α->β):∀(l:List α) (k:Nat),(l.map f).eraseIdx k=(l.eraseIdx k).map f
 | [],_=>rfl
 |a::l,0=>rfl
 |a::l,k+1=>by
  rw[ax,bP,bP,ax,Ah f l k]
end K16
namespace K16
open PySem L2 Mr Z Xe Zl K15
section
variable {rs:List (List Int)}
theorem nx_at(hn:rs.flatten.Nodup) {r:List Int}(hr:r∈rs) {j:Nat}{z y:Int}(l:r[j]?=some z) (n:r[(j+1) % r.length]?=some y):nx rs z=y:=by
 have s:=(gSq.mp l).1;have h1:=K51.AW l ((rot_at s).trans n);have h2:(ao z,y)∈K51.pY rs:=by
  unfold K51.pY;exact mFq.mpr ⟨_,mMq.mpr ⟨r,hr,rfl⟩,mGq h1⟩
 have t:=vJ (CY hn) h2;unfold nx;rw[t]
theorem Li(hn:rs.flatten.Nodup) {r:List Int}(hr:r∈rs) {e:Int}(h0:r[0]?=some e):∀n,r[n % r.length]?=some (itr (nx rs) n e)
 |0=>by rw[ik];exact h0
 |n+1=>by
  have t:0<r.length:=(gSq.mp h0).1;have u:=Li hn hr h0 n;have x:(n+1) % r.length<r.length:=dh _ t;have l:(n % r.length+1) % r.length=(n+1) % r.length:=by rw[gO]
  obtain⟨y,s⟩:∃y,r[(n+1) % r.length]?=some y:=⟨_,gEg x⟩;have:=nx_at hn hr u (l ▸ s);rw[s,←this];rfl
theorem Gk(hn:rs.flatten.Nodup) {r:List Int}(hr:r∈rs) {e:Int}(h0:r[0]?=some e):Cy (nx rs) e r:=by
 have s:0<r.length:=(gSq.mp h0).1;have l:=Li hn hr h0;refine⟨s,?_,?_,bj.sublist (aK hr) hn⟩
 .refine dC λi=>?_
  rw[gMq]
  by_cases n:i<r.length
  .rw [bY n,cj,←l i,bF n]
  .rw [bb (by lia),bb (by rw[aD];lia)]
   rfl
 .have:=l r.length;rw[cZ,h0]at this;exact(aT.inj this).symm
noncomputable def ne(rs:List (List Int)):List (List Int):=rs.filter λr=>!decide (r=[])
theorem Dc:∀rs:List (List Int),(ne rs).flatten=rs.flatten
 | []=>rfl
 | []::rs=>Dc rs
 | (x::r)::rs=>by
  show ((x::r)::ne rs).flatten=_;rw[fCq,fCq,Dc rs]
theorem GC:∀rs:List (List Int),(xM rs++ne rs).Perm rs
 | []=>.nil
 | []::rs=>(GC rs).cons []
 | (x::r)::rs=>List.perm_middle.trans ((GC rs).cons (x::r))
theorem Vd{r:List Int}:r∈ne rs↔r∈rs/\r≠[]:=by
 unfold ne;rw[bO];simp
theorem QB(hn:rs.flatten.Nodup):Jl (nx rs) rs.flatten (ne rs):=by
 refine⟨λl hl=>?_,by rw[Dc];exact hn,λx=>by rw[Dc]⟩
 obtain⟨h1,h2⟩:=Vd.mp hl;cases l with
 |nil=>exact absurd rfl h2
 |cons x l=>exact⟨x,Gk hn h1 rfl⟩
theorem KQ(hn:rs.flatten.Nodup):Hg (nx rs) rs.flatten:=⟨hn,λe l=>xF hn l,λa n b r h=>Q5 hn n r h⟩
theorem L5{f:Int->Int}(hn:rs.flatten.Nodup) (h:∀l∈rs,l=[]∨∃e,Cy f e l) {x:Int}(u:x∈rs.flatten):nx rs x=f x:=by
 obtain⟨l,hl,n⟩:=mFq.mp u;rcases h l hl with rfl|⟨e,c⟩
 .cases n
 .obtain ⟨j,r⟩:=ay.mp n;have s:=(gSq.mp r).1;have t:=c.at s;rw[r]at t;have y:=aT.inj t;refine nx_at hn hl r ?_;rw[y];show _=some (itr f (j+1) e)
  by_cases q:j+1<l.length
  .rw [bF q];exact c.at q
  .have z:j+1=l.length:=by lia
   rw[z,cZ,c.back];exact c.at (i:=0) (by lia)
theorem Fg{f g:Int->Int}{E:List Int}(l:Hg f E) (h:∀x∈E,f x=g x) {e:Int}(r:e∈E):∀n,itr f n e=itr g n e
 |0=>rfl
 |n+1=>by
  show f (itr f n e)=g (itr g n e);rw[h _ (l.itr_mem r n),Fg l h r n]
theorem Rj{f g:Int->Int}{E:List Int}(s:Hg f E) (h:∀x∈E,f x=g x) {e:Int}(t:e∈E) {l:List Int}(c:Cy f e l):Cy g e l:=by
 have r:=Fg s h t;refine⟨c.len,?_,by rw[←r];exact c.back,c.nd⟩
 rw[←mCq (f:=λn=>itr f n e) λn _=>r n]
 exact c.get
theorem Nt{f g:Int->Int}{E n:List Int}{L:List (List Int)}(r:Hg f E) (h:∀x∈E,f x=g x) (s:∀x,x∈E↔x∈n) (o:Jl f E L):Jl g n L:=by
 refine⟨λl hl=>?_,o.dj,λx=>(o.all x).trans (s x)⟩
 obtain⟨e,c⟩:=o.cy l hl;exact⟨e,Rj r h ((o.all e).mp (mFq.mpr ⟨l,hl,c.self⟩)) c⟩
theorem CW{f:Int->Int}{e:Int}{l:List Int}(c:Cy f e l):∃n,Cy f n (good l):=by
 unfold good
 by_cases h:qd l l.length<l.length
 .exact ⟨_,c.rot h⟩
 .refine ⟨e,?_⟩;unfold Mr.rot;rw[bz (by lia),bA (by lia),eY]
  exact c
theorem wx:∀rs:List (List Int),xM rs=bN (rs.count []) []
 | []=>rfl
 | []::rs=>by
  rw[List.count_cons_self,hU,←wx rs];rfl
 | (x::r)::rs=>by
  rw[gV (by simp),←wx rs]
  rfl
theorem DG:∀{L:List (List Int)},(∀l∈L,1<=l.length)->L.length<=L.flatten.length
 | [],_=>ai _
 |a::L,h=>by
  have h1:=h a (aw ..);have h2:=DG (L:=L) λl hl=>h l (mCo _ hl)
  rw[lCq,fCq,lAq];lia
theorem ID:∀{L:List (List Int)},(∀l∈L,1<=l.length)->(L.map good).count []=0
 | [],_=>rfl
 |a::L,h=>by
  have h1:=h a (aw ..);have n:good a≠[]:=λq=>by
   have:=congrArg bp q;rw[Iv,cg]at this;lia
  rw[ax,gV n];exact ID λl hl=>h l (mCo _ hl)
theorem Mc{T:List (List Int)}(h:T.flatten.Nodup):∀r∈T,r.Nodup:=λr hr=>bj.sublist (aK hr) h
theorem QK(s:Mp rs) (y:(xM rs).length+rs.flatten.length<=63):∃M:List (List Int),vq [dM rs]=some (.ow (M.map aI))/\Mp M/\vq [dM M]=some (.ow ((uf (rs.map good)).map aI))/\M.flatten.Perm rs.flatten/\uf (M.map good)=M/\M.count []=rs.count []/\M.length<=63:=by
 obtain⟨L,z,P⟩:=B1 s y;have one:=G0 s;have Q:L.flatten.Perm rs.flatten:=(bS z.dj s.hn).mpr z.all;have B:∀l∈L,1<=l.length:=λl hl=>by obtain⟨e,c⟩:=z.cy l hl;exact c.len
 have G:=DG B;rw[Q.length_eq]at G;have S:(xM rs).flatten=[]:=by
  unfold xM;refine List.flatten_eq_nil_iff.mpr λl hl=>?_
  obtain⟨x,_,rfl⟩:=mMq.mp hl;rfl
 have C:(xM rs++L).flatten=L.flatten:=by rw[fAq,S,eY]
 have t:(uf ((xM rs++L).map good)).flatten.Perm rs.flatten:=by
  refine(yT (qj _)).trans ((tV si _).trans ?_);rw[C];exact Q
 have tw:=Eu (T:=xM rs++L) (by rw[C];exact z.dj)
 have n:(uf ((xM rs++L).map good)).count []=rs.count []:=by
  rw[(qj _).count_eq,mBq,cAq,ID B,wx,List.map_replicate,QQ,List.count_replicate_self];rfl
 have E:(uf ((xM rs++L).map good)).length<=63:=by
  rw[DM,lMq,lAq];lia
 have u:∀l∈uf ((xM rs++L).map good),l=[]∨∃e,Cy (fw rs) e l:=λl hl=>by
  obtain⟨m,H,rfl⟩:=mMq.mp ((qj _).mem_iff.mp hl);rcases mAq.mp H with q|q
  .left;unfold xM at q;obtain⟨x,_,rfl⟩:=mMq.mp q;rfl
  .right;obtain⟨e,c⟩:=z.cy m q;exact CW c
 generalize uf ((xM rs++L).map good)=M at P t tw n E u;have R:M.flatten.Nodup:=t.nodup_iff.mpr s.hn;have r:Mp M:=⟨R,by rw[t.length_eq];exact s.hl,by lia,λe U=>t.mem_iff.mpr (s.hneg e (t.mem_iff.mp U))⟩
 have I:(xM M).length=(xM rs).length:=by rw[wx,wx,n]
 obtain⟨L2,X,Y⟩:=B1 r (by rw[I,t.length_eq];exact y)
 have J:∀x∈M.flatten,fw M x=nx rs x:=λx hx=>by
  show nx M (-x)=_;rw[L5 R u (r.hneg x hx)];show nx rs (- -x)=_;rw[cY]
 have O:=Nt (G0 r) J (λx=>t.mem_iff) X
 have hp:=O.perm (KQ s.hn) (QB s.hn);refine⟨M,P,r,?_,t,tw,n,E⟩;rw[Y];have hq:((xM M++L2).map good).Perm (rs.map good):=by
  rw[mBq,wx M,n,←wx rs];refine(dU.append_left _ hp).trans ?_;rw[←mBq];exact(GC rs).map good
 rw[srt_congr hq]
end
end K16
namespace K19
open PySem L2 Mr Z Xe Zl K15 K16
theorem Rv(t:List Int) (k:Nat) (n:k<=t.length):(Mr.rot t k).reverse=Mr.rot t.reverse (t.length-k):=by
 unfold Mr.rot;rw[hV];have e:t.reverse=(t.drop k).reverse++(t.take k).reverse:=by rw[←hV,bq]
 have l:(t.drop k).reverse.length=t.length-k:=by rw[cH,aO]
 rw[e,←l,fW,fq]
theorem O8{t:List Int}(h:t.Nodup):t.reverse.Nodup:=(iy t).nodup_iff.mpr h
theorem HW{t:List Int}(h:t.Nodup):good (good t).reverse=good t.reverse:=by
 unfold good;rw[Rv _ _ (D8 t)];exact Dy (O8 h) _
def mr(rs:List (List Int)):List (List Int):=uf ((rs.map cF).map good)
section
variable {rs:List (List Int)}
theorem D1:∀rs:List (List Int),(rs.map cF).flatten.Perm rs.flatten
 | []=>.nil
 |r::rs=>by
  rw[ax,fCq,fCq];exact(iy r).append (D1 rs)
theorem Dk(rs:List (List Int)):(mr rs).flatten.Perm rs.flatten:=(yT (qj _)).trans ((tV si _).trans (D1 rs))
theorem Vt(rs:List (List Int)):(mr rs).length=rs.length:=by unfold mr;rw[DM,lMq,lMq]
theorem Ub(hn:rs.flatten.Nodup):mr (mr rs)=uf (rs.map good):=by
 unfold mr;refine srt_congr ?_;have h1:((uf ((rs.map cF).map good)).map cF).Perm ((((rs.map cF).map good)).map cF):=(qj _).map _;refine(h1.map good).trans ?_;rw[mPq,mPq,mPq];refine dU.of_eq (mCq λr hr=>?_)
 show good (good r.reverse).reverse=good r;rw[HW (O8 (Mc hn r hr)),gY]
theorem Xk(l:Mp rs):Mp (mr rs):=by
 have p:=Dk rs;exact⟨p.nodup_iff.mpr l.hn,by rw[p.length_eq];exact l.hl,by rw[Vt];exact l.hr,λe n=>p.mem_iff.mpr (l.hneg e (p.mem_iff.mp n))⟩
theorem Yj(hn:rs.flatten.Nodup) {x:Int}(C:x∈rs.flatten):nx (mr rs) (nx rs x)=x:=by
 have n:(rs.map cF).flatten.Nodup:=(D1 rs).nodup_iff.mpr hn;have z:(mr rs).flatten.Nodup:=(Dk rs).nodup_iff.mpr hn;have s:∀l∈mr rs,l=[]∨∃e,Cy (nx (rs.map cF)) e l:=λl hl=>by
  unfold mr at hl;obtain⟨t,ht,rfl⟩:=mMq.mp ((qj _).mem_iff.mp hl);cases t with
  |nil=>exact .inl rfl
  |cons a t=>exact .inr (CW (Gk n ht rfl))
 rw[L5 z s ((Dk rs).mem_iff.mpr (xF hn C))];obtain⟨r,hr,B⟩:=mFq.mp C;obtain⟨j,u⟩:=ay.mp B;have G:=(gSq.mp u).1;have H:(j+1) % r.length<r.length:=dh _ (by lia)
 obtain⟨y,E⟩:∃y,r[(j+1) % r.length]?=some y:=⟨_,gEg H⟩;rw[nx_at hn hr u E];refine nx_at n (mMq.mpr ⟨r,hr,rfl⟩) (j:=r.length-1-(j+1) % r.length) ?_ ?_
 .rw [fF (by lia)]
  rw[show r.length-1-(r.length-1-(j+1) % r.length)=(j+1) % r.length by lia]
  exact E
 .rw [cH,fF (dh _ (by lia))]
  by_cases q:j+1<r.length
  .rw [bF q,bF (by lia),show r.length-1-(r.length-1-(j+1)+1)=j by lia]
   exact u
  .have e:j+1=r.length:=by lia
   rw[e,cZ,show r.length-1-0+1=r.length by lia,cZ,show r.length-1-0=j by lia]
   exact u
theorem W8{f:Int->Int}{l:List Int}{e:Int}(h0:l[0]?=some e) (B:∀j z y,l[j]?=some z->l[(j+1) % l.length]?=some y->f z=y) (hn:l.Nodup):Cy f e l:=by
 have s:0<l.length:=(gSq.mp h0).1;have t:∀n,l[n % l.length]?=some (itr f n e):=λn=>by
  induction n with
  |zero=>rw[ik];exact h0
  |succ n C =>
   have E:(n+1) % l.length<l.length:=dh _ s;have r:(n % l.length+1) % l.length=(n+1) % l.length:=by rw[gO]
   obtain⟨y,u⟩:∃y,l[(n+1) % l.length]?=some y:=⟨_,gEg E⟩;have q:=B _ _ _ C (r ▸ u);rw[u];exact congrArg some q.symm
 refine⟨s,?_,?_,hn⟩
 .refine dC λi=>?_
  rw[gMq]
  by_cases x:i<l.length
  .rw [bY x,cj,←t i,bF x]
  .rw [bb (by lia),bb (by rw[aD];lia)]
   rfl
 .have:=t l.length;rw[cZ,h0]at this;exact(aT.inj this).symm
end
end K19
namespace K34
open PySem L2 Mr Z Xe Zl
section
variable {rs:List (List Int)}
theorem Xn(h:Mp rs):K51.Mp rs:=⟨h.hn,h.hl,h.hr,h.hneg⟩
end
end K34
namespace K39
open PySem L2 Mr Z Xe Zl
structure Au (G:List (List Int)) (f:Int->Int):Prop where
 mem:∀x∈G.flatten,f x∈G.flatten
 odd:∀x∈G.flatten,f (-x) = -(f x)
 nx:∀x∈G.flatten,f (K15.nx G x)=K15.nx G (f x)
section
variable {G:List (List Int)}{f:Int->Int}
theorem FR(l:Mp G) {r:List Int}(hr:r∈G) {x:Int}(n:x∈r):Cy (K15.nx G) x (K31.rot r x) :=
 K19.W8 (K32.BH n) (λj z y s t=>K32.J1 l.hn hr n s t) ((K31.rot_perm r x).nodup_iff.mpr (K33.Kl l.hn hr))
theorem Ju{g:Int->Int}{e y:Int}{l:List Int}(c:Cy g e l) (h:y∈l):∃n,n<l.length/\y=itr g n e:=by
 rw[c.get]at h;obtain⟨n,hn,rfl⟩:=mMq.mp h;exact⟨n,aN.mp hn,rfl⟩
theorem VR{g:Int->Int}{e:Int}{l m:List Int}(c:Cy g e l) (d:Cy g e m):l=m:=by
 have key:∀{l m:List Int},Cy g e l->Cy g e m->¬ l.length<m.length:=λ{l m} c d h=>by
  have a:=d.nd;rw[d.get,az,aF]at a;have:=eV.mp a 0 l.length (by rw[aD];lia) (by rw[aD];exact h) c.len
  rw[dZ,dZ,c.back]at this;exact this rfl
 have n:l.length=m.length:=by
  have:=key c d;have:=key d c;lia
 rw[c.get,d.get,n]
theorem Bh(l:Mp G) (E:K31.sV G) (S:Int->Prop) {s:Int}(B:s∈G.flatten) (h0:S s) (h1:∀x∈G.flatten,S x->S (-x)) (h2:∀x∈G.flatten,S x->S (K15.nx G x)):∀x∈G.flatten,S x:=λx t=>by
 refine K32.Oz l B S (λr hr x t H y C=>?_) h1 h0 x ((K31.Ap l E B).2.mem_iff.mpr t)
 obtain⟨n,hn,rfl⟩:=Ju (FR l hr t) ((K31.rot_perm r x).mem_iff.mpr C)
 clear C hn
 have u:x∈G.flatten:=mFq.mpr ⟨r,hr,t⟩;have key:itr (K15.nx G) n x∈G.flatten/\S (itr (K15.nx G) n x):=by
  induction n with
  |zero=>exact⟨u,H⟩
  |succ n z=>exact⟨K15.xF l.hn z.1,h2 _ z.1 z.2⟩
 exact key.2
theorem Au.sur(h:Au G f) (n:Mp G) (t:K31.sV G) {s:Int}(r:s∈G.flatten):∀y∈G.flatten,∃x∈G.flatten,f x=y:=by
 refine Bh n t (λy=>∃x∈G.flatten,f x=y) (h.mem s r) ⟨s,r,rfl⟩ (λy u ⟨x,l,e⟩=>⟨-x,n.hneg x l,?_⟩) λy u ⟨x,l,e⟩=>⟨K15.nx G x,K15.xF n.hn l,?_⟩
 .rw [h.odd x l,e]
 .rw [h.nx x l,e]
theorem Au.inj(h:Au G f) (l:Mp G) (t:K31.sV G):∀a∈G.flatten,∀b∈G.flatten,f a=f b->a=b:=λa r b s e=>by
 refine gj λn=>?_
 have:=J6 G.flatten ((G.flatten.erase b).map f) l.hn λy u=>by
  obtain⟨x,z,rfl⟩:=h.sur l t r y u
  by_cases c:x=b
  .exact mMq.mpr ⟨a,(dD n).mpr r,by rw[e,c]⟩
  .exact mMq.mpr ⟨x,(dD c).mpr z,rfl⟩
 rw[lMq,eZ s]at this;have:=bH s;lia
theorem Au.cy(h:Au G f) (s:Mp G) (t:K31.sV G) {x:Int}{l:List Int}(u:x∈G.flatten) (c:Cy (K15.nx G) x l):Cy (K15.nx G) (f x) (l.map f):=by
 have key:∀n,itr (K15.nx G) n x∈G.flatten/\f (itr (K15.nx G) n x)=itr (K15.nx G) n (f x):=λn=>by
  induction n with
  |zero=>exact⟨u,rfl⟩
  |succ n r =>
   refine⟨K15.xF s.hn r.1,?_⟩;show f (K15.nx G _)=K15.nx G _;rw[h.nx _ r.1,r.2]
 refine⟨by rw[lMq];exact c.len,?_,?_,?_⟩
 .rw [lMq];have g:=c.get;rw[g,lMq,aD,mPq];exact mCq λn _=>(key n).2
 .rw [lMq,← (key _).2,c.back]
 .refine K33.Gu c.nd λa y b z e=>?_
  obtain⟨n,_,rfl⟩:=Ju c y;obtain⟨m,_,rfl⟩:=Ju c z;exact h.inj s t _ (key n).1 _ (key m).1 e
theorem Au.rot(h:Au G f) (l:Mp G) (r:K31.sV G) {o:Int}(n:o∈G.flatten):K31.rot (G.getD (plc G (f o)) []) (f o)=(K31.rot (G.getD (plc G o) []) o).map f:=by
 obtain⟨s,t⟩:=K32.wN l n;obtain⟨b1,b2⟩:=K32.wN l (h.mem o n);exact VR (FR l b1 b2) (h.cy l r n (FR l s t))
theorem Gq(l:Mp G) {x y:Int}(n:x∈G.flatten) (s:y∈G.flatten):plc G y=plc G x↔y∈K31.rot (G.getD (plc G x) []) x:=by
 rw[(K31.rot_perm _ _).mem_iff];refine⟨λe=>by rw[←e];exact(K32.wN l s).2,λe=>?_⟩
 obtain⟨r,hr,_⟩:=l.at n;refine plc_eq l.hn hr ?_;rw[gDq,hr]at e;exact e
theorem Au.plc(h:Au G f) (l:Mp G) (t:K31.sV G) {x y:Int}(n:x∈G.flatten) (r:y∈G.flatten):Zl.plc G y=Zl.plc G x↔Zl.plc G (f y)=Zl.plc G (f x):=by
 rw[Gq l n r,Gq l (h.mem x n) (h.mem y r),h.rot l t n];refine⟨λq=>mMq.mpr ⟨y,q,rfl⟩,λq=>?_⟩
 obtain⟨z,u,e⟩:=mMq.mp q;have s:z∈G.flatten:=mFq.mpr ⟨_,(K32.wN l n).1,(K31.rot_perm _ _).mem_iff.mp u⟩;rw[←h.inj l t z s y r e];exact u
def YC(f:Int->Int) (G:List (List Int)) (s l:List (List Int)×List Nat):Prop:=l.1=K33.En f s.1/\∀x∈G.flatten,Zl.plc G x∈s.2↔Zl.plc G (f x)∈l.2
theorem Au.ini(h:Au G f) (l:Mp G) (n:K31.sV G) {e:Int}(r:e∈G.flatten):YC f G (K31.Ar G e) (K31.Ar G (f e)):=by
 refine⟨?_,λx s=>?_⟩
 .show [_]=_;rw[h.rot l n r];rfl
 .show _∈[_]↔_∈[_];rw[mSq,mSq];exact h.plc l n r s
theorem Au.step(h:Au G f) (t:Mp G) (u:K31.sV G) {s l:List (List Int)×List Nat}(q:YC f G s l) {o:Int}(n:o∈G.flatten):YC f G (K31.zJ G s o) (K31.zJ G l (f o)):=by
 obtain⟨y,r⟩:=q;unfold K31.zJ
 by_cases c:Zl.plc G o∈s.2
 .rw [pQ c,pQ ((r o n).mp c)];exact⟨y,r⟩
 .rw [qk c,qk λz=>c ((r o n).mpr z)]
  refine⟨?_,λx B=>?_⟩
  .show l.1++[_]=K33.En f (s.1++[_]);rw[h.rot t u n,y];unfold K33.En;rw[mBq];rfl
  .show _∈s.2++[_]↔_∈l.2++[_];rw[mAq,mAq,mSq,mSq,r x B,h.plc t u n B]
theorem Au.go(h:Au G f) (r:Mp G) (y:K31.sV G) {e:Int}:∀(n i:Nat) {s l:List (List Int)×List Nat},K31.RI G e s i->YC f G s l->(K31.Jm G n i l).1=K33.En f (K31.Jm G n i s).1
 |0,i,s,l,_,q=>q.1
 |n+1,i,s,l,z,q=>by
  unfold K31.Jm;have u:l.1.flatten=s.1.flatten.map f:=by rw[q.1,K33.D5]
  by_cases c:i<s.1.flatten.length
  .have x:i<l.1.flatten.length:=by rw[u,lMq];exact c
   rw[pQ c,pQ x];have B:s.1.flatten.getD i 0∈s.1.flatten:=by
    rw[gDq,gEg c];exact gRq c
   have t:=(z.mem r B).1;have C:-(l.1.flatten.getD i 0)=f (-(s.1.flatten.getD i 0)):=by
    rw[h.odd _ t,u,gDq,gMq,gDq,gEg c];rfl
   rw[C];exact h.go r y n (i+1) (z.step r c) (h.step r y q (r.hneg _ t))
  .have x:¬ i<l.1.flatten.length:=by rw[u,lMq];exact c
   rw[qk c,qk x];exact q.1
theorem Au.rnd(h:Au G f) (l:Mp G) (n:K31.sV G) {e:Int}(r:e∈G.flatten):(K31.rnd G (f e)).1=K33.En f (K31.rnd G e).1:=h.go l n 2000 0 (K31.Dr l r) (h.ini l n r)
theorem Au.code(h:Au G f) (n:Mp G) (r:K31.sV G) {e:Int}(s:e∈G.flatten):K33.code (K31.rnd G (f e)).1=K33.code (K31.rnd G e).1:=by
 rw[h.rnd n r s];have sub:∀x∈(K31.rnd G e).1.flatten,x∈G.flatten:=λx l=>(K31.Ap n r s).2.mem_iff.mp l
 exact K33.P3 ⟨λx l=>h.odd x (sub x l),λx l y t=>h.inj n r x (sub x l) y (sub y t)⟩ (K33.CZ n s)
end
section
variable {G:List (List Int)}
theorem Qh{Q R:List (List Int)}(h:Q.map bp=R.map bp) (a:Nat):(Q.take a).flatten.length=(R.take a).flatten.length:=by
 rw[hW,hW,fE,fE,h]
theorem ET(Q:List (List Int)):(K33.code Q).flatten=Q.flatten.map λx=>(Q.flatten.idxOf (-x):Int):=by
 unfold K33.code;rw[iF]
theorem HC(Q:List (List Int)):(K33.code Q).map bp=Q.map bp:=by
 unfold K33.code;rw[mPq];exact mCq λr _=>lMq ..
theorem Qq:∀{l:List Int}{i:Nat}{x:Int},l.Nodup->l[i]?=some x->l.idxOf x=i
 | [],i,x,_,h=>by cases h
 |a::l,0,x,_,h=>by cases h;exact eI
 |a::l,i+1,x,n,h=>by
  have h:l[i]?=some x:=by simpa using h
  have n:=aB.mp n;have ne:a≠x:=λz=>n.1 (z ▸ mGq h)
  rw[fL,beq_false_of_ne ne,Qq n.2 h];rfl
theorem JJ{l:List Int}{x:Int}(h:x∈l):l[l.idxOf x]?=some x:=by
 have hl:=List.idxOf_lt_length_of_mem h;rw[gEg hl];exact congrArg some (fY hl)
theorem Ud(l:Mp G) {e:Int}(n:e∈G.flatten):(K31.rnd G e).1.flatten[0]?=some e:=by
 obtain⟨Q,r⟩:=(K31.Cz l n).hd;have h:=K32.BH (K32.wN l n).2;rw[r,fCq,gZq (gSq.mp h).1];exact h
theorem TL(l:Mp G) (hc:K31.sV G) {s e:Int}(z:s∈G.flatten) (J:e∈G.flatten) (h:K33.code (K31.rnd G e).1=K33.code (K31.rnd G s).1):∃f,Au G f/\f s=e:=by
 have r1:=K32.QG l z;have r2:=K32.QG l J;have s0:=Ud l z;have e0:=Ud l J;have B:=(K31.Ap l hc z).2;have L:=(K31.Ap l hc J).2;have n1:=K33.Qx l z;have g1:=K33.CZ l z;have g2:=K33.CZ l J;generalize (K31.rnd G s).1=Q at h r1 s0 B n1 g1;generalize (K31.rnd G e).1=R at h r2 e0 L g2;have hl:Q.map bp=R.map bp:=by rw[←HC,←HC R,h]
 have hz:Q.flatten.length=R.flatten.length:=by rw[B.length_eq,L.length_eq]
 have hf:∀(i:Nat) (x y:Int),Q.flatten[i]?=some x->R.flatten[i]?=some y->Q.flatten.idxOf (-x)=R.flatten.idxOf (-y):=λi x y a b=>by
  have q:=congrArg (λc=>c.flatten[i]?) h
  rw[ET,ET,gMq,gMq,a,b]at q;have q:((R.flatten.idxOf (-y):Nat):Int)=(Q.flatten.idxOf (-x):Nat):=by simpa using q
  lia
 have key:∀(i:Nat) (x y:Int),Q.flatten[i]?=some x->R.flatten[i]?=some y->R.flatten.getD (Q.flatten.idxOf x) 0=y:=λi x y a b=>by
  rw[Qq n1 a,gDq,b];rfl
 have C:∀(i:Nat) (x:Int),Q.flatten[i]?=some x->∃y,R.flatten[i]?=some y:=λi x a=>⟨_,gEg (by have:=(gSq.mp a).1;lia)⟩
 refine⟨λx=>R.flatten.getD (Q.flatten.idxOf x) 0,⟨λx E=>?_,λx E=>?_,λx E=>?_⟩,key 0 s e s0 e0⟩
 .have a:=JJ (B.mem_iff.mpr E);obtain⟨y,b⟩:=C _ _ a;show R.flatten.getD _ 0∈_;rw[key _ _ _ a b];exact L.mem_iff.mp (mGq b)
 .have M:=B.mem_iff.mpr E;have a:=JJ M;obtain⟨y,b⟩:=C _ _ a;show R.flatten.getD _ 0 = -R.flatten.getD _ 0;rw[key _ _ _ a b,hf _ _ _ a b,gDq,JJ (g2 y (mGq b))];rfl
 .obtain ⟨q,hq,O⟩:=mFq.mp (B.mem_iff.mpr E);obtain⟨a,P⟩:=ay.mp hq;obtain⟨k,S⟩:=ay.mp O;have U:=(gSq.mp S).1;have H:=congrArg (·[a]?) hl;rw[gMq,gMq,P]at H;obtain⟨t,ht,r⟩:=oMq.mp H.symm;have u:(k+1) % q.length<q.length:=dh _ (by lia)
  obtain⟨y,hy⟩:∃y,t[k]?=some y:=⟨_,gEg (by lia)⟩
  obtain⟨X,I⟩:∃X,q[(k+1) % q.length]?=some X:=⟨_,gEg u⟩;obtain⟨Y,n⟩:∃Y,t[(k+1) % t.length]?=some Y:=⟨_,gEg (by rw[r];exact u)⟩
  obtain⟨c,o,c1,c2,rfl⟩:=r1.row q hq;obtain⟨d,o2,d1,d2,rfl⟩:=r2.row t (mGq ht);have f1:=key _ x y ((K32.BV P U).trans S) (by rw[Qh hl];exact(K32.BV ht (by lia)).trans hy)
  rw[r]at n;have f2:=key _ X Y ((K32.BV P u).trans I) (by rw[Qh hl];exact(K32.BV ht (by lia)).trans n)
  rw[←r]at n;show R.flatten.getD (Q.flatten.idxOf (K15.nx G x)) 0=K15.nx G (R.flatten.getD _ 0);rw[f1,K32.J1 l.hn c1 c2 S I,K32.J1 l.hn d1 d2 hy n,f2]
theorem IL(l:Mp G) (n:K31.sV G) {s e:Int}(r:s∈G.flatten) (t:e∈G.flatten):K33.code (K31.rnd G e).1=K33.code (K31.rnd G s).1↔∃f,Au G f/\f s=e :=
 ⟨TL l n r t,λ⟨f,h,u⟩=>by rw[←u];exact h.code l n r⟩
theorem Au.one{f g:Int->Int}(h:Au G f) (k:Au G g) (n:Mp G) (r:K31.sV G) {s:Int}(t:s∈G.flatten) (e:f s=g s):∀x∈G.flatten,f x=g x :=
 Bh n r (λx=>f x=g x) t e (λx l e=>by rw[h.odd x l,k.odd x l,e]) λx l e=>by rw[h.nx x l,k.nx x l,e]
end
def Ok(G:List (List Int)) (s e:Int):Prop:=∃f,Au G f/\f s=e
def Of(G:List (List Int)) (s e:Int):Bool:=@decide (Ok G s e) (cX _)
theorem uL{G:List (List Int)}{s e:Int}:Of G s e=true↔Ok G s e:=@decide_eq_true_iff _ (cX _)
def af(G:List (List Int)) (s e:Int):Int->Int:=@dite _ (Ok G s e) (cX _) (λh=>Classical.choose h) λ_=>id
theorem wX{G:List (List Int)}{s e:Int}(h:Ok G s e):Au G (af G s e)/\af G s e s=e:=by
 unfold af;rw[dif_pos h];exact Classical.choose_spec h
def OB(G:List (List Int)) (s e:Int):List (List Int):=uf (G.flatten.map λx=>[x,af G s e x])
def Hi(G:List (List Int)) (s:Int) (E:List Int):List (List (List Int)):=(E.filter (Of G s)).map (OB G s)
theorem srt_congr{a b:List (List Int)}(l:a.Perm b):uf a=uf b:=yR ((qj a).trans l) (ur a)
section
variable {G:List (List Int)}{s e:Int}
theorem AY(l:Mp G) (n:K31.sV G) (r:s∈G.flatten) {f:Int->Int}(a:Au G f) (b:f s=e) {L:List (List Int)}(h:L.Perm (G.flatten.map λx=>[x,f x])):uf L=OB G s e:=by
 have k:=wX ⟨f,a,b⟩;have eq:=a.one k.1 l n r (b.trans k.2.symm);unfold OB;rw[srt_congr h];exact congrArg uf (mCq λx t=>by rw[eq x t])
theorem yy{E F:List Int}(h:E.Perm F):BY (Hi G s E)=BY (Hi G s F):=LU ((wA _).trans ((h.filter _).map _)) (CH _)
theorem Ee(f:Int->Int):∀E:List Int,cc (λx y=>[x,y]) E (E.map f)=E.map λx=>[x,f x]
 | []=>rfl
 |x::E=>by rw[ax,gK,Ee f E];rfl
end
end K39
namespace K39
open PySem L2 Mr Z Xe Zl
open K31 (vP Nm Wm tj)
open K12 (BC)
def JT(st sh a b:Int) (o n:Nat):List Int:=(aS n).map λk:Nat=>BC st sh a b ((o+k:Nat):Int)
theorem RG(st sh a b:Int) (o n:Nat):tj st sh a b (o+n)=tj st sh a b o++JT st sh a b o n:=by
 unfold tj JT;rw[List.range_add,mBq,mPq];rfl
theorem Ko{ns:List Int}{st sh a b:Int}{p n:Nat}(s:p<12) (hn:n<=12) (h:∀k:Nat,K31.rO [.int (cell ns 0),.int (cell ns 1),.int (k:Int)]=some (.sh (.int (BC st sh a b k)))):qA qz (kSc (rd K31.rO (nD (rd Zl.oj (nD (nC 1) (nD (rC (.int 0)) nV))) (nD (rd Zl.oj (nD (nC 1) (nD (rC (.int 1)) nV))) (nD (oN Ba (oN CS (nC 2) (nC 3)) (nC 0)) nV))))) [some (.sh (.scr ns)),some (.sh (.int (p:Int))),some (.sh (.int (n:Int)))] (pR 0 n)=some ((JT st sh a b (p*n) n).map λz=>.sh (.int z)):=by
 rw[Z.rL (λd=>match d with|.int k=>.sh (.int (BC st sh a b ((p*n:Nat)+k)))|_=>.sh .non)]
 .rw [vG,mPq];unfold JT;rw[mPq];refine congrArg some (mCq λk _=>?_)
  show AV.sh (.int _)=AV.sh (.int _);push_cast;rfl
 .intro d hd;rw[vG]at hd;obtain⟨k,_,rfl⟩:=mMq.mp hd;have l:=h (p*n+k);push_cast at l;have r:CS (.int (p:Int)) (.int (n:Int))=some (.int ((p:Int)*n)):=LJ (by lia) (by lia)
  refine⟨[some (.sh (.int (k:Int))),some (.sh (.scr ns)),some (.sh (.int (p:Int))),some (.sh (.int (n:Int)))],?_⟩
  simp_arith [Me,LY,r,l]
  push_cast;rfl
structure Fw (nm:List Int) (T:List (List Int)):Prop where
 cnt:∃left,∀z,T.flatten.count z+(vP left).count z=(vP nm).count z
 tr:K11.B9 T
theorem KZ(a b:List Int) (z:Int):(vP (a++b)).count z=(vP a).count z+(vP b).count z:=by
 unfold vP;rw[cJ,cAq]
theorem Fw.add{r s t u:List Int}{oY cs:List (List Int)}(h:Fw r (t::oY)) (k:Fw s (u::cs)):Fw (r++s) ((t++u)::(oY++cs)):=by
 obtain⟨l1,B⟩:=h.cnt;obtain⟨l2,C⟩:=k.cnt;refine⟨⟨l1++l2,λz=>?_⟩,λi h0 E=>?_⟩
 .have G:=B z;have H:=C z;rw[KZ,KZ,fCq,fAq,cAq,cAq,cAq];rw[fCq,cAq]at G H;lia
 .obtain ⟨i,rfl⟩:∃j,i=j+1:=⟨i-1,by lia⟩
  rw[lCq,lAq]at E
  by_cases c:i<oY.length
  .obtain ⟨j,e,x,l,n⟩:=h.tr (i+1) (by lia) (by rw[lCq];lia)
   refine⟨j,e,x,?_,?_⟩
   .cases j with
    |zero=>exact bQ _ l
    |succ j =>
     show e∈(oY++cs).getD j [];rw[gDq,gZq (by lia),←gDq]
     exact l
   .show -e∈(oY++cs).getD i [];rw[gDq,gZq c,←gDq];exact n
  .obtain ⟨j,e,x,l,n⟩:=k.tr (i-oY.length+1) (by lia) (by rw[lCq];lia)
   have y:-e∈(oY++cs).getD i []:=by
    rw[gDq,gYq (by lia),←gDq]
    exact n
   cases j with
   |zero=>exact⟨0,e,by lia,aC _ l,y⟩
   |succ j =>
    refine⟨oY.length+j+1,e,by lia,?_,y⟩
    show e∈(oY++cs).getD (oY.length+j) [];rw[gDq,gYq (by lia),gD,←gDq]
    exact l
abbrev fs(ns:List Int) (many each:Nat) (l:List Int) (oY:List (List Int)) (v4 v5 v6:Option AV):AS:=[some (.sh (.scr ns)),some (.sh (.int (many:Int))),some (.ow (aI l::oY.map λr=>.sh (dI r))),some (.sh (.int (each:Int))),v4,v5,v6]
theorem Fe{nm:List Int}{T:List (List Int)}(h:Fw nm T):T.length<=1+2*nm.length:=by
 have s:T.flatten.length<=2*nm.length:=by
  obtain⟨left,c⟩:=h.cnt;have:(T.flatten++vP left).Perm (vP nm):=cI.mpr λz=>by rw[cAq];exact c z
  have:=this.length_eq;rw[lAq,K31.yW,K31.yW]at this;lia
 cases T with
 |nil=>simp
 |cons r T =>
  have ne:∀t∈T,1<=t.length:=λt ht=>by
   obtain⟨i,n⟩:=ay.mp ht;obtain⟨j,e,_,_,l⟩:=h.tr (i+1) (by lia) (by rw[lCq];have:=(gSq.mp n).1;lia)
   have l:-e∈T.getD i []:=l;rw[gDq,n]at l;exact bH l
  have key:∀T:List (List Int),(∀t∈T,1<=t.length)->T.length<=T.flatten.length:=λT=>by
   induction T with
   |nil=>intro _;exact ai _
   |cons t T u =>
    intro h;have:=u λt ht=>h t (mCo _ ht)
    have:=h t (aw ..);rw[fCq,lAq,lCq];lia
  have:=key T ne;rw[fCq,lAq]at s;rw[lCq];lia
theorem YI(st sh a b:Int) (n:Nat):Fw (tj st sh a b (0*n)) [[]]:=⟨⟨[],λz=>by rw[gF];rfl⟩,K11.Il _⟩
end K39
namespace K34
open PySem L2 Mr Z Xe Zl
theorem Qk{α:Type}(l:List α):NH [.list ((l.map λ_=>AV.sh (.bl true)).map oa)]=some (.bl true):=by
 have e:(l.map λ_=>AV.sh (.bl true)).map oa=(l.map λ_=>true).map D.bl:=by
  rw[mPq,mPq];exact mCq λc _=>by simp
 rw[e,Yf,CB];have:(l.map λ_=>true).all id=true:=by rw[gw];intro b n;obtain⟨_,_,rfl⟩:=mMq.mp n;rfl
 rw[cj,this]
end K34
namespace K35
open PySem PySem.Spec PyProof.Rows L2 Mr Z Xe Zl
open K12 (gm uN)
theorem Ke:∀{ds:List D}{ps:List PyData},ds.length=ps.length->(∀(i:Nat) (d:D) (p:PyData),ds[i]?=some d->ps[i]?=some p->py d=some p)->Fy ds=some ps
 | [],[],_,_=>by simp[Fy]
 |d::ds,p::ps,l,h=>by
  have h0:=h 0 d p rfl rfl;have n:=Ke (ds:=ds) (ps:=ps) (by simpa using l) λi d p a b=>h (i+1) d p a b
  simp[Fy,h0,n]
theorem J2{n:Nat}{d:D}{p:PyData}(h:Ce n d p):py d=some p:=by
 induction h with
 |non=>rfl
 |bl=>rfl
 |int=>rfl
 |str _=>rfl
 |list l _ r=>rw[py,Ke l r];rfl
 |tup l _ r=>rw[py,Ke l r];rfl
theorem L4{n:Nat}{d:D}{p:PyData}(h:Ce n d p) (hn:n<=64):wZ d d=some (.bl true):=by
 have l:=J2 h;unfold wZ;rw[l];show (if _ then _ else _)=_
 rw[pQ ⟨h.shaped hn,h.shaped hn,h.mix⟩,same_self]
theorem Ak{α:Type}{f:α->D}{g:α->PyData}{n:Nat}(l:List α) (h:∀x,Ce n (f x) (g x)):∀(i:Nat) (d:D) (p:PyData),(l.map f)[i]?=some d->(l.map g)[i]?=some p->Ce n d p:=λi d p a b=>by
 rw[gMq]at a b;obtain⟨x,r,rfl⟩:=oMq.mp a;rw[r]at b;cases b;exact h x
end K35
namespace K39
open PySem L2 Mr Z Xe Zl
open K31 (vP Nm Wm tj gm)
theorem NN{r:List Int}(h:r≠[]):∃M t,good r=M::t/\∀x∈r,M<=x:=by
 cases r with
 |nil=>exact absurd rfl h
 |cons n l =>
  have u:=vy l n;have y:=vd l n;have s:∀x∈n::l,l.foldl min n<=x:=λx B=>(ar.mp B).elim (λe=>e ▸ y.1) (y.2 x)
  have e:good (n::l)=K31.rot (n::l) (l.foldl min n):=by
   show (n::l).drop _++(n::l).take _=_;rw[←zA u s];rfl
  have h0:=K32.BH u;rw[←e]at h0;cases z:good (n::l) with
  |nil=>rw[z]at h0;cases h0
  |cons a t =>
   rw[z]at h0;cases h0;exact⟨_,t,rfl,s⟩
theorem MH{T:List (List Int)}(J:0<T.length) (B:∀t∈T,t≠[]):∃s r,(gm T)[0]?=some (s::r)/\∀x∈(gm T).flatten,s<=x:=by
 have pm:=K12.uN T;have row:∀g∈gm T,∃M t,g=M::t/\∀x∈g,M<=x:=λg I=>by
  obtain⟨t,ht,rfl⟩:=mMq.mp (pm.mem_iff.mp I);obtain⟨M,u,e,l⟩:=NN (B t ht);exact⟨M,u,e,λx C=>l x ((si t).mem_iff.mp C)⟩
 have so:=ur (T.map good);have hl:=K31.Cw T
 change (gm T).Pairwise _ at so
 cases E:gm T with
 |nil=>rw[E]at hl;simp at hl;lia
 |cons g G =>
  rw[E]at row so;obtain⟨s,r,rfl,l⟩:=row g (by simp)
  refine⟨s,r,rfl,λx C=>?_⟩
  obtain⟨k,H,n⟩:=mFq.mp C;rcases ar.mp H with z|z
  .exact l x (z ▸ n)
  .have q:=(gb.mp so).1 k z;obtain⟨M,t,rfl,y⟩:=row k H;have:=y x n;rw[HT.uv]at q
   by_cases c:M=s
   .lia
   .rw [qk c]at q;have:=of_decide_eq_false q;lia
theorem Tu{T:List (List Int)}(h:K11.B9 T) (u:T.flatten≠[]):∀t∈T,t≠[]:=λt ht e=>by
 obtain⟨i,l⟩:=ay.mp ht;have n:=(gSq.mp l).1;subst e;cases i with
 |succ i =>
  obtain⟨j,e,_,_,r⟩:=h (i+1) (by lia) n
  rw[gDq,l]at r;cases r
 |zero =>
  by_cases c:1<T.length
  .obtain ⟨j,e,x,s,_⟩:=h 1 (by lia) c
   have:j=0:=by lia
   rw[this,gDq,l]at s;cases s
  .refine u ?_
   match T,n,c,l with
   | [t],_,_,l=>cases l;rfl
   |_::_::_,_,c,_=>simp at c
theorem Mh{T:List (List Int)}(h:K11.B9 T) (n:0<T.length) (l:T.flatten=[]):T=[[]]:=by
 match T,n with
 | [t],_ =>
  have:t=[]:=by simpa using l
  rw[this]
 |t::u::T,_ =>
  obtain⟨j,e,_,s,r⟩:=h 1 (by lia) (by simp)
  have:-e∈(t::u::T).flatten:=mFq.mpr ⟨u,by simp,r⟩
  rw[l]at this;cases this
theorem Mx:K31.sV [[]]:=λP ⟨s,l,n⟩ _ q r=>by
 simp only[lSq]at l r;have:q=s:=by lia
 rw[this];exact n
theorem K3:Mp [[]]:=⟨aY,ba _,by simp,λe l=>by simp at l⟩
abbrev dP(m:List (List Int)):D:=.list (m.map ve)
def ZG(m:List (List Int)):Prop:=m.length<=1000/\∀r∈m,∃x y,r=[x,y]
theorem HM(i:Int):K72.uy [.int i]=some (.sh (.bl true)):=by simp_arith [K72.uy,K72.DJ]
theorem O0{m:List (List Int)}(h:ZG m):f_L_pairs [dP m]=some (.sh (.bl true)):=by
 have key:=tx (x:=1) (body:=mb_L_pairs_0) (λ_ S=>∃l,S=[some (.sh (dP m)),l]) (ds:=m.map ve) (S:=[some (.sh (dP m)),none]) ⟨none,rfl⟩ (by
  rintro i d S hd ⟨l,rfl⟩;rw[gMq]at hd;obtain⟨r,hr,rfl⟩:=oMq.mp hd;obtain⟨x,y,rfl⟩:=h.2 r (mGq hr);have n:zr [ve [x,y],.ty "tuple"]=some (.bl true):=rfl;have lt:qu [ve [x,y]]=some (.int 2):=rfl;have s:wa (ve [x,y]) (.int 0)=some (.int x):=rfl;have t:wa (ve [x,y]) (.int 1)=some (.int y):=rfl;have u:=HM x;have z:=HM y;have B:Jn (.int 2) (.int 2)=some (.bl false):=rfl;refine⟨_,?_,some (.sh (ve [x,y])),rfl⟩
  simp_arith [mb_L_pairs_0,n,lt,B,s,t,u,z])
 obtain⟨G,g,l,rfl⟩:=key;have C:zr [dP m,.ty "list"]=some (.bl true):=rfl;have E:(m.length<=qK)=True:=eq_true (by have:=h.1;show _<=16777216;lia)
 simp_arith [f_L_pairs,mf_L_pairs,C,E,g]
theorem Qm(ms:List (List (List Int))):wZ (.list (ms.map dP)) (.list (ms.map dP))=some (.bl true):=by
 obtain⟨p,h⟩:∃p,Ce 3 (.list (ms.map dP)) p:=⟨_,.list (ps:=ms.map λc=>.list (c.map λr=>.tuple (r.map .int))) (by rw[lMq,lMq]) (K35.Ak ms λc=>.list (by rw[lMq,lMq]) (K35.Ak c λr=>.tup (by rw[lMq,lMq]) (K35.Ak r λi=>.int)))⟩
 exact K35.L4 h (by decide)
theorem Uu(ms:List (List (List Int))):yt (.list (ms.map dP)) (.list (ms.map dP))=some (.bl false):=by unfold yt;rw[Qm];rfl
theorem zG(m:List (List Int)):oa (aP m)=dP m:=by
 rw[tL,mPq];exact congrArg D.list (mCq λr _=>tJ _)
theorem OH(ms:List (List (List Int))):(ms.map aP).map oa=ms.map dP:=by rw[mPq];exact mCq λm _=>zG m
end K39
namespace K40
open PySem L2 Mr Z Zl
open K31 (HY Ar rot Ul rnd)
open K39 (Au Of uL af OB Hi AY yy Ee IL)
theorem Xo:mb_round_turns_0=K31.mb_round_turns_0:=rfl
theorem zp{rs:List (List Int)}(l:Mp rs) {e:Int}(s:e∈rs.flatten):rQ [dM rs,.int e]=some (Ul (rnd rs e).1):=by
 have hl:=l.hl;obtain⟨i,I,J,y⟩:=K31.KC l s;rw[←Xo]at y;have B:=Bu l.hn (by lia)
 have kv:=l.kv s;obtain⟨r,hr,t⟩:=l.at s;have gr:rs.getD (plc rs e) []=r:=by rw[gDq,hr];rfl
 have L:=l.row hr;have C:=K31.Bm t (by lia)
 have u:atI (rs.map dI) (plc rs e:Int)=some (dI r):=qE (by rw[gMq,hr];rfl)
 have E:=oh (rot r e);have x:atI [dI (rot r e)] 0=some (dI (rot r e)):=rfl;have G:((rot r e).map D.int).map AV.sh=(rot r e).map λn=>AV.sh (.int n):=by rw[mPq];rfl
 have H:[((ao (plc rs e:Int):oq),D.bl true)]=kd [plc rs e]:=rfl;have l1:(1:Nat)<=qK:=by decide
 have z:[some (.sh (dM rs)),some (.sh (.int e)),some (.owd (oU 0 rs)),some (.ow [.sh (dI (rot r e))]),some (.ow ((rot r e).map λn=>AV.sh (.int n))),some (.owd (kd [plc rs e])),some (.sh (.int 0)),none,none]=HY rs e (Ar rs e) 0 none none:=by
  unfold HY Ar Ul;rw[gr];simp
 simp_arith [rQ,Aa,B,kv,hZ,dM,u,C,E,x,G,H,l1]
 simp -implicitDefEqProofs only [Z.Tg,de,dg,cz,cA,bJ,↓reduceIte,reduceCtorEq,dM]at z;rw[z,y]
 simp_arith [HY]
theorem AJ{rs:List (List Int)}(l:Mp rs) {e:Int}(n:e∈rs.flatten):sI [dM rs,.int e]=some (aI (rnd rs e).1.flatten):=by
 have hl:=l.hl;have h1:=zp l n;have h2:=(K31.Cz l n).few;have r:=yE (rs:=(rnd rs e).1) (by lia)
 have s:=K31.IB (rnd rs e).1
 simp_arith [sI,Ay,h1,s,r]
theorem AL{rs:List (List Int)}(l:Mp rs) {e:Int}(n:e∈rs.flatten):sD [dM rs,.int e]=some (.sh (K33.cD (K33.code (rnd rs e).1))):=by
 have h1:=zp l n;have h:=K31.Cz l n;have h2:=h.few;have t:=K51.Oe _ _ h.nd h.lt;have u:=h.ln;have hl:=l.hl;have hr:=l.hr;have r:=K33.Ka (K33.Qx l n) (K33.CZ l n) (by lia) (by lia)
 have s:=K31.IB (rnd rs e).1
 simp_arith [sD,AC,h1,s,r]
section
variable {G:List (List Int)}{s e:Int}
theorem EX(z:Mp G) (B:K31.sV G) (n:0<G.length):qp [dM G]=some (.sh .non):=by
 obtain⟨J,PS,h,e⟩:=K51.M1 (K34.Xn z);have h1:PS.length=1:=by
  obtain⟨M,t,_⟩:=h.mem 0 (h.all 0 n);have pos:0<PS.length:=bH t
  by_cases c:PS.length=1
  .exact c
  .obtain ⟨a,b,L,rfl⟩:∃a b L,PS=a::b::L:=by
    match PS,pos,c with
    | [a],_,c=>exact absurd rfl c
    |a::b::L,_,_=>exact⟨a,b,L,rfl⟩
   obtain⟨u,l1,C⟩:=h.pc a (by simp)
   obtain⟨l,l2,E⟩:=h.pc b (by simp)
   have y:K51.FG G u l:=B (λk=>K51.FG G u k) ⟨u,l1,.base⟩ (λp r x hr H n=>.step n hr H) l l2
   have dj:=(gb.mp h.dj).1 b (by simp)
   exact absurd ((E.iff l).mpr .base) (dj l ((C.iff l).mpr y))
 have I:((PS.length:Nat):Int)=1:=by lia
 simp_arith [qp,uF,e,I]
theorem O2(l:Mp G) (r:K31.sV G) (t:s∈G.flatten):qA (rA (oN wZ (rOf (oJ sD (nQ (og 2) (nQ (og 0) oB)))) (nC 3))) (Ys (nD (nC 1) (nD (rOf (oJ sI (nQ (og 2) (nQ (og 0) oB)))) nV))) [some (.sh (dI (rnd G s).1.flatten)),some (.sh (dM G)),some (.sh (K33.cD (K33.code (rnd G s).1)))] ((rnd G s).1.flatten.map D.int)=some ((Hi G s (rnd G s).1.flatten).map aP):=by
 have pm:=(K31.Ap l r t).2;rw[Z.xy (λd=>match d with|.int e=>Of G s e|_=>false) λd=>match d with|.int e=>aP (OB G s e)|_=>.sh .non]
 .unfold Hi;rw[gN,mPq,mPq];rfl
 .intro d hd;obtain⟨e,C,rfl⟩:=mMq.mp hd;have n:=pm.mem_iff.mp C;have rc:=AL l n;have E:=AJ l n;have z:=K33.UT (K33.code (rnd G e).1) (K33.code (rnd G s).1);have H:decide (K33.code (rnd G e).1=K33.code (rnd G s).1)=Of G s e:=by
   rw[bx,decide_eq_true_iff,uL];exact IL l r t n
  rw[H]at z;refine⟨[some (.sh (.int e)),some (.sh (dI (rnd G s).1.flatten)),some (.sh (dM G)),some (.sh (K33.cD (K33.code (rnd G s).1)))],?_,λhok=>?_⟩
  .simp_arith [rc,z]
  .obtain ⟨f,a,b⟩:=uL.mp hok;have B:(rnd G e).1.flatten=(rnd G s).1.flatten.map f:=by rw[←b,a.rnd l r t,K33.D5]
   have I:=MJ (ns:=(rnd G s).1.flatten) (ms:=(rnd G e).1.flatten) (by rw[B,lMq])
   have J:uf (cc (λx y=>[x,y]) (rnd G s).1.flatten (rnd G e).1.flatten)=OB G s e:=AY l r t a b (by
    rw[B,Ee];exact pm.map _)
   have L:=oh (rnd G e).1.flatten;refine⟨[some (.sh (.int e)),some (.sh (dI (rnd G s).1.flatten)),some (.sh (dM G)),some (.sh (K33.cD (K33.code (rnd G s).1)))],?_⟩;have u:((cc (λx y=>[x,y]) (rnd G s).1.flatten (rnd G e).1.flatten).length<64)=True:=eq_true (by rw[eW,pm.length_eq];have:=l.hl;lia)
   simp_arith [Zj,E,L,dI,I,u,J]
theorem Pl(l:Mp G) (t:K31.sV G) {r:List Int}(h0:G[0]?=some (s::r)):pX [dM G]=some (.ow ((BY (Hi G s G.flatten)).map aP)):=by
 have z:0<G.length:=(gSq.mp h0).1;have n:s∈G.flatten:=mFq.mpr ⟨_,mGq h0,by simp⟩
 have B:=EX l t z;have rc:=AL l n;have C:=AJ l n;have pm:=(K31.Ap l t n).2;have hl:=l.hl;have E:=O2 l t n;have H:CV (dM G) (.int 0)=some (dI (s::r)):=by
  show atI (G.map dI) ((0:Nat):Int)=_;exact qE (by rw[gMq,h0];rfl)
 have u:CV (dI (s::r)) (.int 0)=some (.int s):=by
  show atI ((s::r).map D.int) ((0:Nat):Int)=_;exact qE rfl
 have ln:qu [dI (s::r)]=some (.int ((r.length+1:Nat):Int)):=by
  show some (D.int (((s::r).map D.int).length:Int))=_;rw[lMq];rfl
 have x:¬ ((r.length+1:Nat):Int)=0:=by lia
 have I:=oh (rnd G s).1.flatten;have J:((rnd G s).1.flatten.length<=qK)=True:=eq_true (by show _<=16777216;rw[pm.length_eq];lia)
 have L:=HG (Hi G s (rnd G s).1.flatten);have M:=yy (G:=G) (s:=s) pm;have y:((Hi G s (rnd G s).1.flatten).length<64)=True:=eq_true (by unfold Hi;rw[lMq];have:=dw (Of G s) (rnd G s).1.flatten;rw[pm.length_eq]at this;lia)
 simp_arith [pX,yS,B,H,u,ln,x,rc,C,I,E,J,Rl,L,y,M]
theorem Qr:pX [dM [[]]]=some (.ow ([[]].map aP)):=by
 have l:=EX K39.K3 K39.Mx (by simp)
 have n:CV (dM [[]]) (.int 0)=some (dI []):=by
  show atI ([[]].map dI) ((0:Nat):Int)=_;exact qE rfl
 have ln:qu [dI []]=some (.int 0):=rfl;have r:decide ((0:Int)=0)=true:=by decide
 simp_arith [pX,yS,l,n,ln,r]
 rfl
end
end K40
namespace K40
open PySem L2 Mr Z Zl
open K15 (nx fw)
open K39 (Au Of uL af wX OB Hi AY yy)
section
variable {G M:List (List Int)}{s:Int}
theorem N3(n:Mp G) (r:K31.sV G) (pf:M.flatten.Perm G.flatten) (t:s∈G.flatten) (iff:∀f,Au G f↔Au M f):BY (Hi M s M.flatten)=BY (Hi G s G.flatten):=by
 rw[yy pf];congr 1;have l:Of M s=Of G s:=by
  funext e;rw[bx,uL,uL];exact⟨λ⟨f,a,b⟩=>⟨f,(iff f).mpr a,b⟩,λ⟨f,a,b⟩=>⟨f,(iff f).mp a,b⟩⟩
 unfold Hi;rw[l];refine mCq λe u=>?_
 have ok:K39.Ok M s e:=by
  rw[←uL,l];exact(bO.mp u).2
 obtain⟨a,b⟩:=wX ok;exact AY n r t ((iff _).mpr a) b (pf.map _)
theorem Ll{f:Int->Int}{E:List Int}(h:Hg f E) {y:Int}(r:y∈E):∃n,f (itr f n y)=y:=by
 obtain⟨l,c,_⟩:=h.cy r;obtain⟨n,hn⟩:∃n,l.length=n+1:=⟨l.length-1,by have:=c.len;lia⟩
 refine⟨n,?_⟩;have:=c.back;rw[hn]at this;exact this
theorem Wc(l:Mp G) {x:Int}(n:x∈G.flatten):plc G (nx G x)=plc G x:=by
 rw[K39.Gq l n (K15.xF l.hn n)];obtain⟨r,t⟩:=K32.wN l n;have c:=K39.FR l r t;rw[c.get,mMq]
 by_cases q:1<(K31.rot (G.getD (plc G x) []) x).length
 .exact ⟨1,aN.mpr q,rfl⟩
 .have l1:(K31.rot (G.getD (plc G x) []) x).length=1:=by have:=c.len;lia
  refine⟨0,aN.mpr (by lia),?_⟩
  have:=c.back;rw[l1]at this;exact this.symm
theorem Lc(t:Mp M) (ne:∀r∈M,r≠[]) (h:∀(S:Int->Prop) (s:Int),s∈M.flatten->S s->(∀x∈M.flatten,S x->S (-x))->(∀x∈M.flatten,S x->S (nx M x))->∀x∈M.flatten,S x):K31.sV M:=by
 intro P ⟨B,h0,C⟩ E q H;have n:∀k,k<M.length->∃x∈M.flatten,plc M x=k:=λk I=>by
  have hr:M[k]?=some M[k]:=gEg I;obtain⟨x,l⟩:=gk _ (ne _ (mGq hr));exact⟨x,mFq.mpr ⟨_,mGq hr,l⟩,plc_eq t.hn hr l⟩
 obtain⟨s,J,L⟩:=n B h0;obtain⟨y,O,Q⟩:=n q H;rw[←Q];refine h (λx=>P (plc M x)) s J (by rw[L];exact C) (λx l u=>?_) (λx l u=>by rw[Wc t l];exact u) y O
 obtain⟨r,hr,z⟩:=t.at l;exact E _ r x hr z u
structure YX (G M:List (List Int)):Prop where
 mp:Mp M
 cn:K31.sV M
 pf:M.flatten.Perm G.flatten
 ne:∀r∈M,r≠[]
 gd:uf (M.map good)=M
 au:∀f,Au G f↔Au M f
theorem OD:∀{A B:List (List Int)},A.map aI=B.map aI->A=B
 | [],[],_=>rfl
 | [],_::_,h=>by simp at h
 |_::_,[],h=>by simp at h
 |a::A,b::B,h=>by
  rw[ax,ax]at h;injection h with h1 h2
  have l:a.map (λn=>AV.sh (.int n))=b.map λn=>AV.sh (.int n):=by injection h1
  have r:a=b:=(List.map_inj_right (λ_ _ z=>by injection z with z;injection z)).mp l
  rw[r,OD h2]
theorem Nc(u:Mp G) (J:K31.sV G) (ne:∀r∈G,r≠[]) (E:s∈G.flatten):∃M,K15.vq [dM G]=some (.ow (M.map aI))/\YX G M:=by
 have O:G.count []=0:=List.count_eq_zero.mpr λh=>ne _ h rfl
 have H:(K15.xM G).length+G.flatten.length<=63:=by rw[K16.wx,O];have:=u.hl;simpa using this
 obtain⟨M,I,mp,_,pf,gd,ct,_⟩:=K16.QK u H;obtain⟨L,P,B⟩:=K15.B1 u H;rw[I]at B;have Q:M=uf ((K15.xM G++L).map good):=OD (by injection B with B;injection B)
 have t:∀x∈G.flatten,nx M x=fw G x:=λx n=>by
  refine K16.L5 mp.hn (λl hl=>?_) (pf.mem_iff.mpr n)
  rw[Q]at hl;obtain⟨R,h0,rfl⟩:=mMq.mp ((qj _).mem_iff.mp hl);rcases mAq.mp h0 with h0|h0
  .left;rw[K16.wx]at h0;rw[(List.mem_replicate.mp h0).2];rfl
  .right;obtain⟨e,c⟩:=P.cy R h0;exact K16.CW c
 have z:∀r∈M,r≠[]:=λr hr e=>by
  subst e;have:=cS.mpr hr;lia
 refine⟨M,I,mp,Lc mp z λS s E h0 h1 h2=>?_,pf,z,gd,λf=>⟨λa=>⟨λx n=>?_,λx n=>?_,λx n=>?_⟩,λa=>⟨λx n=>?_,λx n=>?_,λx n=>?_⟩⟩⟩
 .have key:=K39.Bh u J S (pf.mem_iff.mp E) h0 (λx n C=>h1 x (pf.mem_iff.mpr n) C) λx n C=>by
   have q:=h2 (-x) (pf.mem_iff.mpr (u.hneg x n)) (h1 x (pf.mem_iff.mpr n) C);rw[t _ (u.hneg x n)]at q;unfold fw at q
   rwa [cY]at q
  exact λx n=>key x (pf.mem_iff.mp n)
 .exact pf.mem_iff.mpr (a.mem x (pf.mem_iff.mp n))
 .exact a.odd x (pf.mem_iff.mp n)
 .have y:=pf.mem_iff.mp n;rw[t x y,t _ (a.mem x y)];show f (nx G (-x))=nx G (-(f x));rw[a.nx _ (u.hneg x y),a.odd x y]
 .exact pf.mem_iff.mp (a.mem x (pf.mem_iff.mpr n))
 .exact a.odd x (pf.mem_iff.mpr n)
 .have hn:=u.hneg x n;have U:nx G x=nx M (-x):=by rw[t _ hn];show _=nx G (- -x);rw[cY]
  have X:nx G (f x)=nx M (-(f x)):=by
   rw[t _ (u.hneg _ (pf.mem_iff.mp (a.mem x (pf.mem_iff.mpr n))))];show _=nx G (- -(f x));rw[cY]
  rw[U,a.nx _ (pf.mem_iff.mpr hn),a.odd x (pf.mem_iff.mpr n),X]
theorem Ks(C:Mp G) (O:K31.sV G) (ne:∀r∈G,r≠[]):YX G (K19.mr G):=by
 have mp:=K19.Xk C;have pf:=K19.Dk G;have L:=K16.KQ C.hn;have oM:=K16.KQ mp.hn;have back:∀x∈G.flatten,nx (K19.mr G) (nx G x)=x:=λx u=>K19.Yj C.hn u
 have z:∀y∈G.flatten,nx G (nx (K19.mr G) y)=y:=λy E=>by
  obtain⟨n,e⟩:=Ll L E;have I:=L.itr_mem E n;have:=back _ I;rw[e]at this;rw[this,e]
 have H:∀r∈K19.mr G,r≠[]:=λr hr e=>by
  obtain⟨l,hl,P⟩:=mMq.mp ((qj _).mem_iff.mp hr);obtain⟨t,ht,rfl⟩:=mMq.mp hl;have:=(si t.reverse).length_eq;rw[P,e,cH]at this;exact ne t ht (cU this.symm)
 refine⟨mp,Lc mp H λS s Q h0 h1 h2=>?_,pf,H,?_,λf=>⟨λa=>⟨λx u=>?_,λx u=>?_,λx u=>?_⟩,λa=>⟨λx u=>?_,λx u=>?_,λx u=>?_⟩⟩⟩
 .have key:=K39.Bh C O S (pf.mem_iff.mp Q) h0 (λx u J=>h1 x (pf.mem_iff.mpr u) J) λx u J=>by
   have B:=pf.mem_iff.mpr u;obtain⟨n,e⟩:=Ll oM B;have R:∀k,S (itr (nx (K19.mr G)) k x):=λk=>by
    induction k with
    |zero=>exact J
    |succ k U=>exact h2 _ (oM.itr_mem B k) U
   have X:nx G x=itr (nx (K19.mr G)) n x:=by
    have:=z _ (pf.mem_iff.mp (oM.itr_mem B n));rw[e]at this;exact this
   rw[X];exact R n
  exact λx u=>key x (pf.mem_iff.mp u)
 .have:=K19.Ub (rs:=K19.mr G) mp.hn;have h2:=K19.Ub (rs:=G) C.hn;rw[←this,h2];unfold K19.mr;have e:(uf (G.map good)).Perm (G.map good):=qj _;refine yR ?_ (ur _) |>.trans rfl;refine(qj _).trans ?_;rw[mPq,mPq];refine((e.map _).trans ?_);rw[mPq];refine dU.of_eq (mCq λr hr=>?_)
  exact K19.HW (K16.Mc C.hn r hr)
 .exact pf.mem_iff.mpr (a.mem x (pf.mem_iff.mp u))
 .exact a.odd x (pf.mem_iff.mp u)
 .have B:=pf.mem_iff.mp u;have I:=pf.mem_iff.mp (K15.xF mp.hn u);have:=a.nx _ I;rw[z x B]at this;rw[this,back _ (a.mem _ I)]
 .exact pf.mem_iff.mp (a.mem x (pf.mem_iff.mpr u))
 .exact a.odd x (pf.mem_iff.mpr u)
 .have E:=K15.xF C.hn u;have:=a.nx _ (pf.mem_iff.mpr E);rw[back x u]at this;rw[this,z _ (pf.mem_iff.mp (a.mem _ (pf.mem_iff.mpr E)))]
end
theorem OC{A B:List Int}(s:A.Nodup) (hl:B.length<=A.length) (h:∀z∈A,z∈B):∀z∈B,z∈A:=λz l=>by
 refine gj λn=>?_
 have:=J6 A (B.erase z) s λy r=>(dD (λe:y=z=>n (e ▸ r))).mpr (h y r)
 rw[eZ l]at this;have:=bH l;lia
structure Cls (E:List Int) (n:Nat) (C:Int->List Int):Prop where
 self:∀x∈E,x∈C x
 nd:∀x∈E,(C x).Nodup
 len:∀x∈E,(C x).length=n
 mem:∀x∈E,∀y∈C x,y∈E
 tr:∀x∈E,∀y∈C x,∀z∈C y,z∈C x
theorem GG{n:Nat}{C:Int->List Int}:∀(k:Nat) {E:List Int},E.length<=k->E.Nodup->Cls E n C->E.length % n=0
 |_,[],_,_,_=>ik _
 |0,_::_,h,_,_=>by simp at h
 |k+1,x::t,hk,hn,h=>by
  have u:x∈x::t:=aw ..;have B:∀a∈x::t,∀b∈C a,∀z∈C a,z∈C b:=λa G b H=>OC (h.nd b (h.mem a G b H)) (by rw[h.len a G,h.len b (h.mem a G b H)];exact ai _) (h.tr a G b H)
  generalize Q:x::t=E at hk hn h u B;have I:=List.length_eq_countP_add_countP (λy=>decide (y∈C x)) (l:=E)
  have M:(E.filter λy=>decide (y∈C x)).Perm (C x):=(bS (hn.sublist eX) (h.nd x u)).mpr λz=>by
   rw[bO,decide_eq_true_iff];exact⟨λq=>q.2,λq=>⟨h.mem x u z q,q⟩⟩
  have l1:=M.length_eq;rw[h.len x u]at l1;have pos:0<n:=by
   have:=bH (h.self x u);rw[h.len x u]at this;exact this
  rw[fV,fV,l1]at I;have O:=GG (C:=C) (n:=n) k (E:=E.filter λy=>decide ¬ decide (y∈C x)=true) (by lia) (hn.sublist eX) (by
   have s:∀{y},y∈(E.filter λy=>decide ¬ decide (y∈C x)=true)↔y∈E/\y∉C x:=λ{y}=>by
    rw[bO,decide_eq_true_iff,decide_eq_true_iff]
   refine⟨λy r=>h.self y (s.mp r).1,λy r=>h.nd y (s.mp r).1,λy r=>h.len y (s.mp r).1,λy r z J=>s.mpr ⟨h.mem y (s.mp r).1 z J,λP=>?_⟩,λy r=>h.tr y (s.mp r).1⟩
   have L:=(s.mp r).1;have:=B y L z J y (h.self y L);exact(s.mp r).2 (h.tr x u z P y this))
  rw[I,Nat.add_mod,cZ,O];rfl
section
variable {G:List (List Int)}{s:Int}
theorem CD(G:List (List Int)):Au G λx=>x:=⟨λ_ h=>h,λ_ _=>rfl,λ_ _=>rfl⟩
theorem C2{f g:Int->Int}(a:Au G f) (b:Au G g):Au G λx=>g (f x):=⟨λx l=>b.mem _ (a.mem x l),λx l=>by rw[a.odd x l,b.odd _ (a.mem x l)],λx l=>by rw[a.nx x l,b.nx _ (a.mem x l)]⟩
theorem JN{f:Int->Int}(a:Au G f):∀n,Au G (itr f n)
 |0=>CD G
 |n+1=>C2 (f:=itr f n) (g:=f) (JN a n) a
def im(G:List (List Int)) (s:Int):List Int:=G.flatten.filter (Of G s)
theorem vR{e:Int}:e∈im G s↔e∈G.flatten/\K39.Ok G s e:=by
 unfold im;rw[bO,uL]
theorem Ou(l:Mp G):(im G s).Nodup:=l.hn.sublist eX
theorem Q4(l:s∈G.flatten) {f:Int->Int}(a:Au G f):f s∈im G s:=vR.mpr ⟨a.mem s l,f,a,rfl⟩
theorem Tf(n:Mp G) (B:K31.sV G) (r:s∈G.flatten):G.flatten.length % (im G s).length=0:=by
 refine GG (C:=λx=>(im G s).map λe=>af G s e x) G.flatten.length (ai _) n.hn ⟨λx l=>?_,λx l=>?_,λx _=>lMq _,λx l y E=>?_,λx l y E z L=>?_⟩
 .have k:=wX (G:=G) (s:=s) (e:=s) ⟨_,CD G,rfl⟩;exact mMq.mpr ⟨s,Q4 r (CD G),k.1.one (CD G) n B r k.2 x l⟩
 .refine K33.Gu (Ou n) λa M b O e=>?_
  have t:=wX (vR.mp M).2;have u:=wX (vR.mp O).2;have:=t.1.one u.1 n B l e s r;rw[t.2,u.2]at this;exact this
 .obtain ⟨e,H,rfl⟩:=mMq.mp E;exact(wX (vR.mp H).2).1.mem x l
 .obtain ⟨e,H,rfl⟩:=mMq.mp E;obtain⟨P,I,rfl⟩:=mMq.mp L;have t:=wX (vR.mp H).2;have u:=wX (vR.mp I).2;have J:=C2 t.1 u.1;have kd:=wX (G:=G) (s:=s) (e:=af G s P (af G s e s)) ⟨_,J,rfl⟩;exact mMq.mpr ⟨_,Q4 r J,kd.1.one J n B r kd.2 x l⟩
theorem QM(B:Mp G) {σ:Int->Int}{n:Nat}(a:Au G σ) (E:0<n) (back:∀x∈G.flatten,itr σ n x=x) (free:∀x∈G.flatten,∀i j,i<j->j<n->itr σ i x≠itr σ j x):(im G s).length % n=0:=by
 refine GG (C:=λx=>(aS n).map λk=>itr σ k x) _ (ai _) (Ou B) ⟨λx l=>mMq.mpr ⟨0,aN.mpr E,rfl⟩,λx l=>?_,λx _=>by rw[lMq,aD],λx l y t=>?_,λx l y t z H=>?_⟩
 .rw [az,aF];exact bj.imp_of_mem (R:=λa b=>a<b) (λ{i j} _ r hij=>free x (vR.mp l).1 i j hij (aN.mp r)) fu
 .obtain ⟨k,_,rfl⟩:=mMq.mp t;obtain⟨h1,f,b,rfl⟩:=vR.mp l;exact vR.mpr ⟨(JN a k).mem _ h1,_,C2 b (JN a k),rfl⟩
 .obtain ⟨i,u,rfl⟩:=mMq.mp t;obtain⟨j,r,rfl⟩:=mMq.mp H;have u:=aN.mp u;have r:=aN.mp r;rw[←wm]
  by_cases q:j+i<n
  .exact mMq.mpr ⟨j+i,aN.mpr q,rfl⟩
  .refine mMq.mpr ⟨j+i-n,aN.mpr (by lia),?_⟩
   have e:itr σ (j+i) x=itr σ (j+i-n) (itr σ n x):=by rw[←wm];congr 1;lia
   rw[e,back x (vR.mp l).1]
def own(G:List (List Int)) (s:Int):List (List (List Int)):=BY (Hi G s G.flatten)
theorem C8:(own G s).length=(im G s).length:=by
 unfold own;rw[(wA _).length_eq];unfold Hi im;rw[lMq]
theorem VL(n:Mp G) (r:K31.sV G) (l:s∈G.flatten) {f:Int->Int}(a:Au G f) {L:List (List Int)}(h:L.Perm (G.flatten.map λx=>[x,f x])):uf L∈own G s:=by
 rw[AY n r l a rfl h];refine(wA _).mem_iff.mpr (mMq.mpr ⟨f s,?_,rfl⟩);exact Q4 l a
theorem RQ{m:List (List Int)}(h:m∈own G s):∃f,Au G f/\f s∈im G s/\m=OB G s (f s)/\m=uf (G.flatten.map λx=>[x,f x]):=by
 obtain⟨e,l,rfl⟩:=mMq.mp ((wA _).mem_iff.mp h);have k:=wX (uL.mp (bO.mp l).2);refine⟨af G s e,k.1,?_,?_,rfl⟩
 .rw [k.2];exact l
 .rw [k.2]
theorem Us{f:Int->Int}{x y:Int}(n:x∈G.flatten):[x,y]∈uf (G.flatten.map λx=>[x,f x])↔y=f x:=by
 rw[(qj _).mem_iff,mMq];refine⟨λ⟨z,_,e⟩=>?_,λe=>⟨x,n,by rw[e]⟩⟩
 injection e with r l
 injection l with l
 rw[←l,r]
theorem Vw(r:Mp G) (l:s∈G.flatten):(own G s).Nodup:=by
 unfold own;rw[(wA _).nodup_iff];unfold Hi;rw[az,aF];refine(az.mp (Ou (s:=s) r)).imp_of_mem λ{a b} ha hb n e=>n ?_
 have t:=wX (vR.mp ha).2;have u:=wX (vR.mp hb).2;have h1:[s,a]∈OB G s a:=(Us l).mpr t.2.symm;rw[e]at h1;rw[(Us l).mp h1,u.2]
theorem J8{α:Type}{l:List α}{p:α->Bool}{a:α}(hn:l.Nodup) (t:a∈l) (h:∀x∈l,p x=true↔x=a):l.filter p=[a]:=by
 have h1:(l.filter p).Nodup:=hn.sublist eX;have h2:a∈l.filter p:=bO.mpr ⟨t,(h a t).mpr rfl⟩;have n:∀x∈l.filter p,x=a:=λx u=>(h x (bO.mp u).1).mp (bO.mp u).2
 generalize l.filter p=q at h1 h2 n
 match q,h1,h2,n with
 | [x],_,_,n=>rw[n x (aw ..)]
 |x::y::r,h1,_,n =>
  have z:=n x (aw ..);have B:=n y (mCo _ (aw ..));rw[z,B]at h1;exact absurd (aw ..) (aB.mp h1).1
end
end K40
namespace K44
open PySem L2 Mr Z Xe Zl
open K15 (Rd kI Js KP KR)
open K16 (kvI Jj Hb pm LM Kv Pd LR UJ Ah)
theorem Vi(c:Int) {n:Nat}(hn:n<=30):∃nm,ue [.int c,.int (n:Int)]=some (aI nm)/\nm.length=n/\nm.Nodup/\∀z∈nm,1<=z:=by
 have key:=tx (x:=4) (body:=vi) (λi S=>∃r last l u,S=[some (.sh (.int r)),some (.sh (.int (n:Int))),some (.sh (.int last)),some (aI l),u]/\l.length=i/\l.Nodup/\(∀z∈l,1<=z/\z<=last)/\0<=last) (ds:=pR 0 n) (S:=[some (.sh (.int c)),some (.sh (.int (n:Int))),some (.sh (.int 0)),some (.ow []),none])
  ⟨c,0,[],none,rfl,rfl,aY,λz s=>(by cases s),by decide⟩ (by
  rintro i d S hd ⟨r,last,l,u,rfl,hl,t,hr,h0⟩;have O:i<n:=by
   have:=(gSq.mp hd).1
   rwa [pT]at this
  have y:=rz (i:=r) (j:=10 ^ 57) (by decide)
  have P:=bC r (b:=10 ^ 57) (by decide)
  have B:=LR (i:=r) (j:=10 ^ 57) (by decide) (by decide +kernel)
  have C:=UJ;have E:l.length<qK:=by show _<16777216;lia
  generalize G:last+1+r % 10 ^ 57=x;have H:last+1<=x:=by lia
  have I:l.map (λn=>AV.sh (.int n))++[.sh (.int x)]=(l++[x]).map λn=>.sh (.int n):=by rw[mBq];rfl
  refine⟨[some (.sh (.int (r / 10 ^ 57))),some (.sh (.int (n:Int))),some (.sh (.int x)),some (aI (l++[x])),some (.sh d)],?_,r / 10 ^ 57,x,l++[x],some (.sh d),rfl,by rw[lAq,hl];rfl,?_,?_,by lia⟩
  .simp_arith [vi,C,y,G,B,E,I]
  .rw [nAq];refine⟨t,by simp,λa J b L e=>?_⟩
   rw[mSq.mp L]at e;have:=hr a J;lia
  .intro z s;rcases mAq.mp s with s|s
   .have:=hr z s;exact⟨this.1,by lia⟩
   .rw [mSq.mp s];exact⟨by lia,fB _⟩)
 obtain⟨Q,e,r,last,l,u,rfl,hl,t,hr,h0⟩:=key;rw[pT]at hl;have M:=xC (n:=n) (by lia)
 refine⟨l,?_,hl,t,λz s=>(hr z s).1⟩
 simp_arith [ue,zR,M,e]
theorem Oj(c:Int) {l:List Int}(hl:l.length<=60):∃d,xP [.int c,dI l]=some (aI d)/\d.Perm l:=by
 have key:=tx (x:=4) (body:=yV) (λi S=>∃cell left r y,S=[some (.sh (.int cell)),some (.sh (dI l)),some (aI left),some (aI r),y]/\left.length+i=l.length/\r.length=i/\(r++left).Perm l) (ds:=pR 0 l.length) (S:=[some (.sh (.int c)),some (.sh (dI l)),some (aI l),some (.ow []),none])
  ⟨c,l,[],none,rfl,rfl,rfl,.refl _⟩ (by
  rintro i d S hd ⟨cell,l2,u,y,rfl,h2,C,pm⟩;have hi:i<l.length:=by
   have:=(gSq.mp hd).1
   rwa [pT]at this
  have s:(0:Int)<((l2.length:Nat):Int):=by lia
  have H:=rz (i:=cell) (j:=((l2.length:Nat):Int)) s;have b0:=bC cell (b:=((l2.length:Nat):Int)) (by lia)
  have b1:=bE cell s;obtain⟨k,I⟩:∃k:Nat,cell % ((l2.length:Nat):Int)=(k:Int):=⟨(cell % ((l2.length:Nat):Int)).toNat,by lia⟩
  have z:k<l2.length:=by lia
  have E:l2[k]?=some (l2.getD k 0):=by rw[gDq,gEg z];rfl
  have G:=λa=>K12.B8 a z
  generalize l2.getD k 0=x at E G;have B:(l2.map λn=>AV.sh (D.int n))[k]?=some (.sh (.int x)):=by rw[gMq,E];rfl
  have J:(0:Int)<=(k:Int):=by lia
  have L:(k:Int)<((l2.length:Nat):Int):=by lia
  have M:l2.length<=qK:=by show _<=16777216;lia
  have O:=Ah (λn=>AV.sh (D.int n)) l2 k
  have t:(l2.eraseIdx k).length=l2.length-1:=List.length_eraseIdx_of_lt z;have P:=wJ (i:=cell) (j:=((l2.eraseIdx k).length:Int)+1) (by lia) (by rw[t];lia)
  have Q:=cT k;have lf:u.length<qK:=by show _<16777216;lia
  have R:u.map (λn=>AV.sh (.int n))++[.sh (.int x)]=(u++[x]).map λn=>.sh (.int n):=by rw[mBq];rfl
  have U:=oh l2;have X:=oh (l2.eraseIdx k);refine⟨[some (.sh (.int (cell / (((l2.eraseIdx k).length:Int)+1)))),some (.sh (dI l)),some (aI (l2.eraseIdx k)),some (aI (u++[x])),some (.sh d)],?_,_,_,_,_,rfl,by rw[t];lia,by rw[lAq,C];rfl,?_⟩
  .simp_arith [yV,U,X,dI,H,I,J,L,M,and_self,Q,B,O,lf,R,P]
  .refine cI.mpr λa=>?_
   have:=cI.mp pm a;have:=G a;simp only[cAq]at *;lia)
 obtain⟨S',e,cell,left,r,y,rfl,h2,C,pm⟩:=key;rw[pT]at h2;have:left=[]:=cE.mp (by lia)
 subst this;rw[aNq]at pm;have Y:=xC (n:=l.length) (by lia)
 have e3:((l.map D.int).map AV.sh)=l.map λn=>AV.sh (.int n):=by rw[mPq];rfl
 refine⟨r,?_,pm⟩;simp -implicitDefEqProofs only [Z.Tg,de,dg,cz,cA,bJ,↓reduceIte,reduceCtorEq,dI]at e
 simp_arith [xP,DE,dI,Y,e3,e]
theorem Um:∀(l n:List (Int×Int)),(n.map (·.1)++l.map (·.1)).Nodup->l.foldl (λm p=>vH m (.inl p.1) (.int p.2)) (kvI n)=kvI (n++l)
 | [],n,_=>by rw[aNq];rfl
 |p::l,n,h=>by
  rw[bB];have r:p.1∉n.map (·.1):=λq=>(nAq.mp h).2.2 p.1 q p.1 (by simp) rfl
  rw[Jj r,show (p.1,p.2)=p from rfl,Um l (n++[p]) (by rw[mBq,aM];exact h),aM]
  rfl
theorem C9:∀{a b:List Int},a.length=b.length->(a.zip b).map (·.1)=a
 | [],b,_=>by simp
 |x::a,[],h=>by simp at h
 |x::a,y::b,h=>by
  rw[cv,ax,C9 (by simpa using h)]
theorem Q0{E d:List Int}(l:E.Nodup) (h:E.length=d.length):dz E d=kvI (E.zip d):=by
 unfold dz;have:=Um (E.zip d) [] (by rw[C9 h];exact l)
 exact this
def fl(P:List (Int×Int)) (x:Int):Int:=match Z.getD (kvI P) (.inl x) with
 |some (.int y)=>y
 |_=>0
theorem Lz{E d:List Int}(r:E.Nodup) (h:E.length=d.length) {i:Nat}{x:Int}(l:E[i]?=some x):∃y,d[i]?=some y/\Z.getD (kvI (E.zip d)) (.inl x)=some (.int y)/\fl (E.zip d) x=y:=by
 have t:=(gSq.mp l).1;have n:d[i]?=some d[i]:=gEg (by lia)
 have s:(x,d[i])∈E.zip d:=mGq (cL.mpr ⟨l,n⟩);have g:Z.getD (kvI (E.zip d)) (.inl x)=some (.int d[i]):=by
  rw[Hb];refine K15.vJ ?_ (mMq.mpr ⟨_,s,rfl⟩);have h1:((E.zip d).map λp=>((ao p.1:oq),p.2)).map (·.1)=E.map ao:=by
   rw[mPq,←C9 h,mPq,C9 h];rfl
  rw[h1,az,aF];exact(az.mp r).imp λh q=>h (ao.inj q)
 refine⟨_,n,g,?_⟩;unfold fl;rw[g]
theorem Qd{E d:List Int}(l:E.Nodup) (r:d.Perm E):Hg (fl (E.zip d)) E:=by
 have hl:=r.length_eq.symm;have nd:=r.nodup_iff.mpr l;refine⟨l,λe x=>?_,λa z b B q=>?_⟩
 .obtain ⟨i,n⟩:=ay.mp x;obtain⟨y,h1,_,h2⟩:=Lz l hl n;rw[h2];exact r.mem_iff.mp (mGq h1)
 .obtain ⟨i,n⟩:=ay.mp z;obtain⟨j,s⟩:=ay.mp B;obtain⟨y,h1,_,h2⟩:=Lz l hl n;obtain⟨C,t,_,u⟩:=Lz l hl s;rw[h2,u]at q;subst q;have:=(iw (i:=i) (j:=j) (gSq.mp h1).1 nd).mp (by rw[h1,t])
  subst this;rw[n]at s;exact aT.inj s
noncomputable def mu6(N:Nat):AS->Nat
 | [_,_,_,_,_,_,_,_,some (.ow l),_]=>N+1-l.length
 |_=>0
section
variable {E d:List Int}{v0 v1 v2 v3 v9:Option AV}
theorem T4(G:E.Nodup) (H:d.Perm E) (hl:E.length<=60) {e:Int}(I:e∈E) {v5 v6:Option AV}:∃l,Cy (fl (E.zip d)) e l/\l.length<=E.length/\sj (rA (oN Jn (ro (nC 4) (oN CV (nC 8) (Cs vA (rC (.int 1))))) (nC 7))) uY 100000 [v0,v1,v2,v3,some (.owd (kvI (E.zip d))),v5,v6,some (.sh (.int e)),some (.ow [.sh (.int e)]),v9]=some (.nx [v0,v1,v2,v3,some (.owd (kvI (E.zip d))),v5,v6,some (.sh (.int e)),some (aI l),v9]):=by
 have one:=Qd G H;obtain⟨l,cy,u,s⟩:=one.cy I;have x:∀n,Z.getD (kvI (E.zip d)) (.inl (itr (fl (E.zip d)) n e))=some (.int (itr (fl (E.zip d)) (n+1) e)):=λn=>by
  obtain⟨i,L⟩:=ay.mp (one.itr_mem I n);obtain⟨y,_,h1,h2⟩:=Lz G H.length_eq.symm L;rw[h1,←h2];rfl
 refine⟨l,cy,u,?_⟩;have key:=xj (c:=rA (oN Jn (ro (nC 4) (oN CV (nC 8) (Cs vA (rC (.int 1))))) (nC 7))) (body:=uY) (λS=>∃n,n<l.length/\S=[v0,v1,v2,v3,some (.owd (kvI (E.zip d))),v5,v6,some (.sh (.int e)),some (aI (l.take (n+1))),v9]) (mu6 l.length) (λS=>S=[v0,v1,v2,v3,some (.owd (kvI (E.zip d))),v5,v6,some (.sh (.int e)),some (aI l),v9]) (by
  rintro S ⟨n,hn,rfl⟩;have z:=cy.at hn;have B:=x n;have C:=oh (l.take (n+1));have r:atI ((l.take (n+1)).map D.int) (-1)=some (.int (itr (fl (E.zip d)) n e)):=by
   rw[oW z,mBq];exact Hk _ _
  by_cases h2:n+1<l.length
  .have ne:=s (n+1) (by lia) h2
   have t:=cy.at h2;have l2:(l.take (n+1)).length<qK:=by rw[lTq];show _<16777216;lia
   have M:(l.take (n+1)).map (λn=>AV.sh (.int n))++[.sh (.int (itr (fl (E.zip d)) (n+1) e))]=(l.take (n+1+1)).map λn=>.sh (.int n):=by rw[oW t,mBq];rfl
   refine⟨true,[v0,v1,v2,v3,some (.owd (kvI (E.zip d))),v5,v6,some (.sh (.int e)),some (aI (l.take (n+1))),v9],?_,λ_=>⟨[v0,v1,v2,v3,some (.owd (kvI (E.zip d))),v5,v6,some (.sh (.int e)),some (aI (l.take (n+1+1))),v9],?_,⟨n+1,h2,rfl⟩,?_⟩,λq=>(nomatch q)⟩
   .have nd:(!decide (itr (fl (E.zip d)) (n+1) e=e))=true:=by rw[decide_eq_false ne];rfl
    simp_arith [C,dI,r,B,nd]
   .simp_arith [uY,C,dI,r,B,l2,M]
   .show l.length+1-_<l.length+1-_;simp only[lMq,lTq];lia
  .have J:n+1=l.length:=by lia
   have nd:(!decide (itr (fl (E.zip d)) (n+1) e=e))=false:=by rw[J,cy.back];simp
   refine⟨false,[v0,v1,v2,v3,some (.owd (kvI (E.zip d))),v5,v6,some (.sh (.int e)),some (aI (l.take (n+1))),v9],?_,λq=>(nomatch q),λ_=>by rw[J,aZ]⟩
   simp_arith [C,dI,r,B,nd])
 have h0:=cy.at (i:=0) (by have:=cy.len;lia)
 have ht:l.take 1=[e]:=by
  cases l with
  |nil=>simp at h0
  |cons a l =>
   have:a=e:=aT.inj h0;rw[this];rfl
 obtain⟨P,O,rfl⟩:=key 100000 [v0,v1,v2,v3,some (.owd (kvI (E.zip d))),v5,v6,some (.sh (.int e)),some (.ow [.sh (.int e)]),v9] ⟨0,by have:=cy.len;lia,by rw[bh,ht];rfl⟩ (by
  show l.length+1-1<100000;lia)
 exact O
theorem Qa{kn l:List Int}{v4 v5 v7 v8:Option AV}(hn:(kn++l).Nodup) (hl:kn.length+l.length<500000):∃n,sk 9 uW (l.map D.int) [v0,v1,v2,v3,v4,v5,some (.owd (kI kn)),v7,v8,v9]=some (.nx [v0,v1,v2,v3,v4,v5,some (.owd (kI (kn++l))),v7,v8,n]):=by
 have key:=tx (x:=9) (body:=uW) (λi S=>∃n,S=[v0,v1,v2,v3,v4,v5,some (.owd (kI (kn++l.take i))),v7,v8,n]) (ds:=l.map D.int) (S:=[v0,v1,v2,v3,v4,v5,some (.owd (kI kn)),v7,v8,v9]) ⟨v9,by simp⟩ (by
  rintro i d S hd ⟨r,rfl⟩;rw[gMq]at hd;obtain⟨e,t,rfl⟩:=oMq.mp hd;have y:=(gSq.mp t).1;have s:e∉kn++l.take i:=λm=>by
   have h2:(kn++l.take (i+1)).Nodup:=bj.sublist (cf.append (cf.refl kn) (bW (i+1) l)) hn;rw[oW t,←aM]at h2;exact(nAq.mp h2).2.2 e m e (by simp) rfl
  have u:=KP s;rw[aM,←oW t]at u;have l1:(kI (kn++l.take i)).length<qK:=by rw[KR,lAq,lTq];show _<16777216;lia
  refine⟨_,?_,some (.sh (.int e)),rfl⟩
  simp_arith [uW,l1,u])
 obtain⟨z,e,r,rfl⟩:=key;rw[lMq,aZ]at e;exact⟨r,e⟩
theorem Pe(I:E.Nodup) (J:d.Perm E) (hl:E.length<=60):∃L v6 v7 v8 n,sk 7 tI (E.map D.int) [v0,v1,v2,v3,some (.owd (kvI (E.zip d))),some (.ow []),some (.owd []),none,none,none]=some (.nx [v0,v1,v2,v3,some (.owd (kvI (E.zip d))),some (K13.oM L),v6,v7,v8,n])/\Jl (fl (E.zip d)) E L/\L.length<=E.length:=by
 have one:=Qd I J;have key:=tx (x:=7) (body:=tI) (λi S=>∃s L v7 v8 n,S=[v0,v1,v2,v3,some (.owd (kvI (E.zip d))),some (K13.oM L),some (.owd (kI s)),v7,v8,n]/\Rd (fl (E.zip d)) E s L/\L.length<=i/\∀j x,j<i->E[j]?=some x->x∈s) (ds:=E.map D.int) (S:=[v0,v1,v2,v3,some (.owd (kvI (E.zip d))),some (.ow []),some (.owd []),none,none,none]) ⟨[],[],none,none,none,rfl,⟨by simp,rfl,aY,by simp,by simp⟩,ai _,λj x h=>absurd h (bK _)⟩ (by
  rintro i dd S hd ⟨s,L,v7,v8,n,rfl,hr,Q,r⟩;rw[gMq]at hd;obtain⟨e,C,rfl⟩:=oMq.mp hd;have Y:=(gSq.mp C).1;have y:e∈E:=mGq C;have G:=Js s e
  by_cases c:e∈s
  .rw [decide_eq_true c]at G;refine⟨[v0,v1,v2,v3,some (.owd (kvI (E.zip d))),some (K13.oM L),some (.owd (kI s)),some (.sh (.int e)),v8,n],?_,s,L,_,_,_,rfl,hr,by lia,λj x u t=>?_⟩
   .simp_arith [tI,G]
   .rcases cu.mp u with q|rfl
    .exact r j x q t
    .rw [C]at t;cases t;exact c
  .rw [decide_eq_false c]at G;obtain⟨l,cy,R,M⟩:=T4 I J hl y (v0:=v0) (v1:=v1) (v2:=v2) (v3:=v3) (v9:=n) (v5:=some (K13.oM L)) (v6:=some (.owd (kI s)));have z:=hr.add one cy y c;have U:=J6 _ _ hr.nd hr.sub;obtain⟨B,H⟩:=Qa (kn:=s) (l:=l) (v0:=v0) (v1:=v1) (v2:=v2) (v3:=v3) (v4:=some (.owd (kvI (E.zip d)))) (v5:=some (K13.oM L)) (v7:=some (.sh (.int e))) (v8:=some (.sh (dI l))) (v9:=n) z.nd (by lia)
   have X:=oh l;have l1:L.length<qK:=by show _<16777216;lia
   have O:(L.map λl=>AV.sh (dI l))++[.sh (dI l)]=(L++[l]).map λl=>.sh (dI l):=by rw[mBq];rfl
   refine⟨[v0,v1,v2,v3,some (.owd (kvI (E.zip d))),some (K13.oM (L++[l])),some (.owd (kI (s++l))),some (.sh (.int e)),some (.sh (dI l)),B],?_,s++l,L++[l],_,_,_,rfl,z,by rw[lAq,lSq];lia,λj x u t=>?_⟩
   .unfold K13.oM at M H ⊢;simp -implicitDefEqProofs only [Z.Tg,de,dg,cz,cA,bJ,↓reduceIte,reduceCtorEq,dI]at H
    simp_arith [tI,G,M,X,dI,H,l1]
    simp -implicitDefEqProofs only [Z.Tg,de,dg,cz,cA,bJ,↓reduceIte,reduceCtorEq,dI]at O
    first|rw[O]|simp
   .rcases cu.mp u with q|rfl
    .exact mAq.mpr (.inl (r j x q t))
    .rw [C]at t;cases t;exact mAq.mpr (.inr cy.self))
 obtain⟨S',e,s,L,v7,v8,n,rfl,hr,P,r⟩:=key;rw[lMq]at P;refine⟨L,_,_,_,_,e,hr.orb λx t=>?_,P⟩
 obtain⟨j,u⟩:=ay.mp t;exact r j x (by rw[lMq];exact(gSq.mp u).1) u
end
theorem Nh{nm:List Int}(hn:nm.length<=30) {v0 v1 v3:Option AV}:∃l,sk 3 uJ (nm.map D.int) [v0,v1,some (.ow []),v3,none,none,none,none,none,none]=some (.nx [v0,v1,some (aI (pm nm)),l,none,none,none,none,none,none]):=by
 have key:=tx (x:=3) (body:=uJ) (λi S=>∃l,S=[v0,v1,some (aI (pm (nm.take i))),l,none,none,none,none,none,none]) (ds:=nm.map D.int) (S:=[v0,v1,some (.ow []),v3,none,none,none,none,none,none]) ⟨v3,rfl⟩ (by
  rintro i d S hd ⟨l,rfl⟩;rw[gMq]at hd;obtain⟨x,r,rfl⟩:=oMq.mp hd;have s:(pm (nm.take i)).length+2<=qK:=by rw[Kv,lTq];show _<=16777216;lia
  have t:(pm (nm.take i)).map (λn=>AV.sh (.int n))++[.sh (.int x),.sh (.int (-x))]=(pm (nm.take (i+1))).map λn=>.sh (.int n):=by rw[oW r,LM,mBq];rfl
  refine⟨_,?_,some (.sh (.int x)),rfl⟩
  simp_arith [uJ,s,t])
 obtain⟨u,e,l,rfl⟩:=key;rw[lMq,aZ]at e;exact⟨l,e⟩
structure Mt (T:List (List Int)):Prop where
 nd:T.flatten.Nodup
 ng:∀z∈T.flatten, -z∈T.flatten
 nz:∀z∈T.flatten,z≠0
 le:T.flatten.length<=60
 lt:T.length<=64
 ne:∀r∈T,r≠[]
theorem KD(c:Int) {nm:List Int}(hn:nm.length<=30) (nd:nm.Nodup) (lo:∀z∈nm,1<=z):∃T,vO [.int c,dI nm]=some (K13.oM T)/\Mt T:=by
 have t:(pm nm).Nodup:=K12.BO nd lo;have I:∀z∈pm nm, -z∈pm nm:=λz n=>Pd n
 have u:(pm nm).length<=60:=by rw[Kv];lia
 have J:∀z∈pm nm,z≠0:=λz n q=>by
  obtain⟨y,O,c⟩:=bM.mp n;have:=lo y O;simp at c;lia
 obtain⟨P,B⟩:=Nh hn (v0:=some (.sh (.int c))) (v1:=some (.sh (dI nm))) (v3:=none);generalize pm nm=E at t I u J B;obtain⟨d,M,C⟩:=Oj c (l:=E) u;have G:=Q0 t C.length_eq.symm;have s:=M0 (ns:=E) (ms:=d) C.length_eq.symm;rw[G]at s;obtain⟨L,S,U,X,Y,H,o,lL⟩:=Pe t C u (v0:=some (.sh (.int c))) (v1:=some (.sh (dI nm))) (v2:=some (.sh (dI E))) (v3:=P);have x:L.flatten.Perm E:=(bS o.dj t).mpr o.all;refine⟨L,?_,⟨o.dj,λz n=>x.mem_iff.mpr (I z (x.mem_iff.mp n)),λz n=>J z (x.mem_iff.mp n),by rw[x.length_eq];exact u,by lia,λr hr e=>by obtain⟨z,c⟩:=o.cy r hr;have:=c.len;rw[e]at this;simp at this⟩⟩
 have Q:=oh E;have R:=oh d;unfold K13.oM at H ⊢;simp -implicitDefEqProofs only [Z.Tg,de,dg,cz,cA,bJ,↓reduceIte,reduceCtorEq,dI]at B H M
 simp_arith [vO,Bp,dI,B,Y0,Q,M,R,s,H]
end K44
namespace K40
open PySem L2 Mr Z Zl
open K15 (nx fw)
open K39 (Au Of uL af wX OB Hi AY yy)
def pr(f:Int->Int) (E:List Int):List (List Int):=(qN E).map λx=>[x,f x]
theorem Gw{E:List Int}(h:E.Nodup):(qN E).Nodup:=(qF E).nodup_iff.mpr h
theorem Jx{a b:List Int}(h:a.Perm b):qN a=qN b:=GS ((qF a).trans h) (xw a)
theorem Cd(f:Int->Int) {E:List Int}(hn:E.Nodup):uf (E.map λx=>[x,f x])=pr f E:=by
 symm;refine yR ((qF E).map _) ?_;unfold pr;rw[aF];have h1:=xw E;have h2:=az.mp (Gw hn);refine(bj.and h1 h2).imp λ{x y} h=>?_
 have n:=h.1;have l:=h.2;rw[HT.uv,qk λe=>l e.symm]
 exact decide_eq_false (by lia)
theorem GO(f:Int->Int) (E:List Int):(pr f E).length=E.length:=by unfold pr;rw[lMq,(qF E).length_eq]
theorem TU(f:Int->Int) (E:List Int):∀r∈pr f E,r.length=2:=λr hr=>by
 obtain⟨x,_,rfl⟩:=mMq.mp hr;rfl
theorem Vn(f:Int->Int) (E:List Int):(pr f E).map (·.getD 0 0)=qN E:=by
 unfold pr;rw[mPq];exact fR _
theorem VS(f:Int->Int) (E:List Int):(pr f E).map (·.getD 1 0)=(qN E).map f:=by
 unfold pr;rw[mPq];rfl
def kf(f:Int->Int) (E:List Int):List (oq×D):=(qN E).map λx=>(ao x,.int (f x))
theorem OV(f:Int->Int) {E:List Int}(hn:E.Nodup):dz (qN E) ((qN E).map f)=kf f E:=by
 rw[K44.Q0 (Gw hn) (by rw[lMq])]
 unfold K16.kvI kf;have:∀l:List Int,l.zip (l.map f)=l.map λx=>(x,f x):=λl=>by
  induction l with
  |nil=>rfl
  |cons x l n=>rw[ax,cv,n];rfl
 rw[this,mPq];rfl
theorem DB(f:Int->Int) {E:List Int}(hn:E.Nodup) {x:Int}(l:x∈E):Z.getD (kf f E) (.inl x)=some (.int (f x)):=by
 have e:kf f E=K51.zi ((qN E).map λx=>((ao x:oq),f x)):=by
  unfold kf K51.zi;rw[mPq];rfl
 rw[e];refine K15.vJ ?_ (mMq.mpr ⟨x,(qF E).mem_iff.mpr l,rfl⟩);rw[mPq];rw[az,aF];exact(az.mp (Gw hn)).imp λn e=>n (ao.inj e)
theorem XX(f:Int->Int) (E:List Int):qA qz (kSc (oN wa (nC 0) (rC (.int 0)))) [] ((pr f E).map ve)=some ((qN E).map λn=>.sh (.int n)):=by
 rw[Z.rL λd=>match d with|.tup (x::_)=>.sh x|_=>.sh .non]
 .unfold pr;rw[mPq,mPq];rfl
 .intro d hd;obtain⟨r,hr,rfl⟩:=mMq.mp hd;obtain⟨x,_,rfl⟩:=mMq.mp hr;have l:wa (ve [x,f x]) (.int 0)=some (.int x):=rfl;refine⟨[some (.sh (ve [x,f x]))],?_⟩
  simp_arith [l]
  rfl
theorem Yd(f:Int->Int) (E:List Int):qA qz (kSc (oN wa (nC 0) (rC (.int 1)))) [] ((pr f E).map ve)=some (((qN E).map f).map λn=>.sh (.int n)):=by
 rw[Z.rL λd=>match d with|.tup (_::y::_)=>.sh y|_=>.sh .non]
 .unfold pr;rw[mPq,mPq,mPq];rfl
 .intro d hd;obtain⟨r,hr,rfl⟩:=mMq.mp hd;obtain⟨x,_,rfl⟩:=mMq.mp hr;have l:wa (ve [x,f x]) (.int 1)=some (.int (f x)):=rfl;refine⟨[some (.sh (ve [x,f x]))],?_⟩
  simp_arith [l]
  rfl
theorem Xw(m:List (List Int)):yt (.list (m.map ve)) (.list (m.map ve))=some (.bl false):=by
 have:wZ (.list (m.map ve)) (.list (m.map ve))=some (.bl true):=K35.L4 (Fm m) (by decide)
 unfold yt;rw[this];rfl
section
variable {G:List (List Int)}{f:Int->Int}
theorem T5(l:Mp G) (n:K31.sV G) (a:Au G f):(G.flatten.map f).Perm G.flatten:=by
 have nd:(G.flatten.map f).Nodup:=K33.Gu l.hn (a.inj l n);have sub:∀z∈G.flatten.map f,z∈G.flatten:=λz r=>by
  obtain⟨x,s,rfl⟩:=mMq.mp r;exact a.mem x s
 exact(bS nd l.hn).mpr λz=>⟨sub z,OC nd (by rw[lMq];exact ai _) sub z⟩
theorem MD(n:Mp G) (H:K31.sV G) (a:Au G f):qI [.list ((pr f G.flatten).map ve),dM G,dM G]=some (.sh (.bl true)):=by
 have hl:=n.hl;have hn:=n.hn;have I:K39.ZG (pr f G.flatten):=⟨by rw[GO];lia,λr hr=>by obtain⟨x,_,rfl⟩:=mMq.mp hr;exact⟨_,_,rfl⟩⟩
 have J:f_L_pairs [.list ((pr f G.flatten).map ve)]=some (.sh (.bl true)):=K39.O0 I;have ti:=qM (pr f G.flatten);have L:((∀r∈pr f G.flatten,r≠[])/\(pr f G.flatten).length<64)=True:=eq_true ⟨λr hr e=>(by have:=TU f _ r hr;rw[e]at this;cases this),by rw[GO];lia⟩
 have t:(G.flatten.length<64)=True:=eq_true (by lia)
 have s:((qN G.flatten).length<64)=True:=eq_true (by rw[(qF _).length_eq];lia)
 have M:uf (pr f G.flatten)=pr f G.flatten:=by rw[←Cd f hn];exact(yR (dU.refl _) (ur _)).symm
 have O:=Xw (pr f G.flatten);have P:=K39.zG (pr f G.flatten);have Q:=K15.Mz n;have R:(∀r∈pr f G.flatten,r.length=2)=True:=eq_true (TU f _);have U:=Vn f G.flatten;have X:=VS f G.flatten;have u:=OV f hn;have Y:=XX f G.flatten;have k1:=Yd f G.flatten;have kk:zL (K51.zi (K51.pY G))=some G.flatten:=by
  have:=Cj (λp:oq×Int=>match p.1 with|.inl i=>i|_=>0) (λp:oq×Int=>D.int p.2) (K51.pY G)
  have y:K51.zi (K51.pY G)=(K51.pY G).map λp=>((ao (match p.1 with|.inl i=>i|_=>0):oq),D.int p.2):=by
   unfold K51.zi;refine mCq λp hp=>?_
   have:p.1∈(K51.pY G).map (·.1):=mMq.mpr ⟨p,hp,rfl⟩;rw[K51.tQ]at this;obtain⟨x,_,e⟩:=mMq.mp this;rw[←e]
  rw[y,this];have e2:(K51.pY G).map (λp:oq×Int=>match p.1 with|.inl i=>i|_=>0)=((K51.pY G).map (·.1)).map λk:oq=>match k with|.inl i=>i|_=>0:=by rw[mPq];rfl
  rw[e2,K51.tQ,mPq];exact congrArg some (fR _)
 have z:=oh (qN G.flatten);have sI2:=oh (qN ((qN G.flatten).map f));have B:qN ((qN G.flatten).map f)=qN G.flatten:=Jx (((qF _).map f).trans (T5 n H a));have iM:=qR ((qN G.flatten).map f);have y:=UQ (qN G.flatten) (qN G.flatten);have lE:((pr f G.flatten).length<=qK)=True:=eq_true (by rw[GO];show _<=16777216;lia)
 have key:=tx (x:=6) (body:=vo) (λi S=>∃C,S=[some (.sh (.list ((pr f G.flatten).map ve))),some (.sh (dM G)),some (.sh (dM G)),some (.sh (.fd (K51.zi (K51.pY G)))),some (.owd (K51.zi (K51.pY G))),some (.owd (kf f G.flatten)),C]) (ds:=G.flatten.map D.int) (S:=[some (.sh (.list ((pr f G.flatten).map ve))),some (.sh (dM G)),some (.sh (dM G)),some (.sh (.fd (K51.zi (K51.pY G)))),some (.owd (K51.zi (K51.pY G))),some (.owd (kf f G.flatten)),none]) ⟨none,rfl⟩ (by
  rintro i d S hd ⟨C,rfl⟩;rw[gMq]at hd;obtain⟨x,he,rfl⟩:=oMq.mp hd;have l:=mGq he;have g1:=DB f hn l;have g2:=DB f hn (n.hneg x l);have g3:=DB f hn (K15.xF hn l);have g4:=K15.Jw hn l;have g5:=K15.Jw hn (a.mem x l);have o1:=a.odd x l;have o2:=a.nx x l;refine⟨_,?_,some (.sh (.int x)),rfl⟩
  simp_arith [vo,g1,g2,o1,KW,Ld,g4,g3,g5,o2,decide_true])
 obtain⟨S',ew,C,rfl⟩:=key;have kD:=K15.Uq G;have E:((6:Nat)≠3)=True:=by simp
 simp_arith [qI,Ad,J,GB,ti,L,M,P,O,Q,RZ,R,U,X,u,Y,LL,Qw,kk,z,y,k1,iM,B,lE,decide_true,E,kD,ew,t,s]
end
end K40
namespace K33
open PySem L2 Mr Z Xe Zl
def HE(ot:List Int) (bits:Int) (k:Nat):Int:=ot.getD k 0*(1-2*(bits / ((k:Int)+2) % 2))
def As(nm ot:List Int) (bits:Int):Nat->List (oq×D)
 |0=>[]
 |k+1=>As nm ot bits k++[((ao (nm.getD k 0):oq),D.int (HE ot bits k)),((ao (-(nm.getD k 0)):oq),D.int (-(HE ot bits k)))]
section
variable {nm ot:List Int}{bits:Int}
theorem Im(l:List Int) (x:Int):K31.vP (l++[x])=K31.vP l++[x, -x]:=by
 unfold K31.vP;rw[cJ];rfl
theorem Fi{n:Nat}(h:n<nm.length):nm.take (n+1)=nm.take n++[nm.getD n 0]:=oW (by rw[gDq,gEg h];rfl)
theorem BJ:∀{n:Nat},n<=nm.length->(As nm ot bits n).map (·.1)=(K31.vP (nm.take n)).map ao
 |0,_=>by simp[As,K31.vP]
 |n+1,h=>by
  rw[Fi (by lia),Im,mBq,←BJ (n:=n) (by lia)]
  show (As nm ot bits n++[((ao (nm.getD n 0):oq),D.int (HE ot bits n)),((ao (-(nm.getD n 0)):oq),D.int (-(HE ot bits n)))]).map (·.1)=_;rw[mBq];rfl
theorem Se(n:Nat):(As nm ot bits n).length=2*n:=by
 induction n with
 |zero=>rfl
 |succ n l =>
  unfold As;rw[lAq,l];show 2*n+2=_;lia
theorem Iz{a b:List (oq×D)}{k:oq}{d:D}(h:Z.getD a k=some d):Z.getD (a++b) k=some d:=by
 unfold Z.getD at h ⊢;obtain⟨kv,h1,h2⟩:=oMq.mp h;rw[List.find?_append,h1];show some kv.2=_;rw[←h2]
theorem Ja(hn:K31.Nm nm) {k:Nat}(l:k<nm.length):(ao (nm.getD k 0):oq)∉(As nm ot bits k).map (·.1)/\(ao (-(nm.getD k 0)):oq)∉(As nm ot bits k++[((ao (nm.getD k 0):oq),D.int (HE ot bits k))]).map (·.1):=by
 have nd:(K31.vP (nm.take (k+1))).Nodup:=K12.BO (hn.nd.sublist (bW ..)) λx r=>hn.lo x (eJ r)
 have r:1<=nm.getD k 0:=hn.lo _ (by rw[gDq,gEg l];exact gRq l)
 rw[Fi l,Im,nAq]at nd;refine⟨λm=>?_,λm=>?_⟩
 .rw [BJ (by lia)]at m
  obtain⟨y,n,e⟩:=mMq.mp m;cases e;exact nd.2.2 _ n _ (by simp) rfl
 .rw [mBq,BJ (by lia)]at m
  rcases mAq.mp m with m|m
  .obtain ⟨y,n,e⟩:=mMq.mp m;cases e;exact nd.2.2 _ n _ (by simp) rfl
  .have:=mSq.mp m;have:=ao.inj this;lia
theorem Gm(hn:K31.Nm nm):∀{n:Nat},n<=nm.length->∀{k:Nat},k<n->Z.getD (As nm ot bits n) (ao (nm.getD k 0))=some (.int (HE ot bits k))/\Z.getD (As nm ot bits n) (ao (-(nm.getD k 0)))=some (.int (-(HE ot bits k)))
 |0,_,k,l=>absurd l (bK _)
 |n+1,h,k,l=>by
  by_cases c:k<n
  .obtain ⟨h1,h2⟩:=Gm hn (n:=n) (by lia) c
   unfold As;exact⟨Iz h1,Iz h2⟩
  .have:k=n:=by lia
   subst this;obtain⟨r,s⟩:=Ja (ot:=ot) (bits:=bits) hn (show k<nm.length by lia)
   unfold As;refine⟨?_,?_⟩
   .rw [getD_app r];unfold Z.getD;rw[bT (by simp)]
    rfl
   .rw [show As nm ot bits k++[((ao (nm.getD k 0):oq),D.int (HE ot bits k)),((ao (-(nm.getD k 0)):oq),D.int (-(HE ot bits k)))]=(As nm ot bits k++[((ao (nm.getD k 0):oq),D.int (HE ot bits k))])++[((ao (-(nm.getD k 0)):oq),D.int (-(HE ot bits k)))] by simp,getD_app s]
    unfold Z.getD;rw[bT (by simp)]
    rfl
def WC(kvs:List (oq×D)) (x:Int):Int:=match Z.getD kvs (ao x) with
 |some (.int z)=>z
 |_=>0
theorem Gv{kvs:List (oq×D)}{x z:Int}(h:Z.getD kvs (ao x)=some (.int z)):WC kvs x=z:=by
 unfold WC;rw[h]
theorem Da{x:Int}(h:x∈K31.vP nm):∃k,k<nm.length/\(x=nm.getD k 0∨x = -(nm.getD k 0)):=by
 obtain⟨y,n,q⟩:=K31.Ha.mp h;obtain⟨k,l,rfl⟩:=cC.mp n;refine⟨k,l,?_⟩;rw[gDq,gEg l];exact q
theorem Oy{l:List Int}(hn:l.Nodup) {j k:Nat}(n:j<l.length) (r:k<l.length) (h:l.getD j 0=l.getD k 0):j=k:=by
 rw[gDq,gDq,gEg n,gEg r]at h;have s:=hn.idxOf_getElem j n;have t:=hn.idxOf_getElem k r;have u:l[j]=l[k]:=h;rw[u,t]at s;exact s.symm
theorem T7(hn:K31.Nm nm) {x:Int}(h:x∈K31.vP nm):Z.getD (As nm ot bits nm.length) (ao x)=some (.int (WC (As nm ot bits nm.length) x)):=by
 obtain⟨k,n,q⟩:=Da h;obtain⟨l,g2⟩:=Gm (ot:=ot) (bits:=bits) hn (ai _) n;rcases q with rfl|rfl
 .rw [Gv l];exact l
 .rw [Gv g2];exact g2
end
end K33
namespace K40
open PySem L2 Mr Z Zl
open K15 (nx fw)
open K31 (tw ux w0 sg B4 Wd vP Nm tj gm)
open K33 (En WC As HE)
open K39 (Au Fw fs JT)
open K12 (BC)
section
variable {φ:Int->Int}(hφ:∀x,φ (-x) = -(φ x))
def mw(φ:Int->Int) (w:Wd):Wd:=⟨En φ w.T,w.t0,w.h,w.loose.map φ,w.left.map φ⟩
theorem Ac(φ:Int->Int) (T:List (List Int)) (h:Nat):(En φ T).getD h []=(T.getD h []).map φ:=by
 rw[gDq,gDq,gMq];cases T[h]? <;> rfl
theorem Dh(φ:Int->Int) (T:List (List Int)) (h:Nat) (r:List Int):(En φ T).set h (r.map φ)=En φ (T.set h r):=(ja ..).symm
include hφ
theorem XA:φ 0=0:=by have:=hφ 0;rw[Int.neg_zero]at this;lia
theorem V0(c x:Int):φ (sg c x)=sg c (φ x):=by
 unfold sg;have h:c / 4 % 2=0∨c / 4 % 2=1:=by lia
 rcases h with h|h <;> rw[h]
 .rw [show (1:Int)-2*0=1 from rfl,eA,eA]
 .rw [show (1:Int)-2*1 = -1 from rfl,gT,eA,hφ,gT,eA]
theorem Ni(wild:Bool) (w:Wd) (c:Int):ux wild (mw φ w) c=mw φ (ux wild w c):=by
 have u:=XA hφ;obtain⟨T,t0,h,loose,left⟩:=w;unfold ux mw;dsimp only
 by_cases n:c % 4=1/\t0≠[]
 .rw [pQ n,pQ n]
 .rw [qk n,qk n];have y:B4 wild c (loose.map φ)=B4 wild c loose:=by unfold B4;rw[lMq]
  by_cases l:c % 4=2/\loose≠[]
  .rw [pQ l,pQ ⟨l.1,λe=>l.2 (List.map_eq_nil_iff.mp e)⟩]
   dsimp only;rw[y,Ac];have s:(loose.map φ).getD (B4 wild c loose) 0=φ (loose.getD (B4 wild c loose) 0):=by
    rw[gDq,gDq,gMq];cases loose[B4 wild c loose]? with
    |none=>exact u.symm
    |some z=>rfl
   rw[s,K16.Ah,←Dh,mBq];rfl
  .rw [qk l,qk λz=>l ⟨z.1,λe=>z.2 (by rw[e];rfl)⟩]
   cases left with
   |nil=>rfl
   |cons x left =>
    simp only[ax];have t:=V0 hφ c x
    by_cases r:c % 4=0
    .rw [pQ r,pQ r];dsimp only;have s:En φ (T.set h (T.getD h []++[sg c x])++[[-(sg c x)]])=(En φ T).set h ((T.getD h []).map φ++[φ (sg c x)])++[[φ (-(sg c x))]]:=by
      rw[show En φ (T.set h (T.getD h []++[sg c x])++[[-(sg c x)]])=En φ (T.set h (T.getD h []++[sg c x]))++[[φ (-(sg c x))]] from mBq,←Dh,mBq]
      rfl
     rw[Ac,←t,←hφ,s,lMq]
    .rw [qk r,qk r];dsimp only;rw[Ac,←t,←hφ,←Dh,mBq,mBq];rfl
theorem Fk(wild:Bool):∀(cs:List Int) (w:Wd),cs.foldl (ux wild) (mw φ w)=mw φ (cs.foldl (ux wild) w)
 | [],_=>rfl
 |c::cs,w=>by rw[bB,bB,Ni hφ,Fk wild cs]
theorem Wb(wild:Bool) (nm cs:List Int):tw wild (nm.map φ) cs=En φ (tw wild nm cs):=by
 have e:w0 (nm.map φ)=mw φ (w0 nm):=rfl;unfold tw;rw[e,Fk hφ];generalize cs.foldl (ux wild) (w0 nm)=w;show (En φ w.T).set w.h ((En φ w.T).getD w.h []++(w.loose.map φ).reverse)=_;rw[Ac,←iG,←mBq,Dh]
end
theorem SZ{f:Int->Int}{e x y:Int}{l:List Int}(c:Cy f e l) {j:Nat}(r:l[j]?=some x) (t:l[(j+1) % l.length]?=some y):f x=y:=by
 have n:=(gSq.mp r).1;have s:=c.at n;rw[r]at s;rw[aT.inj s];refine aT.inj (Eq.trans ?_ t);show some (itr f (j+1) e)=_
 by_cases q:j+1<l.length
 .rw [bF q];exact(c.at q).symm
 .have u:j+1=l.length:=by lia
  rw[u,cZ,c.back];exact(c.at (i:=0) (by lia)).symm
theorem Uv{T:List (List Int)}(hn:T.flatten.Nodup) (n:(gm T).flatten.Nodup) {x:Int}(s:x∈(gm T).flatten):nx (gm T) x=nx T x:=by
 refine K16.L5 n (λl hl=>?_) s
 obtain⟨r,hr,rfl⟩:=mMq.mp ((qj _).mem_iff.mp hl);cases r with
 |nil=>exact .inl rfl
 |cons a r=>exact .inr (K16.CW (K16.Gk hn hr rfl))
theorem XS{T:List (List Int)}{φ:Int->Int}(u:Mp (gm T)) (B:∀x,φ (-x) = -(φ x)) (h:∀r∈T,∃r'∈T,∃k,k<=r'.length/\r.map φ=r'.drop k++r'.take k):Au (gm T) φ:=by
 have pf:=K31.za T;have hn:T.flatten.Nodup:=pf.nodup_iff.mp u.hn;have mem:∀x∈T.flatten,φ x∈T.flatten:=λx s=>by
  obtain⟨r,hr,l⟩:=mFq.mp s;obtain⟨r',n,k,_,e⟩:=h r hr;have:φ x∈r.map φ:=mMq.mpr ⟨x,l,rfl⟩;rw[e]at this;refine mFq.mpr ⟨r',n,?_⟩;rcases mAq.mp this with q|q
  .exact fH q
  .exact eJ q
 refine⟨λx s=>pf.mem_iff.mpr (mem x (pf.mem_iff.mp s)),λx _=>B x,λx s=>?_⟩
 have t:=pf.mem_iff.mp s;rw[Uv hn u.hn s,Uv hn u.hn (pf.mem_iff.mpr (mem x t))];obtain⟨r,hr,l⟩:=mFq.mp t;obtain⟨r',n,k,J,e⟩:=h r hr;obtain⟨j,C⟩:=ay.mp l;have L:=(gSq.mp C).1;have E:r[(j+1) % r.length]?=some (r[(j+1) % r.length]'(dh _ (by lia))):=gEg _
 rw[K16.nx_at hn hr C E];generalize r[(j+1) % r.length]'(dh _ (by lia))=y at E
 have len:r.length=r'.length:=by
  have:=congrArg bp e;rw[lMq,lAq,aO,lTq]at this;lia
 obtain⟨z,I⟩:∃z,r'[0]?=some z:=⟨_,gEg (by lia)⟩
 have G:=K16.Gk hn n I;obtain⟨H,c⟩:∃H,Cy (nx T) H (r.map φ):=by
  rw[e]
  by_cases q:k<r'.length
  .exact ⟨_,G.rot q⟩
  .rw [bz (by lia),bA (by lia),eY]
   exact⟨_,G⟩
 exact(SZ c (j:=j) (by rw[gMq,C];rfl) (by rw[lMq,gMq,E];rfl)).symm
section
variable {nm:List Int}{many each:Nat}
def pn(nm:List Int) (each p:Nat):List Int:=(aS each).map λj=>nm.getD (p*each+j) 0
def ot(nm:List Int) (each:Nat):List Int:=(aS 12).map λk=>nm.getD ((k+each) % 12) 0
def Fp(nm:List Int) (each:Nat):Int->Int:=WC (As nm (ot nm each) 0 12)
theorem Uj{k:Nat}(l:k<12):HE (ot nm each) 0 k=nm.getD ((k+each) % 12) 0:=by
 unfold HE ot;rw[Int.zero_ediv,Int.zero_emod,show (1:Int)-2*0=1 from rfl,eA,gDq,gMq,bY l]
 rfl
theorem JK(hn:Nm nm) (s:nm.length=12) {k:Nat}(l:k<12):Fp nm each (nm.getD k 0)=nm.getD ((k+each) % 12) 0/\Fp nm each (-(nm.getD k 0)) = -(nm.getD ((k+each) % 12) 0):=by
 obtain⟨r,g2⟩:=K33.Gm (ot:=ot nm each) (bits:=0) hn (n:=12) (by lia) l
 rw[Uj l]at r g2;exact⟨K33.Gv r,K33.Gv g2⟩
theorem To(hn:Nm nm) (l:nm.length=12) {x:Int}(n:x∈vP nm):Z.getD (As nm (ot nm each) 0 12) (.inl x)=some (.int (Fp nm each x)):=by
 have:=K33.T7 (ot:=ot nm each) (bits:=0) hn n;rw[l]at this;exact this
theorem LX(n:nm.length=12) {x:Int}(r:x∉vP nm):Fp nm each x=0:=by
 unfold Fp WC;have:Z.getD (As nm (ot nm each) 0 12) (.inl x)=none:=by
  unfold Z.getD;rw[Option.map_eq_none_iff,List.find?_eq_none];intro kv l q;have h1:kv.1∈(As nm (ot nm each) 0 12).map (·.1):=mMq.mpr ⟨kv,l,rfl⟩;rw[K33.BJ (by lia),bA (by lia)]at h1
  obtain⟨y,s,e⟩:=mMq.mp h1;have t:kv.1=ao x:=of_decide_eq_true q;rw[t]at e;exact r (ao.inj e ▸ s)
 rw[this]
theorem bth_neg{x:Int}(h:x∈vP nm):-x∈vP nm:=by
 obtain⟨y,l,q⟩:=K31.Ha.mp h;exact K31.Ha.mpr ⟨y,l,by lia⟩
theorem Mb(hn:Nm nm) (l:nm.length=12) (x:Int):Fp nm each (-x) = -(Fp nm each x):=by
 by_cases n:x∈vP nm
 .obtain ⟨k,r,q⟩:=K33.Da n;obtain⟨a,b⟩:=JK (each:=each) hn l (k:=k) (by lia)
  rcases q with rfl|rfl
  .rw [a,b]
  .rw [cY,a,b,cY]
 .rw [LX l n,LX l λh=>n (by have:=bth_neg h;rwa [cY]at this)]
  rfl
theorem UX(hn:Nm nm) (l:nm.length=12) (t:many*each=12) {p:Nat}(r:p<many):(pn nm each p).map (Fp nm each)=pn nm each ((p+1) % many):=by
 unfold pn;rw[mPq];refine mCq λj n=>?_
 have n:=aN.mp n;have u:(p+1)*each<=many*each:=dG _ r;have s:(p+1)*each=p*each+each:=eG ..;show Fp nm each (nm.getD (p*each+j) 0)=_;rw[(JK hn l (k:=p*each+j) (by lia)).1]
 congr 1
 by_cases q:p+1<many
 .have x:(p+1+1)*each<=many*each:=dG _ q;have y:(p+1+1)*each=(p+1)*each+each:=eG ..;rw[bF q,bF (by lia)]
  lia
 .have e:p+1=many:=by lia
  rw[e]at s ⊢;rw[cZ,gF];lia
theorem Dd(hn:Nm nm) (l:nm.length=12) {k:Nat}(n:k<12):∀i:Nat,itr (Fp nm each) i (nm.getD k 0)=nm.getD ((k+i*each) % 12) 0/\itr (Fp nm each) i (-(nm.getD k 0)) = -(nm.getD ((k+i*each) % 12) 0)
 |0=>by
  rw[gF,iZ,bF n];exact⟨rfl,rfl⟩
 |i+1=>by
  obtain⟨a,b⟩:=Dd hn l n i;obtain⟨c,d⟩:=JK (each:=each) hn l (k:=(k+i*each) % 12) (dh _ (by decide))
  have m:(i+1)*each=i*each+each:=eG ..;have e:((k+i*each) % 12+each) % 12=(k+(i+1)*each) % 12:=by rw[m];lia
  rw[e]at c d;exact⟨by show Fp nm each (itr _ i _)=_;rw[a,c],by show Fp nm each (itr _ i _)=_;rw[b,d]⟩
theorem Ow(hn:Nm nm) (l:nm.length=12) (r:many*each=12) {x:Int}(n:x∈vP nm):itr (Fp nm each) many x=x:=by
 obtain⟨k,s,q⟩:=K33.Da n;obtain⟨a,b⟩:=Dd (each:=each) hn l (k:=k) (by lia) many
 have e:(k+many*each) % 12=k:=by lia
 rw[e]at a b;rcases q with rfl|rfl
 .exact a
 .exact b
theorem Ot(hn:Nm nm) (l:nm.length=12) (r:many*each=12) {x:Int}(s:x∈vP nm) {i j:Nat}(n:i<j) (t:j<many):itr (Fp nm each) i x≠itr (Fp nm each) j x:=by
 obtain⟨k,u,q⟩:=K33.Da s;obtain⟨a,b⟩:=Dd (each:=each) hn l (k:=k) (by lia) i
 obtain⟨c,d⟩:=Dd (each:=each) hn l (k:=k) (by lia) j
 have y:(i+1)*each<=j*each:=dG _ n;have z:(j+1)*each<=many*each:=dG _ t;have B:(i+1)*each=i*each+each:=eG ..;have C:(j+1)*each=j*each+each:=eG ..;have pos:0<each:=ff λe=>by rw[e]at r;lia
 have ne:nm.getD ((k+i*each) % 12) 0≠nm.getD ((k+j*each) % 12) 0:=λe=>by
  have:=K33.Oy hn.nd (by lia) (by lia) e
  lia
 intro e;rcases q with rfl|rfl
 .rw [a,c]at e;exact ne e
 .rw [b,d]at e;exact ne (by lia)
theorem Dv{f g:Nat->List Int}:∀{l:List Nat},(∀a∈l,f a=g a)->l.flatMap f=l.flatMap g
 | [],_=>rfl
 |a::l,h=>by rw[bD,bD,h a (aw ..),Dv λb n=>h b (mCo _ n)]
def pt(wild:Bool) (cs nm:List Int) (each p:Nat):List (List Int):=tw wild (pn nm each p) cs
def fr(wild:Bool) (cs nm:List Int) (each n:Nat):List Int:=(aS n).flatMap λp=>(pt wild cs nm each p).getD 0 []
def KB(wild:Bool) (cs nm:List Int) (each n:Nat):List (List Int):=(aS n).flatMap λp=>(pt wild cs nm each p).drop 1
theorem Ra(hn:Nm nm) (l:nm.length=12) (n:many*each=12) {p:Nat}(r:p<many) (wild:Bool) (cs:List Int):En (Fp nm each) (pt wild cs nm each p)=pt wild cs nm each ((p+1) % many):=by
 unfold pt;rw[←Wb (Mb hn l),UX hn l n r]
theorem M6(hn:Nm nm) (n:nm.length=12) (s:many*each=12) (wild:Bool) (cs:List Int):∀r∈fr wild cs nm each many::KB wild cs nm each many,∃r'∈fr wild cs nm each many::KB wild cs nm each many,∃k,k<=r'.length/\r.map (Fp nm each)=r'.drop k++r'.take k:=λr hr=>by
 rcases ar.mp hr with rfl|hr
 .refine ⟨_,aw ..,?_⟩;obtain⟨m,rfl⟩:∃m,many=m+1:=by
   cases many with
   |zero=>rw[gF]at s;cases s
   |succ m=>exact⟨m,rfl⟩
  have u:(fr wild cs nm each (m+1)).map (Fp nm each)=(aS (m+1)).flatMap λp=>(pt wild cs nm each ((p+1) % (m+1))).getD 0 []:=by
   unfold fr;rw[List.map_flatMap];refine Dv λp l=>?_
   rw[←Ac,Ra hn n s (aN.mp l)]
  have t:fr wild cs nm each (m+1)=(pt wild cs nm each 0).getD 0 []++(aS m).flatMap λp=>(pt wild cs nm each (p+1)).getD 0 []:=by
   unfold fr;rw[List.range_succ_eq_map,bD,List.flatMap_map]
  have x:(aS (m+1)).flatMap (λp=>(pt wild cs nm each ((p+1) % (m+1))).getD 0 [])=((aS m).flatMap λp=>(pt wild cs nm each (p+1)).getD 0 [])++(pt wild cs nm each 0).getD 0 []:=by
   rw[fM,cJ];congr 1
   .refine Dv λp l=>?_
    rw[bF (by have:=aN.mp l;lia)]
   .rw [bD,gz,aNq,cZ]
  refine⟨((pt wild cs nm each 0).getD 0 []).length,?_,?_⟩
  .rw [t,lAq];lia
  .rw [u,x,t,fW,fq]
 .obtain ⟨p,l,hr⟩:=bM.mp hr;have l:=aN.mp l;refine⟨r.map (Fp nm each),mCo _ (bM.mpr ⟨(p+1) % many,aN.mpr (dh _ (by lia)),?_⟩),0,ba _,by rw[iO,List.take_zero,aNq]⟩
  rw[←Ra hn n s l,En,←iV];exact mMq.mpr ⟨r,hr,rfl⟩
end
end K40
namespace K40
open PySem L2 Mr Z Zl
open K15 (nx fw)
open K31 (tw vP Nm tj gm)
open K33 (As HE)
open K39 (Au Fw fs JT)
open K12 (BC)
theorem Vy{st sh a b:Int}{p each:Nat}(h:(p+1)*each<=12):JT st sh a b (p*each) each=pn (tj st sh a b 12) each p:=by
 unfold JT pn;refine mCq λj l=>?_
 have l:=aN.mp l;have n:(p+1)*each=p*each+each:=eG ..;unfold tj;rw[gDq,gMq,bY (by lia)]
 rfl
theorem TN(wild:Bool) (cs nm:List Int) (each n:Nat):fr wild cs nm each (n+1)=fr wild cs nm each n++(pt wild cs nm each n).getD 0 []:=by
 unfold fr;rw[fM,cJ,bD,gz,aNq]
theorem PH(wild:Bool) (cs nm:List Int) (each n:Nat):KB wild cs nm each (n+1)=KB wild cs nm each n++(pt wild cs nm each n).drop 1:=by
 unfold KB;rw[fM,cJ,bD,gz,aNq]
abbrev wl(ns:List Int):Bool:=decide (cell ns 2 % 2=1)
noncomputable abbrev cl(ns:List Int):List Int:=(ns.drop 3).take 63
theorem M5{ns:List Int}{st sh a b:Int}(h:∀k:Nat,K31.rO [.int (cell ns 0),.int (cell ns 1),.int (k:Int)]=some (.sh (.int (BC st sh a b k)))) {many each p:Nat}(O:(p+1)*each<=12) (P:each<=12) (Q:p<12) (B:Fw (tj st sh a b (p*each)) (fr (wl ns) (cl ns) (tj st sh a b 12) each p::KB (wl ns) (cl ns) (tj st sh a b 12) each p)) {v5 v6:Option AV} :
  ∃C E,xt (fs ns many each (fr (wl ns) (cl ns) (tj st sh a b 12) each p) (KB (wl ns) (cl ns) (tj st sh a b 12) each p) (some (.sh (.int (p:Int)))) v5 v6)=some (.nx (fs ns many each (fr (wl ns) (cl ns) (tj st sh a b 12) each (p+1)) (KB (wl ns) (cl ns) (tj st sh a b 12) each (p+1)) (some (.sh (.int (p:Int)))) C E))/\Fw (tj st sh a b ((p+1)*each)) (fr (wl ns) (cl ns) (tj st sh a b 12) each (p+1)::KB (wl ns) (cl ns) (tj st sh a b 12) each (p+1)):=by
 have fn:=K39.Ko (p:=p) (n:=each) Q P h;have t:zY ns (some 3) (some 66)=cl ns:=Re ns 3 66;have hl:(cl ns).length<=63:=by rw[lTq];exact Nat.min_le_left ..
 rw[TN,PH];have nl:(JT st sh a b (p*each) each).length=each:=by unfold JT;rw[lMq,aD]
 obtain⟨y,⟨left,cnt⟩,tr,G,M⟩:=K31.QP (nm:=JT st sh a b (p*each) each) (cs:=cl ns) (wild:=wl ns) hl (by lia)
 have H:tw (wl ns) (JT st sh a b (p*each) each) (cl ns)=pt (wl ns) (cl ns) (tj st sh a b 12) each p:=by rw[Vy O];rfl
 rw[H]at y cnt tr G M;generalize pt (wl ns) (cl ns) (tj st sh a b 12) each p=T at y cnt tr G M;generalize fr (wl ns) (cl ns) (tj st sh a b 12) each p=u at B;generalize KB (wl ns) (cl ns) (tj st sh a b 12) each p=oY at B;have R:Fw (JT st sh a b (p*each) each) T:=⟨⟨left,cnt⟩,tr⟩;obtain⟨l,ct,rfl⟩:∃l ct,T=l::ct:=by
  cases T with
  |nil=>cases G
  |cons c ct=>exact⟨c,ct,rfl⟩
 have S:(l::ct).getD 0 []=l:=rfl;have U:List.drop 1 (l::ct)=ct:=rfl;rw[S,U];generalize cl ns=cs at t hl y;have s:=B.add R;rw[←K39.RG,show p*each+each=(p+1)*each by rw[eG]]at s
 have Y:=K39.Fe s;have ll:(tj st sh a b ((p+1)*each)).length=(p+1)*each:=by unfold tj;rw[lMq,aD]
 have fl:((u++l)::(oY++ct)).flatten.length<=2*((p+1)*each):=by
  obtain⟨left,c⟩:=s.cnt;have:(((u++l)::(oY++ct)).flatten++vP left).Perm (vP (tj st sh a b ((p+1)*each))):=cI.mpr λz=>by rw[cAq];exact c z
  have:=this.length_eq;rw[lAq,K31.yW,K31.yW,ll]at this;lia
 rw[fCq,lAq,lAq]at fl;rw[lCq,lAq]at Y;have sn:=oh (JT st sh a b (p*each) each);have m2:=λi:Int=>rz (i:=i) (j:=2) (by decide)
 have rE:Cp [.int (each:Int)]=some (pR 0 each):=xC (n:=each) (by lia)
 have lE:((pR 0 each).length<=qK)=True:=eq_true (by rw[pT];show _<=16777216;lia)
 have sT:((l::ct).map aI).map oa=(l::ct).map dI:=by rw[mPq];exact mCq λr _=>oh r
 have I:atI (D.list (l.map D.int)::ct.map dI) 0=some (.list (l.map D.int)):=qE (j:=0) rfl;have J:zY (D.list (l.map D.int)::ct.map dI) (some 1) none=ct.map dI:=Ao (D.list (l.map D.int)::ct.map dI) 1 (by simp)
 have s6:(ct.map λr=>AV.sh (.list (r.map D.int))).map oa=ct.map dI:=by rw[mPq];exact mCq λ_ _=>rfl
 have pt:∀X x,Z.uC (.ow (.ow (u.map λn=>.sh (.int n))::X)) [0] x = .ow (.ow x::X):=λ_ _=>rfl
 have e5:=K12.Tb u l;have e7:(oY.map λr=>AV.sh (.list (r.map D.int)))++(ct.map dI).map AV.sh=(oY++ct).map λr=>.sh (.list (r.map D.int)):=by rw[mBq,mPq];rfl
 refine⟨some (.sh (dI (JT st sh a b (p*each) each))),some (.ow ((l::ct).map λr=>.sh (dI r))),?_,s⟩
 have L:Hc (oY.length+1) 0=some 0:=GH (i:=0) (by lia)
 have l1:(u.length+l.length<=qK)=True:=eq_true (by show _<=16777216;lia)
 have l2:(oY.length+1+ct.length<=qK)=True:=eq_true (by show _<=16777216;lia)
 simp_arith [xt,rE,lE,fn,sn,dI,zy,t,IZ,m2,y,sT,I,J,s6,pt,e5,e7,L,l1,l2,CP]
 rw[←mBq,←mBq]
theorem S8{ns:List Int}{st sh a b:Int}(h:∀k:Nat,K31.rO [.int (cell ns 0),.int (cell ns 1),.int (k:Int)]=some (.sh (.int (BC st sh a b k)))) {many each:Nat}(J:0<many) (B:many*each=12) (H:12 / many=each):yg [.scr ns,.int (many:Int)]=some (.ow (aI (fr (wl ns) (cl ns) (tj st sh a b 12) each many)::(KB (wl ns) (cl ns) (tj st sh a b 12) each many).map λr=>.sh (dI r)))/\Fw (tj st sh a b 12) (fr (wl ns) (cl ns) (tj st sh a b 12) each many::KB (wl ns) (cl ns) (tj st sh a b 12) each many):=by
 have l:each<=12:=by rw[←H];exact Nat.div_le_self ..
 have L:0<each:=ff λe=>by rw[e]at B;lia
 have I:many<=12:=by rw[←B];exact Nat.le_mul_of_pos_right _ L
 have key:=tx (x:=4) (body:=xt) (λi S=>∃C y z,S=fs ns many each (fr (wl ns) (cl ns) (tj st sh a b 12) each i) (KB (wl ns) (cl ns) (tj st sh a b 12) each i) C y z/\Fw (tj st sh a b (i*each)) (fr (wl ns) (cl ns) (tj st sh a b 12) each i::KB (wl ns) (cl ns) (tj st sh a b 12) each i)) (ds:=pR 0 many) (S:=fs ns many each [] [] none none none) ⟨none,none,none,rfl,K39.YI ..⟩ (by
  rintro i d S hd ⟨C,y,z,rfl,s⟩;rw[vG,gMq]at hd;obtain⟨k,M,rfl⟩:=oMq.mp hd;obtain⟨t,u⟩:=gSq.mp M;rw[aD]at t;rw[dZ]at u;subst u;have U:(i+1)*each<=many*each:=dG _ t;obtain⟨E,G,O,g2⟩:=M5 h (many:=many) (by lia) l (show i<12 by lia) s (v5:=y) (v6:=z)
  exact⟨_,O,_,E,G,rfl,g2⟩)
 obtain⟨X,g,C,y,z,rfl,s⟩:=key;rw[pT]at s;rw[B]at s;refine⟨?_,s⟩;have P:fs ns many each [] [] none none none=[some (.sh (.scr ns)),some (.sh (.int (many:Int))),some (.ow [.ow []]),some (.sh (.int (each:Int))),none,none,none]:=rfl;rw[P,pT]at g;have Q:zS (.int 12) (.int (many:Int))=some (.int (each:Int)):=by
  rw[wJ (by lia) (by lia),←H]
  rfl
 have R:Cp [.int (many:Int)]=some (pR 0 many):=xC (n:=many) (by lia)
 simp_arith [yg,Fc,Q,R,g]
theorem RP{ns:List Int}{st sh a b:Int}(h:∀k:Nat,K31.rO [.int (cell ns 0),.int (cell ns 1),.int (k:Int)]=some (.sh (.int (BC st sh a b k)))) (hn:Nm (tj st sh a b 12)) {many each:Nat}(H:0<many) (X:many<=12) (I:12 / many=each):sW [.scr ns,.int (many:Int)]=some (.owd (As (tj st sh a b 12) (ot (tj st sh a b 12) each) 0 12)):=by
 have J:(tj st sh a b 12).length=12:=by unfold tj;rw[lMq,aD]
 have r:∀k:Nat,k<12->(tj st sh a b 12).getD k 0=BC st sh a b (k:Int):=λk t=>by
  unfold tj;rw[gDq,gMq,bY t];rfl
 have key:=tx (x:=4) (body:=vh) (λi S=>∃u y z,S=[some (.sh (.scr ns)),some (.sh (.int (many:Int))),some (.sh (.int (each:Int))),some (.owd (As (tj st sh a b 12) (ot (tj st sh a b 12) each) 0 i)),u,y,z]) (ds:=pR 0 12) (S:=[some (.sh (.scr ns)),some (.sh (.int (many:Int))),some (.sh (.int (each:Int))),some (.owd []),none,none,none]) ⟨none,none,none,rfl⟩ (by
  rintro i d S hd ⟨u,y,z,rfl⟩;rw[vG,gMq]at hd;obtain⟨k,t,rfl⟩:=oMq.mp hd;obtain⟨l,s⟩:=gSq.mp t;rw[aD]at l;rw[dZ]at s;subst s;have L:=h i;have M:=h ((i+each) % 12);have B:tS (.int ((i:Int)+(each:Int))) (.int 12)=some (.int (((i+each) % 12:Nat):Int)):=by
   rw[rz (by decide)]
   congr 2
  obtain⟨G,C⟩:=K33.Ja (ot:=ot (tj st sh a b 12) each) (bits:=0) hn (k:=i) (by lia)
  have E:=Uj (nm:=tj st sh a b 12) (each:=each) l;rw[r _ (dh _ (by decide))]at E
  rw[r i l]at G C;rw[E]at C;have O:=vF G (d:=.int (BC st sh a b (((i+each) % 12:Nat):Int)));have P:=vF C (d:=.int (-(BC st sh a b (((i+each) % 12:Nat):Int))));have Y:(As (tj st sh a b 12) (ot (tj st sh a b 12) each) 0 i).length=2*i:=K33.Se i;have l1:((As (tj st sh a b 12) (ot (tj st sh a b 12) each) 0 i).length<qK)=True:=eq_true (by show _<16777216;lia)
  have l2:((As (tj st sh a b 12) (ot (tj st sh a b 12) each) 0 i++[((ao (BC st sh a b (i:Int)):oq),D.int (BC st sh a b (((i+each) % 12:Nat):Int)))]).length<qK)=True:=eq_true (by rw[lAq,lSq];show _<16777216;lia)
  have Q:As (tj st sh a b 12) (ot (tj st sh a b 12) each) 0 (i+1)=As (tj st sh a b 12) (ot (tj st sh a b 12) each) 0 i++[((ao (BC st sh a b (i:Int)):oq),D.int (BC st sh a b (((i+each) % 12:Nat):Int)))]++[((ao (-(BC st sh a b (i:Int))):oq),D.int (-(BC st sh a b (((i+each) % 12:Nat):Int))))]:=by
   rw[show As (tj st sh a b 12) (ot (tj st sh a b 12) each) 0 (i+1)=As (tj st sh a b 12) (ot (tj st sh a b 12) each) 0 i++[((ao ((tj st sh a b 12).getD i 0):oq),D.int (HE (ot (tj st sh a b 12) each) 0 i)),((ao (-((tj st sh a b 12).getD i 0)):oq),D.int (-(HE (ot (tj st sh a b 12) each) 0 i)))] from rfl,r i l,E,aM]
   rfl
  refine⟨_,?_,some (.sh (.int (i:Int))),some (.sh (.int (BC st sh a b (i:Int)))),some (.sh (.int (BC st sh a b (((i+each) % 12:Nat):Int)))),rfl⟩
  simp_arith [vh,Me,LY,L,B,M,O,l1,l2,P,Q])
 obtain⟨S',g,u,y,z,rfl⟩:=key;rw[pT]at g;have R:zS (.int 12) (.int (many:Int))=some (.int (each:Int)):=by
  rw[wJ (by lia) (by lia),←I]
  rfl
 have U:Cp [.int 12]=some (pR 0 12):=xC (n:=12) (by lia)
 simp_arith [sW,zM,R,U,g]
end K40
namespace K40
open PySem L2 Mr Z Zl
open K12 (cN Mf)
open K51 (zf)
open K31 (gm)
section
variable {rs:List (List Int)}
theorem SU(hn:rs.flatten.Nodup) (hl:rs.flatten.length<=500000):∃v2 v3 v4,Bb 2 3 wk 0 (rs.map dI) [some (.sh (dM rs)),some (.owd []),none,none,none,none,none,none,none,none]=some (.nx [some (.sh (dM rs)),some (.owd (oU 0 rs)),v2,v3,v4,none,none,none,none,none]):=by
 have key:=K8 (x:=2) (y:=3) (k:=0) (body:=wk) (λi S=>∃v2 v3 v4,S=[some (.sh (dM rs)),some (.owd (oU 0 (rs.take i))),v2,v3,v4,none,none,none,none,none]) (ds:=rs.map dI) (S:=[some (.sh (dM rs)),some (.owd []),none,none,none,none,none,none,none,none]) ⟨none,none,none,rfl⟩ (by
  rintro i d S hd ⟨v2,v3,v4,rfl⟩;rw[bh];obtain⟨r,hr,rfl⟩:=BN hd;have n:=qm hr;have B:=sU rs (i+1);have L:i<rs.length:=(gSq.mp hr).1;have s:((rs.take i).flatten++r).Nodup:=by
   rw[←n];have E:rs.flatten=(rs.take (i+1)).flatten++(rs.drop (i+1)).flatten:=by rw[←fAq,bq]
   rw[E]at hn;exact(nAq.mp hn).1
  rw[n,lAq]at B;have G:=tx (x:=4) (body:=yJ) (λj S=>∃v4,S=[some (.sh (dM rs)),some (.owd (oU 0 (rs.take i)++sL i (r.take j))),some (.sh (.int i)),some (.sh (dI r)),v4,none,none,none,none,none]) (ds:=r.map D.int) (S:=[some (.sh (dM rs)),some (.owd (oU 0 (rs.take i))),some (.sh (.int i)),some (.sh (dI r)),v4,none,none,none,none,none]) ⟨v4,by simp[sL]⟩ (by
   rintro j d S hd ⟨v4,rfl⟩;obtain⟨z,u,rfl⟩:=Di hd;have M:j<r.length:=(gSq.mp u).1;have H:(oU 0 (rs.take i)++sL i (r.take j)).length<qK:=Kp (by
    rw[lAq,Ek];unfold sL;rw[lMq,lTq];lia)
   have t:vH (oU 0 (rs.take i)++sL i (r.take j)) (.inl z) (.int (i:Int))=oU 0 (rs.take i)++sL i (r.take (j+1)):=by
    rw[vF]
    .unfold sL;rw[oW u,mBq,aM];rfl
    .rw [mBq,xp];intro m;have I:r.take (j+1)=r.take j++[z]:=oW u;rcases mAq.mp m with m|m
     .obtain ⟨x,C,l⟩:=mMq.mp m;cases l;exact(nAq.mp s).2.2 _ C _ (mGq u) rfl
     .unfold sL at m;rw[mPq]at m;obtain⟨x,C,l⟩:=mMq.mp m;cases l;have:=bj.sublist (bW (j+1) r) (nAq.mp s).2.1;rw[I]at this;exact(nAq.mp this).2.2 _ C _ (by simp) rfl
   refine⟨_,?_,some (.sh (.int z)),rfl⟩
   simp_arith [yJ,H,t])
  obtain⟨O,l,J,rfl⟩:=G;rw[lMq,aZ]at l;refine⟨_,?_,some (.sh (.int i)),some (.sh (dI r)),J,rfl⟩;rw[oW hr,Af,lTq,dA (by lia),bh]
  simp_arith [wk,l])
 obtain⟨P,e,v2,v3,v4,rfl⟩:=key;rw[bh,lMq,aZ]at e;exact⟨v2,v3,v4,e⟩
abbrev ss(rs:List (List Int)) (v2 v3 v4:Option AV) (mt:List Nat) (sp:AV) (f:Nat) (ah:List Nat) (k:Nat):AS:=[some (.sh (dM rs)),some (.owd (oU 0 rs)),v2,v3,v4,some (.owd (kd mt)),some sp,some (.sh (.int (f:Int))),some (aI (cN ah)),some (.sh (.int (k:Int)))]
theorem O9(n:Mp rs) {e:Int}(s:e∈rs.flatten) {mt ah:List Nat}(h1:mt.length<500000) (h2:ah.length<500000) {v2 v3:Option AV}{sp:AV}{f k:Nat}:sC (ss rs v2 v3 (some (.sh (.int e))) mt sp f ah k)=some (.nx (ss rs v2 v3 (some (.sh (.int e))) (zf (plc rs) (mt,ah) e).1 sp f (zf (plc rs) (mt,ah) e).2 k)):=by
 have kv:=n.kv (n.hneg e s);have r:=kd_get mt (plc rs (-e));unfold zf
 by_cases q:plc rs (-e)∈mt
 .have l:(Z.getD (kd mt) (ao (plc rs (-e):Int))).isSome=true:=by rw[r];simp[q]
  simp only[q,if_true]
  simp_arith [sC,kv,l]
 .have l:(Z.getD (kd mt) (ao (plc rs (-e):Int))).isSome=false:=by rw[r];simp[q]
  simp only[q,if_false];have t:=K31.Jo q;have u:((kd mt).length<qK)=True:=eq_true (by unfold kd;rw[lMq];show _<16777216;lia)
  have x:(ah.length<qK)=True:=eq_true (by show _<16777216;lia)
  have cl:=K31.zT ah;have y:=Mf ah (plc rs (-e))
  simp_arith [sC,kv,l,t,u,cl,x,y]
theorem Oh(s:Mp rs) {r:List Int}(hr:∀e∈r,e∈rs.flatten) {mt ah:List Nat}(h1:mt.length+r.length<500000) (h2:ah.length+r.length<500000) {v2 v3 v4:Option AV}{sp:AV}{f k:Nat}:∃l,sk 4 sC (r.map D.int) (ss rs v2 v3 v4 mt sp f ah k)=some (.nx (ss rs v2 v3 l (r.foldl (zf (plc rs)) (mt,ah)).1 sp f (r.foldl (zf (plc rs)) (mt,ah)).2 k)):=by
 have len:=K51.FK (plc rs);have key:=tx (x:=4) (body:=sC) (λi S=>∃v4,S=ss rs v2 v3 v4 ((r.take i).foldl (zf (plc rs)) (mt,ah)).1 sp f ((r.take i).foldl (zf (plc rs)) (mt,ah)).2 k) (ds:=r.map D.int) (S:=ss rs v2 v3 v4 mt sp f ah k) ⟨v4,rfl⟩ (by
  rintro i d S hd ⟨v4,rfl⟩;rw[gMq]at hd;obtain⟨e,n,rfl⟩:=oMq.mp hd;have hl:=len (r.take i) (mt,ah);rw[lTq]at hl;have t:=(gSq.mp n).1;simp only at hl;have:=O9 s (hr e (mGq n)) (mt:=((r.take i).foldl (zf (plc rs)) (mt,ah)).1) (ah:=((r.take i).foldl (zf (plc rs)) (mt,ah)).2) (by lia) (by lia) (v2:=v2) (v3:=v3) (sp:=sp) (f:=f) (k:=k)
  refine⟨_,this,some (.sh (.int e)),?_⟩;rw[oW n,eD];rfl)
 obtain⟨u,e,l,rfl⟩:=key;rw[lMq,aZ]at e;exact⟨l,e⟩
structure Bf (rs:List (List Int)) (dn:List Nat) (f:Nat) (mt ah:List Nat) (k:Nat):Prop where
 eq:mt=dn++ah
 nd:mt.Nodup
 lt:∀q∈mt,q<rs.length
 h0:ah[0]?=some f
 rc:∀q∈ah,K51.FG rs f q
 cl:∀(j:Nat) (q:Nat) (r:List Int) (x:Int),j<k->ah[j]?=some q->rs[q]?=some r->x∈r->plc rs (-x)∈mt
 le:k<=ah.length
theorem Bf.step{t:List Nat}{f k:Nat}{mt ah:List Nat}(y:Mp rs) (h:Bf rs t f mt ah k) {q:Nat}{r:List Int}(u:ah[k]?=some q) (hr:rs[q]?=some r):Bf rs t f (r.foldl (zf (plc rs)) (mt,ah)).1 (r.foldl (zf (plc rs)) (mt,ah)).2 (k+1):=by
 obtain⟨a,e,h1,h2,B⟩:=K51.Bk (plc rs) r mt ah;rw[e];have E:=(gSq.mp u).1;refine⟨by show mt++a=t++(ah++a);rw[h.eq,aM],B h.nd,λz l=>?_,by show (ah++a)[0]?=_;rw[gZq (by lia)];exact h.h0,λz l=>?_,λj z C x G l n s=>?_,by show _<=(ah++a).length;rw[lAq];lia⟩
 .rcases mAq.mp l with l|l
  .exact h.lt z l
  .obtain ⟨x,s,rfl⟩:=h1 z l;exact y.lt (y.other hr s)
 .rcases mAq.mp l with l|l
  .exact h.rc z l
  .obtain ⟨x,s,rfl⟩:=h1 z l;exact .step (h.rc q (mGq u)) hr s
 .have l:(ah++a)[j]?=some z:=l;show _∈mt++a;rw[gZq (by lia)]at l
  by_cases c:j<k
  .exact bQ _ (h.cl j z C x c l n s)
  .have:j=k:=by lia
   subst this;rw[u]at l;cases l;rw[hr]at n;cases n;exact h2 x s
theorem TH(t:Mp rs) {s:List Nat}{f:Nat}(H:f<rs.length) (I:f∉s) (nd:s.Nodup) (lt:∀q∈s,q<rs.length) {v2 v3 v4:Option AV}{sp:AV}:∃l mt ah k,sj (rA (oN Si (nC 9) (tX qu (nD (nC 8) nV)))) vY 100000 (ss rs v2 v3 v4 (s++[f]) sp f [f] 0)=some (.nx (ss rs v2 v3 l mt sp f ah k))/\Bf rs s f mt ah ah.length:=by
 have hl:=t.hl;have J:=t.hr;obtain⟨C,L,l,mt,ah,k,rfl,x⟩:=xj (c:=rA (oN Si (nC 9) (tX qu (nD (nC 8) nV)))) (body:=vY)
  (λS=>∃v4 mt ah k,S=ss rs v2 v3 v4 mt sp f ah k/\Bf rs s f mt ah k)
  (λS=>match S with|[_,_,_,_,_,_,_,_,_,some (.sh (.int i))]=>2000-i.toNat|_=>0)
  (λC=>∃v4 mt ah k,C=ss rs v2 v3 v4 mt sp f ah k/\Bf rs s f mt ah ah.length) (by
   rintro S ⟨v4,mt,ah,k,rfl,h⟩;have y:=oh (cN ah);have cl:=K31.zT ah;have Y:=K51.Oe _ _ h.nd h.lt;have la:ah.length<=mt.length:=by rw[h.eq,lAq];lia
   have le:=h.le
   by_cases M:k<ah.length
   .have z:(k:Int)<(ah.length:Int):=by lia
    obtain⟨q,n⟩:∃q,ah[k]?=some q:=⟨_,gEg M⟩;have O:q<rs.length:=h.lt q (by rw[h.eq];exact aC _ (mGq n))
    have hr:rs[q]?=some rs[q]:=gEg O;have P:=t.row hr;obtain⟨l,E⟩:=Oh t (r:=rs[q]) (λe Q=>mFq.mpr ⟨_,mGq hr,Q⟩) (mt:=mt) (ah:=ah) (by lia) (by lia) (v2:=v2) (v3:=v3) (v4:=v4) (sp:=sp) (f:=f) (k:=k)
    have st:=h.step t n hr;have B:atI ((cN ah).map D.int) (k:Int)=some (.int (q:Int)):=qE (by
     unfold cN;rw[mPq,gMq,n];rfl)
    have u:atI (rs.map dI) (q:Int)=some (dI rs[q]):=qE (by rw[gMq,hr];rfl)
    have ei:((k+1:Nat):Int)=(k:Int)+1:=by lia
    have G:(rs[q].length<=qK)=True:=eq_true (by show _<=16777216;lia)
    generalize rs[q]=r at hr E u P st G;refine⟨true,ss rs v2 v3 v4 mt sp f ah k,?_,λ_=>⟨ss rs v2 v3 l (r.foldl (zf (plc rs)) (mt,ah)).1 sp f (r.foldl (zf (plc rs)) (mt,ah)).2 (k+1),?_,⟨_,_,_,_,rfl,st⟩,?_⟩,λq=>(nomatch q)⟩
    .simp_arith [y,dI,cl,z]
    .simp_arith [vY,y,dI,B,dM,u,G]
     rw[show sk 4 sC (r.map D.int) _=_ from E]
     simp_arith []
     rfl
    .show 2000-((k+1:Nat):Int).toNat<2000-(k:Int).toNat;lia
   .have z:¬ (k:Int)<(ah.length:Int):=by lia
    have R:k=ah.length:=by lia
    refine⟨false,ss rs v2 v3 v4 mt sp f ah k,?_,λq=>(nomatch q),λ_=>⟨v4,mt,ah,k,rfl,by rw[←R];exact h⟩⟩
    simp_arith [y,dI,cl,z]) 100000 (ss rs v2 v3 v4 (s++[f]) sp f [f] 0) ⟨v4,_,[f],0,rfl,rfl,by
     rw[nAq];exact⟨nd,by simp,λa U b x e=>I (by rw[mSq.mp x]at e;exact e ▸ U)⟩,λq n=>by
     rcases mAq.mp n with n|n
     .exact lt q n
     .rw [mSq.mp n];exact H,rfl,λq n=>by rw[mSq.mp n];exact .base,λj _ _ _ X=>absurd X (bK _),ba _⟩ (by
   show 2000-(0:Int).toNat<100000;lia)
 exact⟨l,mt,ah,k,L,x⟩
theorem Nn{ps:List Nat}(h:∀k∈ps,k<rs.length):qA qz (FJ (sZ 1) (nC 0)) [some (.sh (dM rs))] ((cN ps).map D.int)=some (ps.map λk=>.sh (dI (rs.getD k []))):=by
 rw[Z.rL λd=>match d with|.int k=>.sh (dI (rs.getD k.toNat []))|_=>.sh .non]
 .unfold cN;rw[mPq,mPq];rfl
 .intro d hd;obtain⟨z,n,rfl⟩:=mMq.mp hd;obtain⟨k,r,rfl⟩:=mMq.mp n;have l:atI (rs.map dI) (k:Int)=some (dI (rs.getD k [])):=qE (by
   rw[gMq,gDq,gEg (h k r)];rfl)
  refine⟨[some (.sh (.int (k:Int))),some (.sh (dM rs))],?_⟩
  simp_arith [dM,l]
  rfl
structure Pt (rs:List (List Int)) (ah:List Nat):Prop where
 nd:ah.Nodup
 lt:∀q∈ah,q<rs.length
 rc:∀q∈ah,K51.FG rs 0 q
 h0:ah[0]?=some 0
 cl:∀(q:Nat) (r:List Int) (x:Int),q∈ah->rs[q]?=some r->x∈r->plc rs (-x)∈ah
abbrev Az(rs:List (List Int)) (ah:List Nat):AV:=.ow (ah.map λk=>.sh (dI (rs.getD k [])))
theorem JF(E:Mp rs) {v2 v3 v4:Option AV}:∃P mt n v7 v8 v9,sk 7 uQ (pR 0 rs.length) [some (.sh (dM rs)),some (.owd (oU 0 rs)),v2,v3,v4,some (.owd []),some (.ow []),none,none,none]=some (.nx [some (.sh (dM rs)),some (.owd (oU 0 rs)),v2,v3,n,some (.owd (kd mt)),some (.ow (P.map (Az rs))),v7,v8,v9])/\P.length<=rs.length/\(∀p∈P,∀q∈p,q<rs.length)/\(0<rs.length->∃ah Q,P=ah::Q/\Pt rs ah):=by
 have U:=E.hr;have key:=tx (x:=7) (body:=uQ) (λi S=>∃P mt v4 v7 v8 v9,S=[some (.sh (dM rs)),some (.owd (oU 0 rs)),v2,v3,v4,some (.owd (kd mt)),some (.ow (P.map (Az rs))),v7,v8,v9]/\P.length<=i/\(∀p∈P,∀q∈p,q<rs.length)/\mt.Nodup/\(∀q∈mt,q<rs.length)/\(i=0->mt=[]/\P=[])/\(0<i->∃ah Q,P=ah::Q/\Pt rs ah)) (ds:=pR 0 rs.length) (S:=[some (.sh (dM rs)),some (.owd (oU 0 rs)),v2,v3,v4,some (.owd []),some (.ow []),none,none,none])
  ⟨[],[],v4,none,none,none,rfl,ai _,by simp,aY,by simp,λ_=>⟨rfl,rfl⟩,λh=>absurd h (bV _)⟩ (by
  rintro i d S hd ⟨P,mt,v4,v7,v8,v9,rfl,hP,G,nd,lt,H,I⟩;rw[vG,gMq]at hd;obtain⟨k,X,rfl⟩:=oMq.mp hd;obtain⟨y,B⟩:=gSq.mp X;rw[aD]at y;rw[dZ]at B;subst B;have J:=kd_get mt i
  by_cases q:i∈mt
  .have t:(Z.getD (kd mt) (ao (i:Int))).isSome=true:=by rw[J];simp[q]
   have Y:0<i:=ff λe=>by rw[(H e).1]at q;cases q
   refine⟨_,?_,P,mt,v4,some (.sh (.int (i:Int))),v8,v9,rfl,by lia,G,nd,lt,λh=>absurd h (iH _),λ_=>I Y⟩
   simp_arith [uQ,t]
  .have t:(Z.getD (kd mt) (ao (i:Int))).isSome=false:=by rw[J];simp[q]
   have kn:=K31.Jo q;have pl:=K51.Oe _ _ nd lt;have kl:((kd mt).length<qK)=True:=eq_true (by unfold kd;rw[lMq];show _<16777216;lia)
   obtain⟨n,s,ah,k,L,l⟩:=TH E y q nd lt (v2:=v2) (v3:=v3) (v4:=v4) (sp:=.ow (P.map (Az rs)));have M:∀q∈ah,q<rs.length:=λz hz=>l.lt z (by rw[l.eq];exact aC _ hz)
   have pc:=Nn M;have sE:=oh (cN ah);have cl:=K31.zT ah;have pl2:=K51.Oe _ _ l.nd l.lt;have la:ah.length<=s.length:=by rw[l.eq,lAq];lia
   have l1:(ah.length<=qK)=True:=eq_true (by show _<=16777216;lia)
   have l2:(P.length<qK)=True:=eq_true (by show _<16777216;lia)
   have ap:P.map (Az rs)++[AV.ow (ah.map λk=>.sh (dI (rs.getD k [])))]=(P++[ah]).map (Az rs):=by rw[mBq];rfl
   have e0:ss rs v2 v3 v4 (mt++[i]) (.ow (P.map (Az rs))) i [i] 0=[some (.sh (dM rs)),some (.owd (oU 0 rs)),v2,v3,v4,some (.owd (kd (mt++[i]))),some (.ow (P.map (Az rs))),some (.sh (.int (i:Int))),some (.ow [.sh (.int (i:Int))]),some (.sh (.int 0))]:=rfl;rw[e0]at L;refine⟨_,?_,P++[ah],s,n,some (.sh (.int (i:Int))),some (.sh (dI (cN ah))),some (.sh (.int (k:Int))),rfl,by rw[lAq,lSq];lia,λp u=>?_,l.nd,l.lt,λh=>absurd h (iH _),λ_=>?_⟩
   .simp_arith [uQ,t,kn,kl]
    rw[L]
    simp_arith [sE,dI,cl,l1,pc,l2,ap]
   .rcases mAq.mp u with u|u
    .exact G p u
    .rw [mSq.mp u];exact M
   .by_cases c:i=0
    .obtain ⟨rfl,rfl⟩:=H c;subst c;have em:s=ah:=by rw[l.eq,eY]
     subst em;refine⟨s,[],rfl,l.nd,l.lt,l.rc,l.h0,λq r x hq hr hx=>?_⟩
     obtain⟨j,O⟩:=ay.mp hq;exact l.cl j q r x (gSq.mp O).1 O hr hx
    .obtain ⟨C,Q,rfl,u⟩:=I (ff c);exact⟨C,Q++[ah],rfl,u⟩)
 obtain⟨S',e,P,mt,n,v7,v8,v9,rfl,h1,h2,_,_,_,R⟩:=key;rw[pT]at h1 R;exact⟨P,mt,n,v7,v8,v9,e,h1,h2,R⟩
theorem QL(l:Mp rs):∃P,yr [dM rs]=some (.ow (P.map (Az rs)))/\P.length<=rs.length/\(∀p∈P,∀q∈p,q<rs.length)/\(0<rs.length->∃ah Q,P=ah::Q/\Pt rs ah):=by
 have hl:=l.hl;have hr:=l.hr;obtain⟨r,s,t,u⟩:=SU l.hn (by lia)
 obtain⟨P,C,x,E,G,H,y,h1,h2,z⟩:=JF l (v2:=r) (v3:=s) (v4:=t);refine⟨P,?_,h1,h2,z⟩;have B:Cp [.int (rs.length:Int)]=some (pR 0 rs.length):=xC (n:=rs.length) (by lia)
 have l1:(rs.length<=qK)=True:=eq_true (by show _<=16777216;lia)
 simp_arith [yr,DQ,l1,u,B,y]
end
section
variable {rs:List (List Int)}{ah:List Nat}
abbrev vL(rs:List (List Int)) (ah:List Nat):List (List Int):=ah.map λk=>rs.getD k []
theorem AN{k:Nat}(h:k<rs.length):rs[k]?=some (rs.getD k []):=by
 rw[gDq,gEg h];rfl
theorem RK(r:Mp rs) (h:Pt rs ah):(vL rs ah).flatten.Nodup:=by
 rw[az,List.pairwise_flatten];refine⟨λl hl=>?_,?_⟩
 .obtain ⟨k,s,rfl⟩:=mMq.mp hl;exact az.mp (K33.Kl r.hn (mGq (AN (h.lt k s))))
 .rw [aF];exact(az.mp h.nd).imp_of_mem λ{a b} ha hb n x hx y hy e=>n (same_place r.hn (AN (h.lt a ha)) (AN (h.lt b hb)) hx (e ▸ hy))
theorem BK(h:Pt rs ah) {x:Int}:x∈(vL rs ah).flatten↔∃k∈ah,x∈rs.getD k []:=by
 rw[mFq];exact⟨λ⟨l,hl,n⟩=>by obtain⟨k,r,rfl⟩:=mMq.mp hl;exact⟨k,r,n⟩,λ⟨k,r,n⟩=>⟨_,mMq.mpr ⟨k,r,rfl⟩,n⟩⟩
theorem PU(h:Pt rs ah) {x:Int}(l:x∈(vL rs ah).flatten):x∈rs.flatten:=by
 obtain⟨k,n,l⟩:=(BK h).mp l;exact mFq.mpr ⟨_,mGq (AN (h.lt k n)),l⟩
theorem Ib(l:Mp rs) (h:Pt rs ah) {k:Nat}(n:k∈ah) {x:Int}(s:x∈rs.getD k []):plc rs (-x)∈ah/\-x∈rs.getD (plc rs (-x)) []:=by
 have hr:=AN (h.lt k n);refine⟨h.cl k _ x n hr s,?_⟩;obtain⟨r,h1,h2⟩:=l.at (l.other hr s);rw[gDq,h1];exact h2
theorem LQ(n:Mp rs) (h:Pt rs ah):Mp (gm (vL rs ah))/\(vL rs ah).flatten.length<=rs.flatten.length/\(vL rs ah).length<=rs.length:=by
 have nd:=RK n h;have l1:=J6 _ _ nd λx l=>PU h l
 have l2:=K51.Oe _ _ h.nd h.lt;have hl:=n.hl;have hr:=n.hr;refine⟨K33.Yc nd (by lia) (by rw[lMq];lia) λx l=>?_,l1,by rw[lMq];exact l2⟩
 obtain⟨k,r,l⟩:=(BK h).mp l;obtain⟨a,b⟩:=Ib n h r l;exact(BK h).mpr ⟨_,a,b⟩
theorem Nb(H:Mp rs) (ne:∀r∈rs,r≠[]) (h:Pt rs ah):K31.sV (gm (vL rs ah)):=by
 have mp:=(LQ H h).1;have pf:=K31.za (vL rs ah);intro P ⟨s,Y,ps⟩ hc q B;have l:∀k∈ah,∃p,∀x∈rs.getD k [],plc (gm (vL rs ah)) x=p:=λk t=>by
  obtain⟨p,_,u⟩:=K31.Hl mp (mMq.mpr ⟨k,t,rfl⟩:rs.getD k []∈vL rs ah);exact⟨p,u⟩
 have n:∀q,q<(gm (vL rs ah)).length->∃k∈ah,∃z∈rs.getD k [],plc (gm (vL rs ah)) z=q:=λq B=>by
  have hr:=gEg B;obtain⟨r,I,e⟩:=mMq.mp ((K12.uN _).mem_iff.mp (gRq B));obtain⟨k,t,rfl⟩:=mMq.mp I;obtain⟨z,C⟩:=gk _ (ne _ (mGq (AN (h.lt k t))));exact⟨k,t,z,C,plc_eq mp.hn hr (by rw[←e];exact(si _).mem_iff.mpr C)⟩
 obtain⟨E,y,z,C,ez⟩:=n s Y;obtain⟨J,L,z',M,O⟩:=n q B;have go:∀j,K51.FG rs E j->j∈ah/\∀x∈rs.getD j [],P (plc (gm (vL rs ah)) x):=λj hj=>by
  induction hj with
  |base =>
   obtain⟨p,u⟩:=l E y;exact⟨y,λx Q=>by rw[u x Q,←u z C,ez];exact ps⟩
  | @step k r e _ hr G R =>
   obtain⟨t,R⟩:=R;have er:rs.getD k []=r:=by rw[gDq,hr];rfl
   rw[←er]at G;obtain⟨a,b⟩:=Ib H h t G;obtain⟨p,u⟩:=l _ a;refine⟨a,λx Q=>?_⟩
   obtain⟨r',S,U⟩:=mp.at (pf.mem_iff.mpr ((BK h).mpr ⟨k,t,G⟩));have:=hc _ r' e S U (R e G);rw[u _ b]at this;rw[u x Q];exact this
 have X:K51.FG rs E J:=(K51.FG.symm (K34.Xn H) (h.rc E y)).trans (h.rc J L);have:=(go J X).2 z' M;rw[O]at this;exact this
end
theorem Ww(Q:List (List (List Int))):wZ (.list (Q.map dM)) (.list [])=some (.bl (decide (Q=[]))):=by
 obtain⟨p,h⟩:∃p:List PyData,Ce 3 (.list (Q.map dM)) (.list p)/\p.length=Q.length:=⟨Q.map λc=>.list (c.map λr=>.list (r.map .int)),.list (by rw[lMq,lMq]) (K35.Ak Q λc=>.list (by rw[lMq,lMq]) (K35.Ak c λr=>.list (by rw[lMq,lMq]) (K35.Ak r λi=>.int))),lMq _⟩
 have h0:Ce 3 (.list []) (.list []):=.list rfl λi d p a=>by simp at a
 have l:=K35.J2 h.1;have n:=K35.J2 h0;unfold wZ;rw[l,n];show (if _ then _ else _)=_
 have s:SeqAt.noMix (.list p) (.list [])=true:=by
  cases p <;> simp[SeqAt.noMix,SeqAt.noMixAll]
 rw[pQ ⟨h.1.shaped (by decide),h0.shaped (by decide),s⟩]
 have hl:=h.2;cases Q with
 |nil =>
  cases p with
  |nil=>simp[PySem.Spec.same,PySem.Spec.sameAll]
  |cons _ _=>simp at hl
 |cons _ _ =>
  cases p with
  |nil=>simp at hl
  |cons _ _=>simp[PySem.Spec.same,PySem.Spec.sameAll]
theorem Vf(ns:List Int):∃R:List (List Int),rP [.scr ns]=some (.ow ((gm R).map aI))/\(R=[[]]∨(Mp (gm R)/\K31.sV (gm R)/\(∀r∈R,r≠[])/\0<R.length/\R.flatten.length<=60/\R.length<=60)):=by
 have H:oj [.scr ns,.int 3]=some (.sh (.int (cell ns 3))):=C5 ns (by decide)
 obtain⟨n,hn,S⟩:∃n:Nat,n<=30/\cell ns 1 % 25=(n:Int):=⟨(cell ns 1 % 25).toNat,by lia,by lia⟩
 have u:tS (.int (cell ns 1)) (.int 25)=some (.int (n:Int)):=by rw[rz (by decide),S]
 obtain⟨nm,I,ln,nd,lo⟩:=K44.Vi (cell ns 0) hn;obtain⟨T,J,t⟩:=K44.KD (cell ns 3) (nm:=nm) (by lia) nd lo
 have le:=t.le;have lt:T.length<=60:=bw (K16.DG λl hl=>eU.mpr (t.ne l hl)) le
 have y:Mp T:=⟨t.nd,by lia,by lia,t.ng⟩
 obtain⟨P,z,U,hb,h0⟩:=QL y;have L:=oh nm;have M:=K13.Pj T;have B:(P.map (Az T)).map oa=(P.map (vL T)).map dM:=by
  rw[mPq,mPq];refine mCq λp _=>?_
  show oa (.ow _)=D.list ((p.map _).map dI);rw[tL,mPq,mPq];rfl
 have x:=Ww (P.map (vL T))
 by_cases c:0<T.length
 .obtain ⟨s,Q,rfl,pt⟩:=h0 c;obtain⟨mp,l1,l2⟩:=LQ y pt;have ne:∀r∈vL T s,r≠[]:=λr hr=>by
   obtain⟨k,X,rfl⟩:=mMq.mp hr;exact t.ne _ (mGq (AN (pt.lt k X)))
  have Y:0<(vL T s).length:=by
   rw[lMq];exact(gSq.mp pt.h0).1
  refine⟨vL T s,?_,.inr ⟨mp,Nb y t.ne pt,ne,Y,by lia,by lia⟩⟩
  have df:decide (((s::Q).map (vL T))=[])=false:=by simp
  rw[df]at x;have C:atI (((s::Q).map (vL T)).map dM) 0=some (dM (vL T s)):=qE (j:=0) rfl;generalize ((s::Q).map (vL T)).map dM=dd at B x C;have O:om [dM (vL T s)]=some (.ow ((gm (vL T s)).map aI)):=tU (rs:=vL T s) (λr hr=>by
   have:=cf.length_le (aK hr);lia) (by lia)
  generalize (s::Q).map (Az T)=aa at z B;generalize vL T s=R at O C
  simp_arith [rP,xi,Me,LY,H,u,I,L,J,M,z,B,x,C,O]
 .have eT:T=[]:=cU (by lia)
  subst eT;have eP:P=[]:=cU (by simpa using U)
  subst eP;refine⟨[[]],?_,.inl rfl⟩;have E:gm [[]]=[[]]:=dS.mp (K12.uN [[]]);have G:wZ (.list []) (.list [])=some (.bl true):=x;rw[E]
  simp_arith [rP,xi,Me,LY,H,u,I,L,J,M,z,G]
  rfl
end K40
namespace K40
open PySem L2 Mr Z Zl
open K31 (gm)
open K39 (Au)
section
variable {G:List (List Int)}{s:Int}
theorem GW(l:Mp G) {m:List (List Int)}(h:m∈own G s):∃f,Au G f/\m=pr f G.flatten:=by
 obtain⟨f,a,_,_,e⟩:=RQ h;exact⟨f,a,by rw[e,Cd f l.hn]⟩
theorem LO(l:Mp G) (n:K31.sV G) (r:s∈G.flatten) {f:Int->Int}(a:Au G f):pr f G.flatten∈own G s:=by
 have:=VL l n r a (dU.refl _)
 rwa [Cd f l.hn]at this
theorem BS{cap:AS}{k:MK}{f:Int->Int}{E:List Int}(h:∀x∈E,k (some (.sh (.int x))::cap)=some (.sh (.int (f x)),some (.sh (.int x))::cap)):qA qz (ER (nQ (og 0) (nQ k oB))) cap (E.map D.int)=some ((E.map λx=>[x,f x]).map λr=>.sh (ve r)):=by
 rw[Z.rL λd=>match d with|.int x=>.sh (ve [x,f x])|_=>.sh .non]
 .rw [mPq,mPq];rfl
 .intro d hd;obtain⟨x,l,rfl⟩:=mMq.mp hd;have l:=h x l;refine⟨some (.sh (.int x))::cap,?_⟩
  simp_arith [l]
  rfl
def zt(m:List (List Int)):Bool:=m.any λr=>decide (r.getD 0 0=r.getD 1 0)
theorem QC(f:Int->Int) (E:List Int):qA qz (kSc (oN C0 (oN wa (nC 0) (rC (.int 0))) (oN wa (nC 0) (rC (.int 1))))) [] ((pr f E).map ve)=some (((pr f E).map λr=>decide (r.getD 0 0=r.getD 1 0)).map λb=>.sh (.bl b)):=by
 rw[Z.rL λd=>match d with|.tup (.int x :: .int y::_)=>.sh (.bl (decide (x=y)))|_=>.sh .non]
 .unfold pr;rw[mPq,mPq,mPq,mPq];rfl
 .intro d hd;obtain⟨r,hr,rfl⟩:=mMq.mp hd;obtain⟨x,_,rfl⟩:=mMq.mp hr;have l:wa (ve [x,f x]) (.int 0)=some (.int x):=rfl;have n:wa (ve [x,f x]) (.int 1)=some (.int (f x)):=rfl;refine⟨[some (.sh (ve [x,f x]))],?_⟩
  simp_arith [l,n]
  rfl
theorem KS(u:Mp G) (hl:G.flatten.length<=500000):qA (rA (tX Jy (nD (rOf (rY (vS (og 0)) [] qz (kSc (oN C0 (oN wa (nC 0) (rC (.int 0))) (oN wa (nC 0) (rC (.int 1))))))) nV))) (og 0) [] ((own G s).map dP)=some (((own G s).filter zt).map λm=>.sh (dP m)):=by
 have key:∀L:List (List (List Int)),(∀m∈L,∃f,m=pr f G.flatten)->qA (rA (tX Jy (nD (rOf (rY (vS (og 0)) [] qz (kSc (oN C0 (oN wa (nC 0) (rC (.int 0))) (oN wa (nC 0) (rC (.int 1))))))) nV))) (og 0) [] (L.map dP)=some ((L.filter zt).map λm=>.sh (dP m)):=λL x=>by
  have l:∀c,qW (c.map ve)=some c:=qM;rw[Z.xy (λd=>match d with|.list n=>(match qW n with|some c=>zt c|_=>false)|_=>false) λd=>.sh d]
  .rw [gN,mPq];congr 2;refine List.filter_congr λc _=>?_
   show (match qW (c.map ve) with|some c=>zt c|_=>false)=_
   rw[l c]
  .intro d hd;obtain⟨m,t,rfl⟩:=mMq.mp hd;obtain⟨f,rfl⟩:=x m t;have y:=QC f G.flatten;have z:((pr f G.flatten).length<=qK)=True:=eq_true (by rw[GO];show _<=16777216;lia)
   have B:(((pr f G.flatten).map λr=>decide (r.getD 0 0=r.getD 1 0)).map λb=>AV.sh (.bl b)).map oa=((pr f G.flatten).map λr=>decide (r.getD 0 0=r.getD 1 0)).map D.bl:=by rw[mPq];exact mCq λ_ _=>rfl
   have C:Jy [.list (((pr f G.flatten).map λr=>decide (r.getD 0 0=r.getD 1 0)).map D.bl)]=some (.bl (zt (pr f G.flatten))):=by
    rw[WT,CB];unfold zt;rw[cj,ie];rfl
   have E:(match dP (pr f G.flatten) with|.list n=>(match qW n with|some c=>zt c|_=>false)|_=>false)=zt (pr f G.flatten):=by
    show (match qW ((pr f G.flatten).map ve) with|some c=>zt c|_=>false)=_
    rw[l]
   rw[E];refine⟨[some (.sh (dP (pr f G.flatten)))],?_,λ_=>⟨[some (.sh (dP (pr f G.flatten)))],?_⟩⟩
   .simp_arith [z,y,B,C]
   .simp_arith []
 refine key _ λm h=>?_
 obtain⟨f,_,e⟩:=GW u h;exact⟨f,e⟩
theorem QI(l:Mp G) (u:K31.sV G) (n:s∈G.flatten):(own G s).filter zt=[pr (λx=>x) G.flatten]:=by
 refine J8 (Vw l n) (LO l u n (CD G)) λm h=>?_
 obtain⟨f,a,rfl⟩:=GW l h;unfold zt;rw[cM];refine⟨λ⟨r,hr,q⟩=>?_,λe=>?_⟩
 .obtain ⟨x,t,rfl⟩:=mMq.mp hr;have q:x=f x:=of_decide_eq_true q;have t:=(qF _).mem_iff.mp t;have one:=a.one (CD G) l u t q.symm;exact mCq λy z=>by rw[one y ((qF _).mem_iff.mp z)]
 .rw [e];exact⟨[s,s],mMq.mpr ⟨s,(qF _).mem_iff.mpr n,rfl⟩,decide_eq_true rfl⟩
theorem Qb(l:Mp G) (y:K31.sV G) (B:s∈G.flatten) (pick:Int):wy [.list ((own G s).map dP),dI G.flatten,.int pick]=some (.sh (.bl true)):=by
 have hl:=l.hl;have hn:=l.hn;have pos:0<(own G s).length:=bH (LO l y B (CD G));have ln:(own G s).length<=1000:=by
  rw[C8];exact bw (dw _ _) (by lia)
 have C:=wJ (i:=pick) (j:=12) (by decide) (by decide)
 have n:=wJ (i:=pick) (j:=288) (by decide) (by decide)
 have t:∀z:Int,∃f,Au G f/\atI ((own G s).map dP) (z % ((own G s).length:Int))=some (dP (pr f G.flatten)):=λz=>by
  have b0:0<=z % ((own G s).length:Int):=bC _ (by lia)
  have b1:z % ((own G s).length:Int)<((own G s).length:Int):=bE _ (by lia)
  obtain⟨i,Q⟩:∃i:Nat,z % ((own G s).length:Int)=(i:Int):=⟨(z % ((own G s).length:Int)).toNat,by lia⟩
  have L:i<(own G s).length:=by lia
  obtain⟨f,a,e⟩:=GW l (gRq L);refine⟨f,a,?_⟩;rw[Q];exact qE (by rw[gMq,gEg L,e];rfl)
 have R:=λz:Int=>rz (i:=z) (j:=((own G s).length:Int)) (by lia)
 obtain⟨f,af,S⟩:=t (pick / 12);obtain⟨g,U,X⟩:=t (pick / 288);have Y:=C2 af U;have t1:=qM (pr f G.flatten);have t2:=qM (pr g G.flatten);have c1:(∀r∈pr f G.flatten,r.length=2)=True:=eq_true (TU f _);have c2:(∀r∈pr g G.flatten,r.length=2)=True:=eq_true (TU g _);have p1:=Vn f G.flatten;have p2:=VS f G.flatten;have p3:=Vn g G.flatten;have p4:=VS g G.flatten;have z1:=OV f hn;have z2:=OV g hn;have cmp:=BS (cap:=[some (.sh (.dict (kf g G.flatten))),some (.sh (.dict (kf f G.flatten)))]) (k:=kSc (ro (nC 1) (ro (nC 2) (nC 0)))) (f:=λx=>g (f x)) (E:=G.flatten) λx H=>by
  have g1:=DB f hn H;have g2:=DB g hn (af.mem x H)
  simp_arith [g1,g2]
 have u:=BS (cap:=[]) (k:=og 0) (f:=λx=>x) (E:=G.flatten) λx H=>by simp_arith []
 have ti:=qM (G.flatten.map λx=>[x,g (f x)])
 have I:=qM (G.flatten.map λx=>[x,x])
 have M:∀φ:Int->Int,(((G.flatten.map λx=>[x,φ x]).map λr=>AV.sh (ve r)).map oa)=(G.flatten.map λx=>[x,φ x]).map ve:=λφ=>by rw[mPq];exact mCq λ_ _=>rfl
 have s1:=M λx=>g (f x)
 have s2:=M λx=>x
 have n1:((∀r∈G.flatten.map λx=>[x,g (f x)],r≠[])/\G.flatten.length<64)=True:=eq_true ⟨λr hr e=>(by obtain⟨x,_,rfl⟩:=mMq.mp hr;cases e),by lia⟩
 have n2:((∀r∈G.flatten.map λx=>[x,x],r≠[])/\G.flatten.length<64)=True:=eq_true ⟨λr hr e=>(by obtain⟨x,_,rfl⟩:=mMq.mp hr;cases e),by lia⟩
 have sr:=Cd (λx=>g (f x)) hn
 have J:=Cd (λx=>x) hn
 have sp:oa (aP (pr (λx=>g (f x)) G.flatten))=dP (pr (λx=>g (f x)) G.flatten):=K39.zG _
 have Zy:oa (aP (pr (λx=>x) G.flatten))=dP (pr (λx=>x) G.flatten):=K39.zG _
 have O:=Pz (pr (λx=>g (f x)) G.flatten) (own G s)
 rw[decide_eq_true (LO l y B Y)]at O;have P:=KS (s:=s) l (by lia)
 rw[QI l y B]at P;have lE:(G.flatten.length<=qK)=True:=eq_true (by show _<=16777216;lia)
 have lM:((own G s).length<=qK)=True:=eq_true (by show _<=16777216;lia)
 have dv:(G.flatten.length:Int) % ((own G s).length:Int)=0:=by
  have:=Tf l y B;rw[←C8 (G:=G) (s:=s)]at this;lia
 have eq:wZ (.list [dP (pr (λx=>x) G.flatten)]) (.list [dP (pr (λx=>x) G.flatten)])=some (.bl true):=K39.Qm [pr (λx=>x) G.flatten]
 have b1:(!true)=false:=rfl
 simp_arith [wy,D2,C,n,R,S,X,RZ,t1,t2,c1,c2,p1,p2,p3,p4,z1,z2,dI,lE,cmp,GB,s1,ti,n1,sr,sp,O,lM,P,u,s2,I,n2,J,Zy,dv,b1,eq]
end
end K40
namespace K19
open PySem L2 Mr Z Xe Zl K15 K16
theorem Vl(r:List Int):AV.ow ((r.map D.int).reverse.map AV.sh)=aI r.reverse:=by
 unfold aI;rw[←iG,mPq];rfl
theorem QU(rs:List (List Int)):qA qz (Ln (sZ 0)) [] (rs.map dI)=some ((rs.map cF).map aI):=by
 rw[Z.rL λd=>aI (Hu d).reverse]
 .rw [Hm (λr=>aI r.reverse),mPq]
  rfl
 .intro d hd;obtain⟨r,hr,rfl⟩:=J0 hd;have e:=Vl r;refine⟨[some (.sh (dI r))],?_⟩
  simp_arith [BF,UZ,dI,e]
theorem S4{rs:List (List Int)}(h:rs.flatten.length<=1000):∀r∈rs,r.length<=1000:=λr hr=>by
 have:=cf.length_le (aK hr);lia
theorem FB{rs:List (List Int)}(h1:rs.flatten.length<=1000) (h2:rs.length<=63):ya [dM rs]=some (.ow ((mr rs).map aI)):=by
 have rc:=QU rs;have l:rs.length<=qK:=by show _<=16777216;lia
 have n:=tU (rs:=rs.map cF) (λr hr=>by
  obtain⟨t,ht,rfl⟩:=mMq.mp hr;have:=S4 h1 t ht;rw[cH];lia) (by rw[lMq];lia)
 have st:((rs.map cF).map aI).map oa=(rs.map cF).map dI:=by rw[mPq];exact mCq λr _=>oh r
 unfold mr
 simp_arith [ya,E3,dM,rc,l,st,n]
end K19
namespace K40
open PySem L2 Mr Z Zl
open K31 (gm tj Nm Wm)
open K39 (Au)
def md:MS:=(nW (oD 5 (oJ K51.xX (nQ (og 3) oB)))
 (nW (oD 6 (oJ K40.pX (nQ (og 5) oB)))
 (nW (xH (Aq (rA (oN yt (nC 5) (nC 3))) (Aq (rA (oN yt (rOf (oJ K40.pX (nQ (oJ K15.vq (nQ (og 3) oB)) oB))) (nC 6))) (rA (oN yt (rOf (oJ K40.pX (nQ (oJ K19.ya (nQ (og 3) oB)) oB))) (nC 6))))) (qh (kSc (rC (.bl false)))) qa)
 (nW (oD 7 (oJ Zl.pI (nQ (og 3) oB)))
 (nW (xH (rA (oN C0 (tX qu (nD (nC 7) nV)) (rC (.int 0)))) (qh (kSc (oN wZ (nC 6) (rOf (sJ (nQ (sJ oB) oB)))))) qa)
 (nW (xH (Aq (xg (rA (tX zr (nD (nC 6) (nD (rC (.ty "list")) nV))))) (xg (rA (tX NH (nD (rOf (rY (vS (og 6)) [3] qz (kSc (rd K40.qI (nD (nC 0) (nD (nC 1) (nD (nC 1) nV))))))) nV))))) (qh (kSc (rC (.bl false)))) qa)
 (nW (xH (Aq (rA (oN HH (rOf (AZ (lOf (rY (vS (og 7)) [4] qz (ER (nQ (og 0) (nQ (kSc (ro (nC 1) (nC 0))) oB))))))) (nC 6))) (rA (oN Jn (oN tS (tX qu (nD (nC 6) nV)) (nC 2)) (rC (.int 0))))) (qh (kSc (rC (.bl false)))) qa)
 (qh (kSc (rd K40.wy (nD (nC 6) (nD (nC 7) (nD (nC 1) nV)))))))))))))
def hd(k:MS):MS:=(nW (oD 1 (kSc (rd Zl.oj (nD (nC 0) (nD (rC (.int 2)) nV)))))
 (nW (oD 2 (kSc (oN CV (rOf (sJ (nQ (kSc (rC (.int 1))) (nQ (kSc (rC (.int 2))) (nQ (kSc (rC (.int 3))) (nQ (kSc (rC (.int 4))) (nQ (kSc (rC (.int 6))) (nQ (kSc (rC (.int 12))) oB)))))))) (oN tS (oN zS (nC 1) (rC (.int 2))) (rC (.int 6))))))
 (nW (oD 3 (oJ Zl.om (nQ (oJ K40.yg (nQ (og 0) (nQ (og 2) oB))) oB)))
 (nW (oD 4 (oJ K40.sW (nQ (og 0) (nQ (og 2) oB))))
 (nW (xH (rA (oN C0 (oN tS (tX qu (nD (nC 0) nV)) (rC (.int 2))) (rC (.int 0)))) (nW (oD 2 (kSc (rC (.int 1)))) (nW (oD 3 (oJ K40.rP (nQ (og 0) oB))) (oD 4 (Wh (lOf (rY (vS (oJ Zl.pI (nQ (og 3) oB))) [] qz (ER (nQ (og 0) (nQ (og 0) oB))))))))) qa)
 k)))))
theorem De:P1=hd md:=rfl
section
variable {G:List (List Int)}{s:Int}
theorem Ho(gd:uf (G.map good)=G) (ne:∀r∈G,r≠[]) (n:0<G.length):∃s r,G[0]?=some (s::r)/\s∈G.flatten/\∀x∈G.flatten,s<=x:=by
 obtain⟨s,r,h0,l⟩:=K39.MH n ne;have e:gm G=G:=gd;rw[e]at h0 l;exact⟨s,r,h0,mFq.mpr ⟨_,mGq h0,aw ..⟩,l⟩
theorem Lu{M r:List (List Int)}{q:List Int}(B:Mp G) (C:K31.sV G) (h0:G[0]?=some (s::q)) (n:s∈G.flatten) (t:∀x∈G.flatten,s<=x) (o:YX G M):pX [dM M]=some (.ow ((own G s).map aP)):=by
 have E:0<M.length:=by
  cases M with
  |nil=>exact absurd (o.pf.mem_iff.mpr n) (by simp)
  |cons _ _=>simp
 obtain⟨z,H,u,y,l⟩:=Ho o.gd o.ne E;have e:z=s:=by
  have:=t z (o.pf.mem_iff.mp y);have:=l s (o.pf.mem_iff.mpr n);lia
 subst e;rw[Pl o.mp o.cn u,N3 B C o.pf n o.au];rfl
end
section
variable {G:List (List Int)}{s:Int}
theorem Nl(l:Mp G):(own G s).length<=1000:=by
 rw[C8];exact bw (dw _ _) (bw l.hl (by decide))
theorem Ql(n:Mp G) (r:K31.sV G):qA qz (kSc (rd K40.qI (nD (nC 0) (nD (nC 1) (nD (nC 1) nV))))) [some (.sh (dM G))] ((own G s).map dP)=some ((own G s).map λ_=>.sh (.bl true)):=by
 have key:∀L:List (List (List Int)),(∀m∈L,qI [dP m,dM G,dM G]=some (.sh (.bl true)))->qA qz (kSc (rd K40.qI (nD (nC 0) (nD (nC 1) (nD (nC 1) nV))))) [some (.sh (dM G))] (L.map dP)=some (L.map λ_=>.sh (.bl true)):=λL t=>by
  rw[Z.rL λ_=>.sh (.bl true)]
  .rw [mPq];rfl
  .intro d hd;obtain⟨m,l,rfl⟩:=mMq.mp hd;have p:=t m l;refine⟨[some (.sh (dP m)),some (.sh (dM G))],?_⟩
   simp_arith [p]
 refine key _ λm h=>?_
 obtain⟨f,a,rfl⟩:=GW n h;exact MD n r a
theorem UI(l:Mp G) (n:K31.sV G) (gd:uf (G.map good)=G) (ne:∀r∈G,r≠[]) (C:0<G.length)  {σ:Int->Int}(a:Au G σ) {many:Nat}(n0:0<many) (hd:∀s,s∈G.flatten->(own G s).length % many=0) {kvs:List (oq×D)}(H:∀x∈G.flatten,Z.getD kvs (.inl x)=some (.int (σ x))) {v0:Option AV}{pick:Int}{w:AV}(I:w = .ow (G.map aI)∨w = .sh (dM G)) :
  md [v0,some (.sh (.int pick)),some (.sh (.int (many:Int))),some w,some (.owd kvs),none,none,none]=some (.rt (.sh (.bl true))):=by
 obtain⟨s,r,h0,t,u⟩:=Ho gd ne C;have J:=l.hl;have hn:=l.hn;obtain⟨M,L,oM⟩:=Nc l n ne t;have O:=Ks l n ne;have P:=K19.FB (rs:=G) (by lia) l.hr
 have Q:=Lu (r:=G) l n h0 t u oM;have R:=Lu (r:=G) l n h0 t u O;have S:pX [dM G]=some (.ow ((own G s).map aP)):=Pl l n h0;have U:(G.map aI).map oa=G.map dI:=by rw[mPq];exact mCq λr _=>oh r
 have X:(M.map aI).map oa=M.map dI:=by rw[mPq];exact mCq λr _=>oh r
 have Y:((K19.mr G).map aI).map oa=(K19.mr G).map dI:=by rw[mPq];exact mCq λr _=>oh r
 have cp:=K51.L7 (rs:=G) (by have:=l.hr;lia)
 have sO:((own G s).map aP).map oa=(own G s).map dP:=K39.OH _;have nO:yt (.list ((own G s).map dP)) (.list ((own G s).map dP))=some (.bl false):=K39.Uu _;have td:=yE (rs:=G) (by lia)
 have sE:=oh G.flatten;have e0:¬ ((G.flatten.length:Int)=0):=by have:=bH t;lia
 have il:zr [.list ((own G s).map dP),.ty "list"]=some (.bl true):=rfl;have lc:=Ql (s:=s) l n;have y:=K34.Qk (own G s);have lo:=Nl (s:=s) l;have lM:((own G s).length<=qK)=True:=eq_true (by show _<=16777216;lia)
 have lE:(G.flatten.length<=qK)=True:=eq_true (by show _<=16777216;lia)
 have cmp:=BS (cap:=[some (.sh (.dict kvs))]) (k:=kSc (ro (nC 1) (nC 0))) (f:=σ) (E:=G.flatten) λx hx=>by
  have g1:=H x hx
  simp_arith [g1]
 have ti:=qM (G.flatten.map λx=>[x,σ x])
 have s1:(((G.flatten.map λx=>[x,σ x]).map λr=>AV.sh (ve r)).map oa)=(G.flatten.map λx=>[x,σ x]).map ve:=by rw[mPq];exact mCq λ_ _=>rfl
 have n1:((∀r∈G.flatten.map λx=>[x,σ x],r≠[])/\G.flatten.length<64)=True:=eq_true ⟨λr hr e=>(by obtain⟨x,_,rfl⟩:=mMq.mp hr;cases e),by lia⟩
 have sr:=Cd σ hn;have sp:oa (aP (pr σ G.flatten))=dP (pr σ G.flatten):=K39.zG _;have z:=Pz (pr σ G.flatten) (own G s);rw[decide_eq_true (LO l n t a)]at z;have B:=rz (i:=((own G s).length:Int)) (j:=(many:Int)) (by lia)
 have dv:((own G s).length:Int) % (many:Int)=0:=by have:=hd s t;lia
 rw[dv]at B;have gr:=Qb l n t pick;have b1:(!true)=false:=rfl;have d0:Jn (.int 0) (.int 0)=some (.bl false):=rfl;rcases I with rfl|rfl
 all_goals simp_arith [md,dM,dI,cp,U,S,L,X,Q,P,Y,R,sO,nO,td,sE,e0,il,lM,lc,y,lE,cmp,GB,s1,ti,n1,sr,sp,z,B,d0,b1,gr]
end
end K40
namespace K40
open PySem L2 Mr Z Zl
open K31 (gm tj Nm Wm vP)
open K39 (Au)
theorem Tc(x:Int):∃many each:Nat,0<many/\many<=12/\12 / many=each/\many*each=12/\atI [D.int 1,.int 2,.int 3,.int 4,.int 6,.int 12] (x % 6)=some (.int (many:Int)):=by
 have h:x % 6=((0:Nat):Int)∨x % 6=((1:Nat):Int)∨x % 6=((2:Nat):Int)∨x % 6=((3:Nat):Int)∨x % 6=((4:Nat):Int)∨x % 6=((5:Nat):Int):=by lia
 rcases h with h|h|h|h|h|h <;> rw[h]
 .exact ⟨1,12,by decide,by decide,rfl,rfl,qE rfl⟩
 .exact ⟨2,6,by decide,by decide,rfl,rfl,qE rfl⟩
 .exact ⟨3,4,by decide,by decide,rfl,rfl,qE rfl⟩
 .exact ⟨4,3,by decide,by decide,rfl,rfl,qE rfl⟩
 .exact ⟨6,2,by decide,by decide,rfl,rfl,qE rfl⟩
 .exact ⟨12,1,by decide,by decide,rfl,rfl,qE rfl⟩
theorem JI:K15.vq [dM [[]]]=some (.ow ([[]].map aI)):=by
 obtain⟨L,o,e⟩:=K15.B1 K39.K3 (by decide)
 have n:L=[]:=by
  cases L with
  |nil=>rfl
  |cons l L =>
   obtain⟨z,c⟩:=o.cy l (aw ..);have:=(o.all z).mp (mFq.mpr ⟨l,aw ..,c.self⟩);simp at this
 subst n;have r:uf ((K15.xM [[]]++[]).map good)=[[]]:=dS.mp (qj _);rw[e,r]
theorem LA{many:Int}{kvs:List (oq×D)}{v0:Option AV}{pick:Int}{w:AV}(u:w = .ow [aI []]∨w = .sh (.list [.list []])):md [v0,some (.sh (.int pick)),some (.sh (.int many)),some w,some (.owd kvs),none,none,none]=some (.rt (.sh (.bl true))):=by
 have l:=K19.FB (rs:=[[]]) (by simp) (by simp)
 have x:K19.mr [[]]=[[]]:=dS.mp (qj _);rw[x]at l;have r:=JI;have s:=Qr;have t:=K51.L7 (rs:=[[]]) (by simp)
 have n:=yE (rs:=[[]]) (by simp)
 have y:yt (.list [.list []]) (.list [.list []])=some (.bl false):=K39.Uu [[]];have z:wZ (.list [.list []]) (.list [.list []])=some (.bl true):=K39.Qm [[]];have B:decide ((0:Int)=0)=true:=by decide
 have C:((0:Nat):Int)=0:=rfl;have E:([[]]:List (List Int)).flatten=[]:=rfl;rw[E]at n;simp -implicitDefEqProofs only [Z.Tg,de,dg,cz,cA,bJ,↓reduceIte,reduceCtorEq,dM,dI]at l r s t n;rcases u with rfl|rfl
 all_goals simp_arith [md,l,r,s,t,n,y,z,C,B]
theorem Ue{T:List (List Int)}(h:∀r∈T,r≠[]):∀r∈gm T,r≠[]:=λr hr e=>by
 obtain⟨t,ht,rfl⟩:=mMq.mp ((K12.uN T).mem_iff.mp hr);have:=(si t).length_eq;rw[e]at this;exact h t ht (cU this.symm)
theorem UF{T:List (List Int)}(h:T.flatten.Nodup):uf ((gm T).map good)=gm T:=Zl.Eu h
theorem Wz{ns:List Int}(hns:ns.length<=63):FC [.scr ns]=some (.sh (.bl true)):=by
 obtain⟨st,sh,a,b,h1,_,h2,_,h3,h4,en⟩:=K31.So (cell ns 0) (cell ns 1);have t:=K31.VY (b:=b) (n:=12) (by decide) h1 h2 h3 h4
 obtain⟨B,C,U,p2,p3,X,Y⟩:=Tc (cell ns 2 / 2);obtain⟨L,fw⟩:=S8 en U X p3;have M:=RP en t U p2 p3;have hr:=M6 t (by unfold tj;rw[lMq,aD]) X (wl ns) (cl ns)
 have H:(tj st sh a b 12).length=12:=by unfold tj;rw[lMq,aD]
 generalize tj st sh a b 12=nm at t L fw M hr H;have tl:=K39.Fe fw;generalize fr (wl ns) (cl ns) nm C B=u at L fw hr tl;generalize KB (wl ns) (cl ns) nm C B=oY at L fw hr tl;have O:Wm nm (u::oY):=⟨fw.cnt,fw.tr,by simp,by lia⟩
 have mp:=O.mp t;have cn:=O.conn t;have hle:=O.le;have ig:om [dM (u::oY)]=some (.ow ((gm (u::oY)).map aI)):=tU (rs:=u::oY) (λr hr=>by
  have:=cf.length_le (aK hr);lia) (by lia)
 have lG:=K31.Cw (u::oY);have pf:=K31.za (u::oY);have sT:(oY.map λr=>AV.sh (.list (r.map D.int))).map oa=oY.map dI:=by rw[mPq];exact mCq λr _=>rfl
 have J:=oh u;have m2:=λi:Int=>rz (i:=i) (j:=2) (by decide)
 have m6:=λi:Int=>rz (i:=i) (j:=6) (by decide)
 have d2:=λi:Int=>wJ (i:=i) (j:=2) (by decide) (by decide)
 by_cases c:(ns.length:Int) % 2=0
 .obtain ⟨R,ea,hR⟩:=Vf ns;have z:om [.list (.list (u.map D.int)::oY.map dI)]=some (.ow ((gm (u::oY)).map aI)):=ig;rcases hR with rfl|⟨P,rc,rn,rp,rl,rk⟩
  .have eg:gm [[]]=[[]]:=dS.mp (K12.uN [[]]);rw[eg]at ea;have Q:=yE (rs:=[[]]) (by simp)
   have f0:([[]]:List (List Int)).flatten=[]:=rfl;rw[f0]at Q;have tn:qW []=some []:=rfl;have q2:(∀r∈([]:List (List Int)),r.length=2)=True:=by simp
   have dz0:dz [] []=[]:=rfl;have mb:=LA (many:=1) (kvs:=[]) (v0:=some (.sh (.scr ns))) (pick:=cell ns 2) (.inr rfl);have cp0:qA qz (ER (nQ (og 0) (nQ (og 0) oB))) [] []=some []:=rfl;simp -implicitDefEqProofs only [Z.Tg,de,dg,cz,cA,bJ,↓reduceIte,reduceCtorEq,dM,dI]at Q ea mb
   simp_arith [FC,De,hd,IZ,m2,m6,d2,Y,L,sT,J,dM,dI,z,M,c,ea,Q,cp0,RZ,tn,q2,dz0,mb]
  .have hl:=P.hl;have rf:=K31.za R;have rg:=K31.Cw R;have rfl':=rf.length_eq;have Q:=yE (rs:=gm R) (by lia)
   have sG:((gm R).map aI).map oa=(gm R).map dI:=by rw[mPq];exact mCq λr _=>oh r
   have sE:=oh (gm R).flatten;have lE:((gm R).flatten.length<=qK)=True:=eq_true (by show _<=16777216;lia)
   have cmp:=BS (cap:=[]) (k:=og 0) (f:=λx=>x) (E:=(gm R).flatten) λx I=>by simp_arith []
   have ti:=qM ((gm R).flatten.map λx=>[x,x])
   have s1:((((gm R).flatten.map λx=>[x,x]).map λr=>AV.sh (ve r)).map oa)=((gm R).flatten.map λx=>[x,x]).map ve:=by rw[mPq];exact mCq λ_ _=>rfl
   have q2:(∀r∈(gm R).flatten.map λx=>[x,x],r.length=2)=True:=eq_true λr hr=>by obtain⟨x,_,rfl⟩:=mMq.mp hr;rfl
   have e1:((gm R).flatten.map λx=>[x,x]).map (·.getD 0 0)=(gm R).flatten:=by rw[mPq];exact fR _
   have e2:((gm R).flatten.map λx=>[x,x]).map (·.getD 1 0)=(gm R).flatten:=by rw[mPq];exact fR _
   have dq:=K44.Q0 (d:=(gm R).flatten) P.hn rfl;have S:=UI (G:=gm R) P rc (UF (rf.nodup_iff.mp P.hn)) (Ue rn) (by lia) (CD _) (many:=1) (by decide) (λ_ _=>Nat.mod_one _) (kvs:=dz (gm R).flatten (gm R).flatten) (λx I=>by
    rw[dq,K16.Hb];refine K15.vJ ?_ (mMq.mpr ⟨(x,x),?_,rfl⟩)
    .rw [mPq];have:∀l:List Int,(l.zip l).map ((λp:oq×Int=>p.1)∘λp:Int×Int=>((ao p.1:oq),p.2))=l.map ao:=λl=>by
      induction l with
      |nil=>rfl
      |cons y l ih=>rw[cv,ax,ih];rfl
     rw[this,az,aF];exact(az.mp P.hn).imp λn e=>n (ao.inj e)
    .obtain ⟨j,hj⟩:=ay.mp I;exact mGq (cL.mpr ⟨hj,hj⟩)) (v0:=some (.sh (.scr ns))) (pick:=cell ns 2) (.inr rfl)
   have l1:((1:Nat):Int)=1:=rfl;rw[l1]at S;generalize gm R=G at *
   simp_arith [FC,De,hd,IZ,m2,m6,d2,Y,L,sT,J,dM,dI,z,M,c,ea,sG,Q,sE,lE,cmp,RZ,s1,ti,q2,e1,e2,S]
 .have z:om [.list (.list (u.map D.int)::oY.map dI)]=some (.ow ((gm (u::oY)).map aI)):=ig
  by_cases fl:(u::oY).flatten=[]
  .have:=K39.Mh O.tr (by simp) fl
   have eg:gm (u::oY)=[[]]:=by rw[this];exact dS.mp (K12.uN [[]])
   rw[eg]at z;have mb:=LA (many:=(B:Int)) (kvs:=K33.As nm (ot nm C) 0 12) (v0:=some (.sh (.scr ns))) (pick:=cell ns 2) (.inl rfl)
   simp_arith [FC,De,hd,IZ,m2,m6,d2,Y,L,sT,J,dM,dI,z,M,c,mb]
  .have au:=XS mp (Mb t H) hr;have sub:∀x∈(gm (u::oY)).flatten,x∈vP nm:=λx I=>by
    obtain⟨left,cnt⟩:=fw.cnt;have h1:=cS.mpr (pf.mem_iff.mp I);have h2:=cnt x;exact cS.mp (by lia)
   have pl:=pf.length_eq;have S:=UI (G:=gm (u::oY)) mp cn (UF (pf.nodup_iff.mp mp.hn)) (Ue (K39.Tu O.tr fl)) (by rw[lG];simp) au (many:=B) U (λs _=>by rw[C8];exact QM mp au U (λx I=>Ow t H X (sub x I)) λx I i j hij hj=>Ot t H X (sub x I) hij hj) (kvs:=K33.As nm (ot nm C) 0 12) (λx I=>To t H (sub x I)) (v0:=some (.sh (.scr ns))) (pick:=cell ns 2) (.inl rfl)
   generalize gm (u::oY)=G at z S
   simp_arith [FC,De,hd,IZ,m2,m6,d2,Y,L,sT,J,dM,dI,z,M,c,S]
end K40
namespace K40
open PySem L2 Mr Z
theorem U9{l:W.OpenLaw}{w:jt}{K:W.Frag}{h:Heap}{mg:Str->Option Value}{fa:Addr}(X:K.In h) (G:h.Ns jr mg) (hfa:mg "law" = some (.ref fa))
  (a0:At K "turned" zK f0 fd0)
  (a1:At K "told_ends" tG f1 fd1)
  (a2:At K "in_good_order" rF f2 fd2)
  (a3:At K "ends_of" xS f3 fd3)
  (a4:At K "places_at" uG f4 fd4)
  (a5:At K "nexts" Bw f5 fd5)
  (a6:At K "reached" xO f6 fd6)
  (a7:At K "pieces" zQ f7 fd7)
  (a8:At K "refuse_not_one_piece" qq f8 fd8)
  (a9:At K "turn_from" vI f9 fd9)
  (x:At K "round_turns" sX f10 fd10)
  (y:At K "round_ends" uM f11 fd11)
  (z:At K "turn_code" vD f12 fd12)
  (C:At K "code_of" yw f13 fd13)
  (E:At K "round_code" uZ f14 fd14)
  (H:At K "own_turns" vK f15 fd15)
  (I:At K "onwards" yp f16 fd16)
  (J:At K "gone_round" uI f17 fd17)
  (L:At K "lands" BM f18 fd18)
  (M:At K "mirror" Ab f19 fd19)
  (O:At K "_law_cell" vC f20 fd20)
  (Q:At K "_law_name" xT f21 fd21)
  (R:At K "_law_turns" yA f22 fd22)
  (S:At K "_law_turned" wY f23 fd23)
  (U:At K "_law_good" xQ f24 fd24)
  (Y:At K "_law_copy" Ae f25 fd25)
  (a26:At K "_law_whole" yl f26 fd26)
  (a27:At K "_law_follow" wL f27 fd27)
  (a28:At K "_law_pairs" yj f28 fd28)
  (a29:At K "_law_is_laying" ui f29 fd29)
  (a30:At K "_law_fold" zO f30 fd30)
  (a31:At K "_law_flat" zW f31 fd31)
  (a32:At K "_law_next_part" uk f32 fd32)
  (a33:At K "_law_gap_names" uh f33 fd33)
  (a34:At K "_law_dealt" xW f34 fd34)
  (a35:At K "_law_any_map" vM f35 fd35)
  (a36:At K "_law_split" yx f36 fd36)
  (a37:At K "_law_any_piece" ud f37 fd37)
  (a38:At K "_law_group" yB f38 fd38)
  (a39:W.nsIn K jr "law" = some (some (.ref f39))) (l39:K.lookup f39=some ⟨oc39,od39,.func (W.fnOf "law" "law" (wc AH) (vz AH) (nZ AH) .none kV39 dc39 pm39 an39 cd39 ct39),sl39⟩) (c39:W.codeIn K cd39 "law" = true) (k39:W.keepIn K (.ref f39)=true)
  (btu:W.nsIn K jr "tuple" = some none)
  (n:W.nsIn K jr "any" = some none)
  (z0:W.nsIn K jr "len" = some none) (z1:W.nsIn K jr "min" = some none) (z2:W.nsIn K jr "max" = some none) (z3:W.nsIn K jr "abs" = some none) (z4:W.nsIn K jr "all" = some none) (z5:W.nsIn K jr "sorted" = some none) (z6:W.nsIn K jr "isinstance" = some none) (z7:W.nsIn K jr "list" = some none) (z8:W.nsIn K jr "int" = some none) (z9:W.nsIn K jr "bool" = some none) (z10:W.nsIn K jr "str" = some none) (z11:W.nsIn K jr "dict" = some none) (z12:W.nsIn K jr "zip" = some none) (z13:W.nsIn K jr "enumerate" = some none) (z14:W.nsIn K jr "range" = some none) (z15:W.nsIn K jr "reversed" = some none) :
  ∃fd:jK,(∀(s:Shared) (v:Value),mC s fd ⟨[v],[]⟩ [("_law_script", v)])/\∀base:Heap,K.In base->base.Ns jr mg->CQ l.prog w K mg base VH 6 fa fd ["_law_script"] (Lp K):=by
 have e:=hfa.symm.trans (W.mg_of X G a39);cases e;have B:Bt mg:=⟨W.mg_none_of X G z0,W.mg_none_of X G z1,W.mg_none_of X G z2,W.mg_none_of X G z3,W.mg_none_of X G z4,W.mg_none_of X G z5,W.mg_none_of X G z6,W.mg_none_of X G z7,W.mg_none_of X G z8,W.mg_none_of X G z9,W.mg_none_of X G z10,W.mg_none_of X G z11,W.mg_none_of X G z12,W.mg_none_of X G z13,W.mg_none_of X G z14,W.mg_none_of X G z15⟩;have D39:xJ K mg "law" AH ["_law_script"] _ _:=⟨JZ l39 c39 k39,W.mg_of X G a39,b1 (JZ l39 c39 k39) λ_ _ _ _ _ _ _=>rfl⟩
 refine⟨W.fnOf "law" "law" (wc AH) (vz AH) (nZ AH) .none kV39 dc39 pm39 an39 cd39 ct39,λs v=>.of_eq rfl,λbase kb nb=>?_⟩
 have u:=W.mg_none_of X G btu;have r:=W.mg_none_of X G n;have F0:=MV (P:=l.prog) (w:=w) (base:=base) (yF X G a0 (b1 a0.F λ_ _ _ _ _ _ _=>rfl)) B
 have F1:=FN (P:=l.prog) (w:=w) (base:=base) (yF X G a1 (b1 a1.F λ_ _ _ _ _ _ _=>rfl)) B
 have F2:=Ct (yF X G a2 (b1 a2.F λ_ _ _ _ _ _ _=>rfl)) B F0
 have F3:=Kb (yF X G a3 (b1 a3.F λ_ _ _ _ _ _ _=>rfl)) B F1
 have F4:=GR (P:=l.prog) (w:=w) (base:=base) (yF X G a4 (b1 a4.F λ_ _ _ _ _ _ _=>rfl)) B
 have F5:=Qu (P:=l.prog) (w:=w) (base:=base) (yF X G a5 (b1 a5.F λ_ _ _ _ _ _ _=>rfl)) B
 have F6:=KO (yF X G a6 (b2 a6.F λ_ _ _ _ _ _ _ _=>rfl)) B F4
 have F7:=NX (yF X G a7 (b1 a7.F λ_ _ _ _ _ _ _=>rfl)) B F6
 have F8:=yf (yF X G a8 (b1 a8.F λ_ _ _ _ _ _ _=>rfl)) B F7
 have F9:=GK (P:=l.prog) (w:=w) (base:=base) (yF X G a9 (b2 a9.F λ_ _ _ _ _ _ _ _=>rfl)) B
 have F10:=Ds (yF X G x (b2 x.F λ_ _ _ _ _ _ _ _=>rfl)) B F4 F9
 have F11:=Ez (yF X G y (b2 y.F λ_ _ _ _ _ _ _ _=>rfl)) B F1 F10
 have F12:=G9 (P:=l.prog) (w:=w) (base:=base) (yF X G z (b2 z.F λ_ _ _ _ _ _ _ _=>rfl)) B u
 have F13:=Ku (yF X G C (b1 C.F λ_ _ _ _ _ _ _=>rfl)) B u F1 F12
 have F14:=EN (yF X G E (b2 E.F λ_ _ _ _ _ _ _ _=>rfl)) B F13 F10
 have F15:=Gp (yF X G H (b1 H.F λ_ _ _ _ _ _ _=>rfl)) B F8 F14 F11
 have F16:=Kt (yF X G I (b1 I.F λ_ _ _ _ _ _ _=>rfl)) B F5
 have F17:=EK (P:=l.prog) (w:=w) (base:=base) (yF X G J (b2 J.F λ_ _ _ _ _ _ _ _=>rfl)) B
 have F18:=Oi (yF X G L (b1 L.F λ_ _ _ _ _ _ _=>rfl)) B F16 F3 F2 F17
 have F19:=Mg (yF X G M (b1 M.F λ_ _ _ _ _ _ _=>rfl)) B F2
 have t:=Np (P:=l.prog) (w:=w) (base:=base) (yF X G O (b2 O.F λ_ _ _ _ _ _ _ _=>rfl)) B
 have F21:=Nw (P:=l.prog) (w:=w) (base:=base) (yF X G Q (b3 Q.F λ_ _ _ _ _ _ _ _ _=>rfl)) B
 have F22:=Kq (P:=l.prog) (w:=w) (base:=base) (yF X G R (b3 R.F λ_ _ _ _ _ _ _ _ _=>rfl)) B
 have F23:=Iq (P:=l.prog) (w:=w) (base:=base) (yF X G S (b1 S.F λ_ _ _ _ _ _ _=>rfl)) B
 have F24:=Mu (yF X G U (b1 U.F λ_ _ _ _ _ _ _=>rfl)) B F23
 have F25:=NW (P:=l.prog) (w:=w) (base:=base) (yF X G Y (b1 Y.F λ_ _ _ _ _ _ _=>rfl)) B
 have F26:=Jp (P:=l.prog) (w:=w) (base:=base) (yF X G a26 (b1 a26.F λ_ _ _ _ _ _ _=>rfl)) B
 have F27:=H0 (P:=l.prog) (w:=w) (base:=base) (yF X G a27 (b1 a27.F λ_ _ _ _ _ _ _=>rfl)) B
 have F28:=KI (yF X G a28 (b1 a28.F λ_ _ _ _ _ _ _=>rfl)) B u F26
 have F29:=Ef (yF X G a29 (b3 a29.F λ_ _ _ _ _ _ _ _ _=>rfl)) B F27 F28
 have F30:=N9 (yF X G a30 (b2 a30.F λ_ _ _ _ _ _ _ _=>rfl)) B F22 F21 t
 have F31:=N8 (P:=l.prog) (w:=w) (base:=base) (yF X G a31 (b1 a31.F λ_ _ _ _ _ _ _=>rfl)) B
 have F32:=DK (yF X G a32 (b2 a32.F λ_ _ _ _ _ _ _ _=>rfl)) B F21 t
 have F33:=Eb (P:=l.prog) (w:=w) (base:=base) (yF X G a33 (b2 a33.F λ_ _ _ _ _ _ _ _=>rfl)) B
 have F34:=J7 (P:=l.prog) (w:=w) (base:=base) (yF X G a34 (b2 a34.F λ_ _ _ _ _ _ _ _=>rfl)) B
 have F35:=Gg (yF X G a35 (b2 a35.F λ_ _ _ _ _ _ _ _=>rfl)) B F34
 have F36:=JA (P:=l.prog) (w:=w) (base:=base) (yF X G a36 (b1 a36.F λ_ _ _ _ _ _ _=>rfl)) B
 have F37:=Dx (yF X G a37 (b1 a37.F λ_ _ _ _ _ _ _=>rfl)) B F33 F36 F24 t F35
 have F38:=Kk (P:=l.prog) (w:=w) (base:=base) (yF X G a38 (b3 a38.F λ_ _ _ _ _ _ _ _ _=>rfl)) B r
 have F39:=Wn D39 B t F24 F32 F25 F15 F31 F38 F30 F37 F18 F19 F29;exact F39.ok.imp (Rz λns h=>Wz h)
theorem Zh{l:W.OpenLaw}{q:jo}{loose:List Str}{B:(Str->Option Value)->Heap->Prop}{t:jt->Heap->Prop}{d:DefRec}{K:Params->W.Frag}(hn:l.most=some 63) (r:d.params.defaults=[])
  (C:∀(w:jt) (h:Heap),t w h->(K w.params).In h)
  (F:∀(w:jt) (mg:Str->Option Value) (y:Addr) (h:Heap),(K w.params).In h->h.Ns jr mg->mg d.name=some (.ref y) ->
   ∃fd:jK,(∀(s:Shared) (u:Value),mC s fd ⟨[u],[]⟩ [("_law_script", u)])/\∀base:Heap,(K w.params).In base->base.Ns jr mg->CQ l.prog w (K w.params) mg base VH 6 y fd ["_law_script"] (Lp (K w.params))) :
  W.WalkO q loose B t l.row.toRowW d [] (λf vs=>PySem.call f vs) :=
 L2.RO (n:=63) (k:=6) (x := "_law_script") (CX:=λ_=>VH) (sp:=λw=>Lp (K w.params)) hn (by decide) r ⟨rfl,by decide,by decide⟩ C F (λ_ _ a E hl _ G=>⟨a,E,rfl,G,hl,λ_=>rfl⟩) λ_ _ _ _ _ z=>z
end K40
structure PySem.W.Fast:Prop where(tw2143786863388528324 tw12578691418475883483 tw14395588973543183387 tw5246590443399613652 tw4711180209608890081 tw10549833524600151144 tw7369706576957977321 tw17386911956526113277 tw12384622350293947805 tw6872088792441889744 tw11000563716368223282 tw6394417254184860538 tw15577171990103583512 tw16663779854712136644 tw15396961491537464315 tw4534394686884350474 tw2232348025304681867 tw2457976911133383890 tw10569376571326720281 tw2279668573970351586 tw9409365227397223008 tw3460641288814708567 tw15619726882404204355 tw13799479575943398431 tw15749465273947302113 tw16823919694327527676 tw17017911426809306727 tw17661444014683038026 tw14846520954558490839 tw4107694313897708504 tw16800713274982585728 tw16821120158102455836 tw2226511891736527959 tw3036147917262212819 tw5065739275031576991 tw12639959910439501478 tw12480866010843970377 tw6781386633519265953 tw17322351075074907475 tw12918618724335465622 tw4817062918114376779 tw1973673268973192176 tw13638893720332597814 tw755106178186182490 tw16779786819242973706 tw6775976157723310120 tw15890429913860685747 tw15996252647265559578 tw88160751947872124 tw10275060838702617609 tw752719729789218908 tw5324155512469040080 tw17874800424680950172 tw7260419016546029078 tw16699752771302569647 tw13447731320649734529 tw11084292051356476136 tw16988286550360801132 tw10311923194489999171 tw5996575072900110840 tw240410172731452409 tw15237782408199390351 tw2336303008127804483 tw14530280293143008045 tw14713117166738101657 tw10881003844479617251 tw15245638361704617757 tw3128849986048509107 tw11369790690144667643 tw18020796803980866845 tw978104764249897781 tw1505670361415962633 tw6644038757037941551 tw14521041434753626939 tw11206989933800632309 tw14681970506098797702 tw17844436039488358283 tw3656521951652094225 tw9296968076441938256 tw15322968403467776548 tw2877202890399383862 tw5999537203298356820 tw1208988973254181795 tw7595999430623943354 tw10652773191955039732 tw3803487455638388646 tw6777751355087430258 tw9322883734707736567 tw15322117631258928644 tw9595761455155727451 tw873308530114069963 tw2470649247573321628 tw14614157367503014578 tw14832247686415402671 tw10994492899694069804 tw1416052535892937355 tw12415143574605129007 tw11950470949396118167 tw11209889147212857137 tw2062920974634164996 tw10370000581835451271 tw5791359802638919166 tw15761402907011314440 tw9457233021947597248 tw3717909913144388573 tw6364501081177505312 tw7231288659338219695 tw9243943689347873588 tw14459830934570758557 tw1255986514528399273 tw3744033145413355470 tw12075292508786673605 tw12157275627771018776 tw10379822644869440729 tw10414698480513034360 tw7588168376589779845 tw15762345473673394204 tw4956853849091030573 tw16648167452923070752 tw11335613542175077977 tw9410899747376002183 tw9548105029566415408 tw15436946477156905550 tw4086629365552098297 tw4049027651872735696 tw6816490219858740552 tw2810414412390142920 tw11678318591404552682 tw10444814825820630602 tw2962140331832888462 tw4921726799476907005 tw145284289186108673 tw14782300984142254449 tw6515035047693850272 tw15635138572621533981 tw16560578976016081502 tw14082833678494809289 tw7014425880964848257 tw8453016958250708587 tw8294236167309505224 tw10616396990315319575 tw4057363074290521774 tw13094582583647659031 tw15412475494922158920 tw14931407298245620701 tw10144947518089157393 tw10016185057159647137 tw3571207544545195662 tw1814779012125655228 tw13764153889251043588 tw14848004376693364531 tw8158885103580912614 tw2091440933115428044 tw7884707160929085931 tw8732011333339137172 tw3392663141138272096 tw13501778497511961038 tw9439217506923114485 tw8154238287158595880 tw16825708283503067945 tw1170801063663889322 tw6222961162574228297 tw8922063701025620172 tw16014664258424291666 tw6308730610557263141 tw7821187347640599904 tw17521390420072980236 tw9343334730920402435 tw2051050194649075626 tw971159292133465707 tw6974990830112921207 tw13277877610793259731 tw11166040637104309561 tw3070413338147043191 tw4573736791694231491 tw1448790360196619140 tw784267349762958520 tw5133746271864032970 tw5624180944982071447 tw9875695453462267345 tw5646137409001370501 tw8472248510706458502 tw4468482365792512114 tw14494844671090399824 tw11393613906192509591 tw738603577131481242 tw626018311393432684 tw13724881094730591749 tw10045076106175881508 tw16234326979940510432 tw12308761943157288107 tw17266506200691860039 tw13157648200113354290 tw8282773976112641251 tw6053340444207920108 tw8817114766248026206 tw12319290046756155857 tw3336200927074300733 tw6340008736035529923:True)
open PySem PySem.W PyProof.Rows
set_option maxRecDepth 100000 in
set_option maxHeartbeats 0 in
theorem PySem.Challenge.cw_mapround_k40_whole_own_turns_kept_holds : PySem.Challenge.rw_mapround_k40_whole_own_turns_kept.Holds := by
 w_on;o_law;k_head;(case hw=>w_witness2)
 k_fill
 refine K40.Zh (l:=PySem.Challenge.rw_mapround_k40_whole_own_turns_kept) rfl rfl (λw h Y=>W.kIn_of Y) ?F
 case F =>
  intro w mg fa h KX G hmg;apply K40.U9 KX G hmg
  all_goals first|exact Mr.WZ (by k_is) (by k_is) (by k_is) (by k_is)|exact Mr.atM_mk (by k_is) (by k_is) (by k_is) (by k_is) (by k_is)|k_is|kernel_rfl
